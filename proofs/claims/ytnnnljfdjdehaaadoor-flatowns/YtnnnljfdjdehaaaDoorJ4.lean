/- conf.Check. -/
import Derived.Test.YtnnnljfdjdehaaaDoorJ3
import Derived.Test.YtnnnljfdjdehaaaDoorJ1
import Derived.Deep.RegionWith
namespace Go.Proofs.YtnnnljfdjdehaaaDoor
set_option linter.unusedSimpArgs false
set_option linter.unusedVariables false
open Go.RowKit Go.Sort

set_option maxHeartbeats 2000000 in
theorem confCheck_any (S : SysD) (vp vc vs : Value) (w : World) (he : Env w) (hS : Sys w vp vc vs S) : Calls Tryd.prog 29 #[.agg #[vp, vc, vs]] w fun e w' => e = .returned (.int .i64 (chkS S)) ∧ Below w.heap.size w w' := by
  generalize hr : chkS S = r
  unfold chkS at hr
  obtain ⟨pa, pc, rfl⟩ := hS.p.form
  obtain ⟨ca, cc, rfl⟩ := hS.c.form
  obtain ⟨sa, sc, rfl⟩ := hS.s.form
  have HS := Lib.hid hS
  generalize hc : countsB S = qc at hr
  have HC := Lib.hid hc
  clear hS
  cases qc
  · obtain rfl : 2 = r := hr
    clear hc
    go_enter Tryd.func29, Tryd.ntmps29
    go_wp2_with fail
    refine (counts_any S _ _ _ _ (HS.out.up (by repeat (first | exact Below.refl _ _ | assumption | refine Below.drew ?_ | refine Below.alloc ?_ (by first | (simp; done) | (simp; omega)) _ | refine Below.setCell ?_ (by first | (simp; done) | (simp; omega)) _)))).mono ?_
    rw [HC.out]
    rintro e w1 ⟨rfl, bb⟩
    have D := Lib.hid (Below.trans (show Below w.heap.size w _ from (by repeat (first | exact Below.refl _ _ | assumption | refine Below.drew ?_ | refine Below.alloc ?_ (by first | (simp; done) | (simp; omega)) _ | refine Below.setCell ?_ (by first | (simp; done) | (simp; omega)) _))) (bb.mono (by simp)))
    clear bb
    go_wp2
    go_ret
    exact ⟨rfl, D.out⟩
  · rw [if_neg (by decide)] at hr
    have hn : 1 ≤ S.parts.length ∧ S.parts.length ≤ 4 ∧ S.chans.length ≤ 6 := by unfold countsB at hc; simp at hc; omega
    obtain ⟨hn0, hn1, hn2⟩ := hn
    have HR := Lib.hid hr
    obtain ⟨pb, po, pc', e1, hpc, hpb, hpp⟩ := HS.out.p.open (by omega)
    cases e1
    have HP := Lib.hid hpp
    clear hr hc hpp
    go_enter Tryd.func29, Tryd.ntmps29
    go_wp2_with fail
    refine (counts_any S _ _ _ _ (HS.out.up (by repeat (first | exact Below.refl _ _ | assumption | refine Below.drew ?_ | refine Below.alloc ?_ (by first | (simp; done) | (simp; omega)) _ | refine Below.setCell ?_ (by first | (simp; done) | (simp; omega)) _)))).mono ?_
    rw [HC.out]
    rintro e w1 ⟨rfl, bb⟩
    have D : Below w.heap.size w w1 := (Below.trans (show Below w.heap.size w _ from (by repeat (first | exact Below.refl _ _ | assumption | refine Below.drew ?_ | refine Below.alloc ?_ (by first | (simp; done) | (simp; omega)) _ | refine Below.setCell ?_ (by first | (simp; done) | (simp; omega)) _))) (bb.mono (by simp)))
    have hB := (box_new w (.slice (some ⟨pb, po, none⟩) S.parts.length pc) (.slice ca S.chans.length cc) (.slice sa S.slots.length sc) 26 _ rfl).up bb
    have k0 := hB.p
    have HB := Lib.hid hB
    have HD := Lib.hid D
    clear bb D hB
    go_wp2
    go_loopw [12] (fun i wr => ∃ k : Nat, i = .int .i64 k ∧ k ≤ S.parts.length ∧ Hid (∀ j (h : j < S.parts.length), j < k → chkC S.parts[j].code = 0) ∧ Hid (Below w1.heap.size w1 wr)) (fun i _ => S.parts.length - (intOf i).toNat)
    case atStart => exact ⟨0, rfl, Nat.zero_le _, fun j hj h => by omega, Below.refl _ _⟩
    case round =>
      obtain ⟨k, rfl, hk, HN, hbel⟩ := hrel
      have HT := Lib.hid (HD.out.trans (hbel.out.mono HD.out.size))
      have hts := HT.out.size
      by_cases hlt : k < S.parts.length
      · have hli : (k : Int) < S.parts.length := by omega
        obtain ⟨c, i, c0, c1, hpr⟩ := HP.out k hlt
        obtain ⟨a1, b1, rfl⟩ := hpr.code.form
        obtain ⟨a2, b2, rfl⟩ := hpr.inn.form
        have c0 := bcl HT.out hpb c0
        have c1 := bcl HT.out hpb c1
        have HPR := Lib.hid hpr
        clear hpr k0
        generalize hcz : chkC S.parts[k].code = z
        have HCZ := Lib.hid hcz
        clear hcz
        have e0 := he.up HT.out
        go_wp2_with fail
        refine (codeCheck_any S.parts[k].code _ _ (e0.up (by repeat (first | exact Below.refl _ _ | assumption | refine Below.drew ?_ | refine Below.alloc ?_ (by first | (simp; done) | (simp; omega)) _ | refine Below.setCell ?_ (by first | (simp; done) | (simp; omega)) _))) ((HPR.out.code.up HT.out).up (by repeat (first | exact Below.refl _ _ | assumption | refine Below.drew ?_ | refine Below.alloc ?_ (by first | (simp; done) | (simp; omega)) _ | refine Below.setCell ?_ (by first | (simp; done) | (simp; omega)) _)))).mono ?_
        rw [HCZ.out]
        rintro e w2 ⟨rfl, bb⟩
        have HD2 := Lib.hid (show Below wr.heap.size wr w2 from Below.trans (by repeat (first | exact Below.refl _ _ | assumption | refine Below.drew ?_ | refine Below.alloc ?_ (by first | (simp; done) | (simp; omega)) _ | refine Below.setCell ?_ (by first | (simp; done) | (simp; omega)) _)) (bb.mono (by simp)))
        clear bb c0 c1
        by_cases hz : z = 0
        · subst hz
          go_wp2
          go_roundw
          case rel => exact ⟨k + 1, by go_num, by omega, (fun j hj hjk => by
            by_cases e : j = k
            · subst e; exact HCZ.out
            · exact HN.out j hj (by omega)), hbel.out.trans (HD2.out.mono hbel.out.size)⟩
          case measure => simp [intOf]; omega
        · have hz' : (z != 0) = true := by simpa using hz
          have HF := Lib.hid (firstP_at S.parts k hlt HN.out (by rw [HCZ.out]; exact hz))
          have HRR : Hid (r = z) := by
            show r = z
            have := HR.out
            rw [HF.out, HCZ.out, if_pos hz] at this
            exact this.symm
          clear hz
          go_wp2
          go_ret
          exact ⟨ret_int HRR.out.symm, HT.out.trans (HD2.out.mono hts)⟩
      · have hli : ¬ (k : Int) < S.parts.length := by omega
        have HF := Lib.hid (firstP_all S.parts (fun j hj => HN.out j hj (by omega)))
        have HR2 := HR
        clear HR
        have HR : Hid ((if S.chans.any kindBad = true then (4 : Int) else if placesB S = false then 3 else if namesB S = false then 1 else 0) = r) := by
          have := HR2.out
          rw [HF.out, if_neg (by simp)] at this
          exact this
        have HBr := Lib.hid (HB.out.up hbel.out)
        have k0 := HBr.out.p
        have k1 := HBr.out.c
        have k2 := HBr.out.s
        generalize hq1 : S.chans.any kindBad = q1
        have H1 := Lib.hid hq1
        clear hq1 HR2 HN
        go_wp2_with fail
        refine (oneChan_any S.chans _ _ enCheck1 #[] kindBad _ (HS.out.c.up HT.out) (by omega) (fun k hk w1 hb => ?_) q1 H1.out).mono ?_
        · rw [app0]
          exact kindLit_any _ _
        rintro e w2 ⟨rfl, bb⟩
        have HT := Lib.hid (HT.out.trans (bb.mono hts))
        have hts := HT.out.size
        have HBr := Lib.hid (HBr.out.up bb)
        clear k0 k1 k2 bb
        have k0 := HBr.out.p
        have k1 := HBr.out.c
        have k2 := HBr.out.s
        cases q1
        · generalize hq2 : placesB S = q2
          have H2 := Lib.hid hq2
          clear hq2
          go_wp2_with fail
          refine (places_any S _ _ _ _ (HS.out.up HT.out) HC.out).mono ?_
          rw [H2.out]
          rintro e w3 ⟨rfl, bb⟩
          have HT := Lib.hid (HT.out.trans (bb.mono hts))
          have hts := HT.out.size
          have HBr := Lib.hid (HBr.out.up bb)
          clear k0 k1 k2 bb
          have k0 := HBr.out.p
          have k1 := HBr.out.c
          have k2 := HBr.out.s
          cases q2
          · have HRR : Hid (3 = r) := by show 3 = r; have := HR.out; rw [H1.out, H2.out] at this; simpa using this
            go_wp2
            go_ret
            exact ⟨ret_int HRR.out, HT.out⟩
          · generalize hq3 : namesB S = q3
            have H3 := Lib.hid hq3
            clear hq3
            go_wp2_with fail
            refine (names_any S _ _ _ _ (he.up HT.out) (HS.out.up HT.out) HC.out HF.out).mono ?_
            rw [H3.out]
            rintro e w4 ⟨rfl, bb⟩
            have HT := Lib.hid (HT.out.trans (bb.mono hts))
            have HRR : Hid ((if q3 = false then (1 : Int) else 0) = r) := by show (if q3 = false then (1 : Int) else 0) = r; have := HR.out; rw [H1.out, H2.out, H3.out] at this; simpa using this
            clear bb k0 k1 k2
            cases q3
            all_goals
              go_wp2
              go_ret
              exact ⟨ret_int HRR.out, HT.out⟩
        · have HRR : Hid (4 = r) := by show 4 = r; have := HR.out; rw [H1.out] at this; simpa using this
          go_wp2
          go_ret
          exact ⟨ret_int HRR.out, HT.out⟩
end Go.Proofs.YtnnnljfdjdehaaaDoor

namespace Go.Proofs.YtnnnljfdjdehaaaDoor
set_option linter.unusedSimpArgs false
set_option linter.unusedVariables false
open Go.RowKit Go.Sort

theorem ent_lineCheck : Enters 67 := enters Tryd.func67 (by kernel_rfl) (by kernel_rfl)
set_option maxRecDepth 100000 in
set_option maxHeartbeats 8000000 in
theorem rightLines_any (cs : List Chn) (ls : List (List Int)) (v u : Value) (hl : cs.length ≤ 6) (w : World) (hP : Sl w 3 v cs.length (rowC chC cs)) (hC : LinesR w u ls) (r : Bool) (hr : linesB cs ls = r) :
    Calls Tryd.prog 47 #[v, u] w fun e w' => e = .returned (.bool r) ∧ Below w.heap.size w w' := by
  obtain ⟨pa, pc, rfl⟩ := hP.form
  obtain ⟨ca, cc, rfl⟩ := hC.form
  have HP := Lib.hid hP
  have HC := Lib.hid hC
  have HR := Lib.hid hr
  clear hP hC hr
  by_cases he : ls.length = cs.length
  · have he' : ((ls.length : Int) != cs.length) = false := by simp; omega
    have HL := Lib.hid he
    clear he
    go_enter Tryd.func47, Tryd.ntmps47
    go_wp2
    go_loopw [14] (fun i wr => ∃ k : Nat, i = .int .i64 k ∧ k ≤ ls.length ∧ Hid (∀ j (h : j < cs.length) (h' : j < ls.length), j < k → chkL cs[j].kd ls[j].length = 0) ∧ Hid (Below w.heap.size w wr)) (fun i _ => ls.length - (intOf i).toNat)
    case atStart => exact ⟨0, rfl, Nat.zero_le _, Lib.hid (fun j h h' h0 => by omega), Lib.hid (Below.refl _ _)⟩
    case round =>
      obtain ⟨k, rfl, hk, HZ, HB⟩ := hrel
      by_cases hlt : k < ls.length
      · have hli : (k : Int) < ls.length := by omega
        have hlp : k < cs.length := by have := HL.out; omega
        have hlip : (k : Int) < cs.length := by omega
        obtain ⟨b, off, cap, e1, hcap, hbw, hc⟩ := HC.out.open (by omega)
        cases e1
        obtain ⟨ao, oc, hra, hso⟩ := hc k hlt
        obtain ⟨pb, po, pcap, e2, hpcap, hpbw, hpc⟩ := HP.out.open (by omega)
        cases e2
        obtain ⟨hkd, _, _⟩ := chan_cells hpc k hlp
        have ra := bcl HB.out hbw hra
        have PC := Lib.hid (bcl HB.out hpbw hkd)
        have hws := HB.out.size
        have hbr : b < wr.heap.size := by omega
        have hbr' : b ≠ wr.heap.size := by omega
        generalize hd : ls[k] = l at ra
        generalize hp : cs[k] = p at PC
        obtain ⟨kd, fr, tt⟩ := p
        have HD := Lib.hid hd
        have HPk := Lib.hid hp
        simp only at PC
        clear hra hso hc hpc hkd hd hp
        go_wp2
        generalize hW : World.alloc _ _ = W
        have RW : Hid (Rw W wr.heap.size 65 #[.slice ao l.length oc]) := by
          show Rw _ _ _ _
          rw [← hW]
          exact (by repeat (first | exact Rw.new _ _ _ (by first | rfl | (simp; done) | omega | (simp; omega)) | refine Rw.alloc ?_ _))
        have b0 : Below wr.heap.size wr W := by rw [← hW]; exact (Below.refl _ _).alloc (Nat.le_refl _) _
        have hzW : W.heap.size = wr.heap.size + 1 := by rw [← hW]; simp
        have PW := Lib.hid (bcl b0 (by omega) PC.out)
        have HBW := Lib.hid (HB.out.trans (b0.mono (by omega)))
        have hpbW : pb < W.heap.size := by omega
        clear hW ra PC HB b0
        obtain ⟨e0, hce⟩ : ∃ e0, chkL kd l.length = e0 := ⟨_, rfl⟩
        have HCK := Lib.hid fun V => chkLine_any kd ao l.length oc V e0 hce
        have HCE := Lib.hid hce
        clear hce
        by_cases h0 : e0 = 0
        · subst h0
          have HYES := Lib.hid (show chkL cs[k].kd ls[k].length = 0 by rw [HD.out, HPk.out]; exact HCE.out)
          refine region_still (S := fun w' => Below W.heap.size W w') 7 (by kernel_rfl) (Below.refl _ _).drew (fun hHeld => ?_)
          refine Still.takeBy (i := 0) [6, 4, 3, 2] (v := ?v11) (by kernel_rfl) (by kernel_rfl) rfl (by kernel_rfl) (by kernel_rfl) (by kernel_rfl) (fun _ _ _ h => h) (Or.inl ⟨by rfl, ?y11⟩) hHeld ?r11
          case y11 => (intro w' hSw; (try dsimp only at hSw); have q1 := (RW.out.up hSw RW.out.lt).cell (j := 0) (v := .slice ao l.length oc) rfl; have q2 := bcl hSw hpbW PW.out; clear hSw; go_simp; try with_reducible rfl)
          simp only [Act.put, List.getElem_toArray, List.getElem_cons_zero, List.getElem_cons_succ, List.setIfInBounds_toArray, List.set_cons_zero, List.set_cons_succ]
          refine Still.takeBy (i := 1) [6, 4, 3, 2] (v := ?v12) (by kernel_rfl) (by kernel_rfl) rfl (by kernel_rfl) (by kernel_rfl) (by kernel_rfl) (fun _ _ _ h => h) (Or.inl ⟨by rfl, ?y12⟩) hHeld ?r12
          case y12 => (intro w' hSw; (try dsimp only at hSw); have q1 := (RW.out.up hSw RW.out.lt).cell (j := 0) (v := .slice ao l.length oc) rfl; have q2 := bcl hSw hpbW PW.out; clear hSw; go_simp; try with_reducible rfl)
          simp only [Act.put, List.getElem_toArray, List.getElem_cons_zero, List.getElem_cons_succ, List.setIfInBounds_toArray, List.set_cons_zero, List.set_cons_succ]
          refine Still.takeBy (i := 2) [6, 4, 3] (v := ?v13) (by kernel_rfl) (by kernel_rfl) rfl (by kernel_rfl) (by kernel_rfl) (by kernel_rfl) (fun _ _ _ h => h) (Or.inl ⟨by rfl, ?y13⟩) hHeld ?r13
          case y13 => (intro w' hSw; (try dsimp only at hSw); have q1 := (RW.out.up hSw RW.out.lt).cell (j := 0) (v := .slice ao l.length oc) rfl; have q2 := bcl hSw hpbW PW.out; clear hSw; go_simp; try with_reducible rfl)
          simp only [Act.put, List.getElem_toArray, List.getElem_cons_zero, List.getElem_cons_succ, List.setIfInBounds_toArray, List.set_cons_zero, List.set_cons_succ]
          refine Still.takeBy (i := 3) [6, 4] (v := ?v14) (by kernel_rfl) (by kernel_rfl) rfl (by kernel_rfl) (by kernel_rfl) (by kernel_rfl) (fun _ _ _ h => h) (Or.inl ⟨by rfl, ?y14⟩) hHeld ?r14
          case y14 => (intro w' hSw; (try dsimp only at hSw); have q1 := (RW.out.up hSw RW.out.lt).cell (j := 0) (v := .slice ao l.length oc) rfl; have q2 := bcl hSw hpbW PW.out; clear hSw; go_simp; try with_reducible rfl)
          simp only [Act.put, List.getElem_toArray, List.getElem_cons_zero, List.getElem_cons_succ, List.setIfInBounds_toArray, List.set_cons_zero, List.set_cons_succ]
          refine Still.takeBy (i := 4) [6] (v := ?v15) (by kernel_rfl) (by kernel_rfl) rfl (by kernel_rfl) (by kernel_rfl) (by kernel_rfl) (fun _ _ _ h => h) (Or.inl ⟨by rfl, ?y15⟩) hHeld ?r15
          case y15 => (intro w' hSw; (try dsimp only at hSw); have q1 := (RW.out.up hSw RW.out.lt).cell (j := 0) (v := .slice ao l.length oc) rfl; have q2 := bcl hSw hpbW PW.out; clear hSw; go_simp; try with_reducible rfl)
          simp only [Act.put, List.getElem_toArray, List.getElem_cons_zero, List.getElem_cons_succ, List.setIfInBounds_toArray, List.set_cons_zero, List.set_cons_succ]
          refine Still.takeBy (i := 5) [6] (v := ?v16) (by kernel_rfl) (by kernel_rfl) rfl (by kernel_rfl) (by kernel_rfl) (by kernel_rfl) (fun _ _ _ h => h) (Or.inl ⟨by rfl, ?y16⟩) hHeld ?r16
          case y16 => (intro w' hSw; (try dsimp only at hSw); have q1 := (RW.out.up hSw RW.out.lt).cell (j := 0) (v := .slice ao l.length oc) rfl; have q2 := bcl hSw hpbW PW.out; clear hSw; go_simp; try with_reducible rfl)
          simp only [Act.put, List.getElem_toArray, List.getElem_cons_zero, List.getElem_cons_succ, List.setIfInBounds_toArray, List.set_cons_zero, List.set_cons_succ]
          refine Still.all (rs := [6]) (by kernel_rfl) (by simp) (Still.one (i := 6) rfl rfl (fun K hK => ?_) (by simp))
          refine wp_call 67 _ _ rfl ent_lineCheck #[.int .i64 kd, .agg #[.slice ao l.length oc]] (by first | rfl | simp [Act.eval, Act.put]) ((HCK.out _).mono ?_)
          rintro e V1 ⟨rfl, bb⟩
          refine ⟨_, rfl, hK _ _ (fun _ => hHeld.trans (bb.mono hHeld.size)) (fun hh => ?_)⟩
          have hHeld := hh (by decide)
          clear hK K hh
          try simp only [Act.put, List.getElem_toArray, List.getElem_cons_zero, List.getElem_cons_succ, List.setIfInBounds_toArray, List.set_cons_zero, List.set_cons_succ]
          clear bb
          refine Still.all (rs := [7]) (by kernel_rfl) (by simp) (Still.one (i := 7) rfl rfl (fun K hK => ?_) (by simp))
          go_simp
          refine hK _ _ (fun h => absurd rfl h) (fun _ => ?_)
          clear hK K
          refine Still.over (by kernel_rfl) ?_ _
          have HL2 := Lib.hid (HBW.out.trans (hHeld.mono HBW.out.size))
          clear hHeld
          go_wp2
          go_roundw
          case rel => exact ⟨k + 1, by go_num, by omega, Lib.hid (fun j h h' hj => by
            rcases Nat.lt_or_ge j k with h1 | h1
            · exact HZ.out j h h' h1
            · obtain rfl : j = k := by omega
              exact HYES.out), HL2⟩
          case measure => simp [intOf]; omega
        · have h0' : (e0 != 0) = true := by simpa using h0
          have HNO := Lib.hid (show linesB cs ls = false from linesB_no k hlp hlt (by rw [HD.out, HPk.out]; show chkL kd l.length ≠ 0; rw [HCE.out]; exact h0))
          clear h0
          refine region_still (S := fun w' => Below W.heap.size W w') 7 (by kernel_rfl) (Below.refl _ _).drew (fun hHeld => ?_)
          refine Still.takeBy (i := 0) [6, 4, 3, 2] (v := ?v41) (by kernel_rfl) (by kernel_rfl) rfl (by kernel_rfl) (by kernel_rfl) (by kernel_rfl) (fun _ _ _ h => h) (Or.inl ⟨by rfl, ?y41⟩) hHeld ?r41
          case y41 => (intro w' hSw; (try dsimp only at hSw); have q1 := (RW.out.up hSw RW.out.lt).cell (j := 0) (v := .slice ao l.length oc) rfl; have q2 := bcl hSw hpbW PW.out; clear hSw; go_simp; try with_reducible rfl)
          simp only [Act.put, List.getElem_toArray, List.getElem_cons_zero, List.getElem_cons_succ, List.setIfInBounds_toArray, List.set_cons_zero, List.set_cons_succ]
          refine Still.takeBy (i := 1) [6, 4, 3, 2] (v := ?v42) (by kernel_rfl) (by kernel_rfl) rfl (by kernel_rfl) (by kernel_rfl) (by kernel_rfl) (fun _ _ _ h => h) (Or.inl ⟨by rfl, ?y42⟩) hHeld ?r42
          case y42 => (intro w' hSw; (try dsimp only at hSw); have q1 := (RW.out.up hSw RW.out.lt).cell (j := 0) (v := .slice ao l.length oc) rfl; have q2 := bcl hSw hpbW PW.out; clear hSw; go_simp; try with_reducible rfl)
          simp only [Act.put, List.getElem_toArray, List.getElem_cons_zero, List.getElem_cons_succ, List.setIfInBounds_toArray, List.set_cons_zero, List.set_cons_succ]
          refine Still.takeBy (i := 2) [6, 4, 3] (v := ?v43) (by kernel_rfl) (by kernel_rfl) rfl (by kernel_rfl) (by kernel_rfl) (by kernel_rfl) (fun _ _ _ h => h) (Or.inl ⟨by rfl, ?y43⟩) hHeld ?r43
          case y43 => (intro w' hSw; (try dsimp only at hSw); have q1 := (RW.out.up hSw RW.out.lt).cell (j := 0) (v := .slice ao l.length oc) rfl; have q2 := bcl hSw hpbW PW.out; clear hSw; go_simp; try with_reducible rfl)
          simp only [Act.put, List.getElem_toArray, List.getElem_cons_zero, List.getElem_cons_succ, List.setIfInBounds_toArray, List.set_cons_zero, List.set_cons_succ]
          refine Still.takeBy (i := 3) [6, 4] (v := ?v44) (by kernel_rfl) (by kernel_rfl) rfl (by kernel_rfl) (by kernel_rfl) (by kernel_rfl) (fun _ _ _ h => h) (Or.inl ⟨by rfl, ?y44⟩) hHeld ?r44
          case y44 => (intro w' hSw; (try dsimp only at hSw); have q1 := (RW.out.up hSw RW.out.lt).cell (j := 0) (v := .slice ao l.length oc) rfl; have q2 := bcl hSw hpbW PW.out; clear hSw; go_simp; try with_reducible rfl)
          simp only [Act.put, List.getElem_toArray, List.getElem_cons_zero, List.getElem_cons_succ, List.setIfInBounds_toArray, List.set_cons_zero, List.set_cons_succ]
          refine Still.takeBy (i := 4) [6] (v := ?v45) (by kernel_rfl) (by kernel_rfl) rfl (by kernel_rfl) (by kernel_rfl) (by kernel_rfl) (fun _ _ _ h => h) (Or.inl ⟨by rfl, ?y45⟩) hHeld ?r45
          case y45 => (intro w' hSw; (try dsimp only at hSw); have q1 := (RW.out.up hSw RW.out.lt).cell (j := 0) (v := .slice ao l.length oc) rfl; have q2 := bcl hSw hpbW PW.out; clear hSw; go_simp; try with_reducible rfl)
          simp only [Act.put, List.getElem_toArray, List.getElem_cons_zero, List.getElem_cons_succ, List.setIfInBounds_toArray, List.set_cons_zero, List.set_cons_succ]
          refine Still.takeBy (i := 5) [6] (v := ?v46) (by kernel_rfl) (by kernel_rfl) rfl (by kernel_rfl) (by kernel_rfl) (by kernel_rfl) (fun _ _ _ h => h) (Or.inl ⟨by rfl, ?y46⟩) hHeld ?r46
          case y46 => (intro w' hSw; (try dsimp only at hSw); have q1 := (RW.out.up hSw RW.out.lt).cell (j := 0) (v := .slice ao l.length oc) rfl; have q2 := bcl hSw hpbW PW.out; clear hSw; go_simp; try with_reducible rfl)
          simp only [Act.put, List.getElem_toArray, List.getElem_cons_zero, List.getElem_cons_succ, List.setIfInBounds_toArray, List.set_cons_zero, List.set_cons_succ]
          refine Still.all (rs := [6]) (by kernel_rfl) (by simp) (Still.one (i := 6) rfl rfl (fun K hK => ?_) (by simp))
          refine wp_call 67 _ _ rfl ent_lineCheck #[.int .i64 kd, .agg #[.slice ao l.length oc]] (by first | rfl | simp [Act.eval, Act.put]) ((HCK.out _).mono ?_)
          rintro e V1 ⟨rfl, bb⟩
          refine ⟨_, rfl, hK _ _ (fun _ => hHeld.trans (bb.mono hHeld.size)) (fun hh => ?_)⟩
          have hHeld := hh (by decide)
          clear hK K hh
          try simp only [Act.put, List.getElem_toArray, List.getElem_cons_zero, List.getElem_cons_succ, List.setIfInBounds_toArray, List.set_cons_zero, List.set_cons_succ]
          clear bb
          refine Still.all (rs := [7]) (by kernel_rfl) (by simp) (Still.one (i := 7) rfl rfl (fun K hK => ?_) (by simp))
          go_simp
          refine hK _ _ (fun h => absurd rfl h) (fun _ => ?_)
          clear hK K
          refine Still.over (by kernel_rfl) ?_ _
          have HL2 := Lib.hid (HBW.out.trans (hHeld.mono HBW.out.size))
          clear hHeld
          go_wp2
          go_ret
          exact ⟨ret_bool (by rw [← HR.out, HNO.out]), HL2.out⟩
      · have hli : ¬ (k : Int) < ls.length := by omega
        have HYES := Lib.hid (show linesB cs ls = true from linesB_yes HL.out (fun j h h' => HZ.out j h h' (by omega)))
        go_wp2
        go_ret
        exact ⟨ret_bool (by rw [← HR.out, HYES.out]), HB.out⟩
  · have he' : ((ls.length : Int) != cs.length) = true := by simp; omega
    have HNO : Hid (linesB cs ls = false) := by
      show _ = _
      cases e : linesB cs ls with
      | false => rfl
      | true => exact absurd (linesB_len e) he
    clear he
    go_enter Tryd.func47, Tryd.ntmps47
    go_wp2
    go_ret
    exact ⟨ret_bool (by rw [← HR.out, HNO.out]), Below.refl _ _⟩

set_option maxRecDepth 100000 in
set_option maxHeartbeats 8000000 in
/-- kern.Check. -/
theorem kernCheck_any (S : SysD) (D : WldD) (vp vc vs uc ul : Value) (w : World) (he : Env w) (hS : Sys w vp vc vs S) (hW : Wld w uc ul D) :
    Calls Tryd.prog 21 #[.agg #[vp, vc, vs], .agg #[.int .i64 D.tick, uc, ul]] w fun e w' => e = .returned (.int .i64 (chkW S D)) ∧ Below w.heap.size w w' := by
  obtain ⟨pa, pc, rfl⟩ := hS.p.form
  obtain ⟨ka, kc, rfl⟩ := hS.c.form
  obtain ⟨sa, sc, rfl⟩ := hS.s.form
  obtain ⟨ua, uc, rfl⟩ := hW.c.form
  obtain ⟨la, lc, rfl⟩ := hW.l.form
  have HC := Lib.hid fun w he hS => confCheck_any S (.slice pa S.parts.length pc) (.slice ka S.chans.length kc) (.slice sa S.slots.length sc) w he hS
  have HE := Lib.hid he
  have HS := Lib.hid hS
  have HW := Lib.hid hW
  clear he hS hW
  obtain ⟨e0, hce⟩ : ∃ e0, chkS S = e0 := ⟨_, rfl⟩
  rw [hce] at HC
  by_cases h0 : e0 = 0
  · subst h0
    have hcl : S.parts.length ≤ 4 ∧ S.chans.length ≤ 6 := by
      unfold chkS at hce
      cases hb : countsB S with
      | false => rw [hb] at hce; simp at hce
      | true => simp [countsB] at hb; omega
    obtain ⟨hcl1, hcl2⟩ := hcl
    have HCE := Lib.hid hce
    clear hce
    go_enter Tryd.func21, Tryd.ntmps21
    go_wp2_with fail
    refine (HC.out _ (HE.out.up (by repeat (first | exact Below.refl _ _ | assumption | refine Below.drew ?_ | refine Below.alloc ?_ (by first | (simp; done) | (simp; omega)) _ | refine Below.setCell ?_ (by first | (simp; done) | (simp; omega)) _))) (HS.out.up (by repeat (first | exact Below.refl _ _ | assumption | refine Below.drew ?_ | refine Below.alloc ?_ (by first | (simp; done) | (simp; omega)) _ | refine Below.setCell ?_ (by first | (simp; done) | (simp; omega)) _)))).mono ?_
    rintro e w1 ⟨rfl, b1⟩
    have z1 := b1.size
    simp at z1
    have R0 : Hid (Rw w1 w.heap.size 26 #[.slice pa S.parts.length pc, .slice ka S.chans.length kc, .slice sa S.slots.length sc]) := Rw.up (by repeat (first | exact Rw.new _ _ _ (by first | rfl | (simp; done) | omega | (simp; omega)) | refine Rw.alloc ?_ _)) b1 (by first | omega | (simp; done) | (simp; omega))
    have R1 : Hid (Rw w1 (w.heap.size + 1) 30 #[.int .i64 D.tick, .slice ua D.cells.length uc, .slice la D.lines.length lc]) := Rw.up (by repeat (first | exact Rw.new _ _ _ (by first | rfl | (simp; done) | omega | (simp; omega)) | refine Rw.alloc ?_ _)) b1 (by first | omega | (simp; done) | (simp; omega))
    have HD : Hid (Below w.heap.size w w1) := by
      refine Below.trans ?_ (b1.mono (by first | omega | (simp; done) | (simp; omega)))
      exact (by repeat (first | exact Below.refl _ _ | assumption | refine Below.drew ?_ | refine Below.alloc ?_ (by first | (simp; done) | (simp; omega)) _ | refine Below.setCell ?_ (by first | (simp; done) | (simp; omega)) _))
    have q0 := R0.out.cell (j := 0) (v := .slice pa S.parts.length pc) rfl
    have q1 := R0.out.cell (j := 1) (v := .slice ka S.chans.length kc) rfl
    have q2 := R1.out.cell (j := 0) (v := .int .i64 D.tick) rfl
    have q3 := R1.out.cell (j := 1) (v := .slice ua D.cells.length uc) rfl
    have q4 := R1.out.cell (j := 2) (v := .slice la D.lines.length lc) rfl
    clear b1 HC
    have HI := Lib.hid fun V => isRun_any D.tick V
    cases hB : withinB D.tick 0 300
    · have HN : Hid (chkW S D = 1) := by
        show _ = _
        unfold chkW
        rw [HCE.out, hB]
        rfl
      rw [hB] at HI
      clear hB
      go_wp2_with (go_at_call 45; refine (HI.out _).mono ?_; rintro e w2 ⟨rfl, rfl⟩)
      go_ret
      exact ⟨ret_int (by rw [HN.out]), HD.out⟩
    rw [hB] at HI
    have HTB := Lib.hid hB
    clear hB
    go_wp2_with (go_at_call 45; refine (HI.out _).mono ?_; rintro e w2 ⟨rfl, rfl⟩)
    obtain ⟨r, hr⟩ : ∃ r, cellsB S.parts D.cells = r := ⟨_, rfl⟩
    refine (rightCells_any S.parts D.cells _ _ hcl1 _ (HS.out.p.up HD.out) (HW.out.c.up HD.out) r hr).mono ?_
    rintro e w3 ⟨rfl, b3⟩
    have z3 := b3.size
    have HD3 := Lib.hid (HD.out.trans (b3.mono (by omega)))
    have p1 := bcl b3 (by omega) q1
    have p4 := bcl b3 (by omega) q4
    have HRC := Lib.hid hr
    clear b3 q0 q1 q2 q3 q4 HD R0 R1 hr
    cases r
    · have HN : Hid (chkW S D = 1) := by
        show _ = _
        unfold chkW
        rw [HCE.out, HTB.out, HRC.out]
        rfl
      go_wp2
      go_ret
      exact ⟨ret_int (by rw [HN.out]), HD3.out⟩
    go_wp2_with fail
    obtain ⟨r, hr⟩ : ∃ r, linesB S.chans D.lines = r := ⟨_, rfl⟩
    refine (rightLines_any S.chans D.lines _ _ hcl2 _ (HS.out.c.up HD3.out) (HW.out.l.up HD3.out) r hr).mono ?_
    rintro e w4 ⟨rfl, b4⟩
    have HD4 := Lib.hid (HD3.out.trans (b4.mono HD3.out.size))
    have HN : Hid (chkW S D = if r = true then 0 else 1) := by
      show _ = _
      unfold chkW
      rw [HCE.out, HTB.out, HRC.out, hr]
      rfl
    clear b4 p1 p4 hr
    cases r
    · go_wp2
      go_ret
      exact ⟨ret_int (by rw [HN.out]; rfl), HD4.out⟩
    · go_wp2
      go_ret
      exact ⟨ret_int (by rw [HN.out]; rfl), HD4.out⟩
  · have h0' : (e0 != 0) = true := by simpa using h0
    have HCE : Hid (chkW S D = e0) := by
      show _ = _
      unfold chkW
      rw [hce, if_pos h0]
    clear hce h0
    go_enter Tryd.func21, Tryd.ntmps21
    go_wp2_with fail
    refine (HC.out _ (HE.out.up (by repeat (first | exact Below.refl _ _ | assumption | refine Below.drew ?_ | refine Below.alloc ?_ (by first | (simp; done) | (simp; omega)) _ | refine Below.setCell ?_ (by first | (simp; done) | (simp; omega)) _))) (HS.out.up (by repeat (first | exact Below.refl _ _ | assumption | refine Below.drew ?_ | refine Below.alloc ?_ (by first | (simp; done) | (simp; omega)) _ | refine Below.setCell ?_ (by first | (simp; done) | (simp; omega)) _)))).mono ?_
    rintro e w1 ⟨rfl, b1⟩
    have HD : Hid (Below w.heap.size w w1) := by
      refine Below.trans ?_ (b1.mono (by first | omega | (simp; done) | (simp; omega)))
      exact (by repeat (first | exact Below.refl _ _ | assumption | refine Below.drew ?_ | refine Below.alloc ?_ (by first | (simp; done) | (simp; omega)) _ | refine Below.setCell ?_ (by first | (simp; done) | (simp; omega)) _))
    clear b1
    go_wp2
    go_ret
    exact ⟨ret_int (by rw [HCE.out]), HD.out⟩
end Go.Proofs.YtnnnljfdjdehaaaDoor

namespace Go.Proofs.YtnnnljfdjdehaaaDoor
set_option linter.unusedSimpArgs false
set_option linter.unusedVariables false
open Go.RowKit Go.Sort

theorem Puts.keep {w w' : World} {g : Nat} {v v' : Value} (h : Puts w w' g v v') {c : Nat} {t : TypeId} {cs : Array Value} (hr : Rw w c t cs) (h1 : c ≠ g) (h2 : v.ownBlock ≠ some c) : Rw w' c t cs ∧ v'.ownBlock ≠ some c :=
  ⟨h.f.rw hr h1 h2, fun e => by
    rcases h.mv c e with e1 | e1
    · exact h2 e1
    · have := hr.lt
      omega⟩
theorem sl_regs {w : World} {b : Nat} {c : Cel} {o : Value} (h : Rw w b 62 (c.cs o)) : Sl w 1 (.slice (some ⟨b, 1, none⟩) 4 4) (regsL c).length (ints (regsL c)) := by
  refine ⟨rfl, _, _, rfl, Nat.le_refl _, fun _ => ⟨b, 1, rfl, h.lt, fun j u hj => ?_⟩⟩
  have hj4 : j < 4 := by have := (List.getElem?_eq_some_iff.1 hj).1; simpa [ints, regsL] using this
  refine h.cell ?_
  rw [cs_regL c o hj4, ← hj, ints_at (regsL c) j hj4]
theorem sl_mem {w : World} {b : Nat} {c : Cel} {o : Value} (h : Rw w b 62 (c.cs o)) : Sl w 1 (.slice (some ⟨b, 5, none⟩) 8 8) (memL c).length (ints (memL c)) := by
  refine ⟨rfl, _, _, rfl, Nat.le_refl _, fun _ => ⟨b, 5, rfl, h.lt, fun j u hj => ?_⟩⟩
  have hj8 : j < 8 := by have := (List.getElem?_eq_some_iff.1 hj).1; simpa [ints, memL] using this
  refine h.cell ?_
  rw [cs_memL c o hj8, ← hj, ints_at (memL c) j hj8]
theorem cellsB_out {ps : List Prt} {ds : List CelD} (h : cellsB ps ds = true) (d : CelD) (hd : d ∈ ds) : d.out.length ≤ 16 := by
  obtain ⟨k, hk, rfl⟩ := List.mem_iff_getElem.1 hd
  have h1 := cellsB_at h k (by rw [← cellsB_len h]; exact hk) hk
  generalize ds[k] = d at h1
  unfold celB at h1
  generalize d.out.length = n at h1 ⊢
  rw [Bool.and_eq_true] at h1
  exact ((fine_iff _ _).1 h1.1).2.2.2.2.2.2
theorem linesB_len3 {cs : List Chn} {ls : List (List Int)} (h : linesB cs ls = true) (l : List Int) (hl : l ∈ ls) : l.length ≤ 3 := by
  obtain ⟨k, hk, rfl⟩ := List.mem_iff_getElem.1 hl
  have h1 := linesB_at h k (by rw [← linesB_len h]; exact hk) hk
  rcases chkL_zero h1 with h1 | h1 <;> omega
theorem chkW_small {S : SysD} {D : WldD} (h : chkW S D = 0) : SmallD D := by
  unfold chkW at h
  by_cases h0 : chkS S = 0
  · have hcl : S.parts.length ≤ 4 ∧ S.chans.length ≤ 6 := by
      unfold chkS at h0
      cases hb : countsB S with
      | false => rw [hb] at h0; simp at h0
      | true => simp [countsB] at hb; omega
    rw [if_neg (by rw [h0]; simp)] at h
    cases hb : withinB D.tick 0 300 && cellsB S.parts D.cells && linesB S.chans D.lines with
    | false => rw [hb] at h; simp at h
    | true =>
      rw [Bool.and_eq_true, Bool.and_eq_true] at hb
      obtain ⟨⟨_, hc⟩, hl⟩ := hb
      have hcl := cellsB_len hc
      have hll := linesB_len hl
      exact ⟨by omega, fun d hd => cellsB_out hc d hd, by omega, fun l hl' => linesB_len3 hl l hl'⟩
  · rw [if_pos h0] at h
    exact absurd h h0
end Go.Proofs.YtnnnljfdjdehaaaDoor

namespace Go.Proofs.YtnnnljfdjdehaaaDoor
set_option linter.unusedSimpArgs false
set_option linter.unusedVariables false
open Go.RowKit Go.Sort

theorem RowS.up {w w' : World} {g : Nat} {v : Value} {xs : List Int} (h : RowS w g v xs) (hb : Below w.heap.size w w') : RowS w' g v xs := ⟨h.r.up hb h.r.lt, own_upG h.o hb⟩
/-- What Lay answers. -/
def laidF (S : SysD) (D : WldD) : List Int := if chkW S D = 0 then rowF D else []
theorem rowS_new (w : World) : RowS (w.alloc (.cells #[.slice none 0 0] 57)) w.heap.size (.slice none 0 0) [] := ⟨Rw.new _ _ _ rfl, World.ownsRow_nil _ _ _ _⟩
set_option maxRecDepth 100000 in
set_option maxHeartbeats 8000000 in
theorem flatLay_any (S : SysD) (D : WldD) (vp vc vs uc ul : Value) (w : World) (he : Env w) (hS : Sys w vp vc vs S) (hW : Wld w uc ul D) :
    Calls Tryd.prog 7 #[.agg #[vp, vc, vs], .agg #[.int .i64 D.tick, uc, ul]] w fun e w' => ∃ v, e = .returned (.tuple #[v, .int .i64 (chkW S D)]) ∧ w'.ownsRow w.heap.size 3 1 v (laidF S D).length (ints (laidF S D)) ∧ Below w.heap.size w w' := by
  obtain ⟨pa, pc, rfl⟩ := hS.p.form
  obtain ⟨ka, kc, rfl⟩ := hS.c.form
  obtain ⟨sa, sc, rfl⟩ := hS.s.form
  obtain ⟨ca, cc, rfl⟩ := hW.c.form
  obtain ⟨la, lc, rfl⟩ := hW.l.form
  go_enter Tryd.func7, Tryd.ntmps7
  go_upto_region 1 with fail
  have HRX : Hid (Rw ((w.alloc (.cells #[.slice pa S.parts.length pc, .slice ka S.chans.length kc, .slice sa S.slots.length sc] 26)).alloc (.cells #[.int .i64 D.tick, .slice ca D.cells.length cc, .slice la D.lines.length lc] 30)) (w.heap.size + 1) 30 #[.int .i64 D.tick, .slice ca D.cells.length cc, .slice la D.lines.length lc]) := Lib.hid (Rw.new _ _ _ (by simp))
  have HRS : Hid (Rw ((w.alloc (.cells #[.slice pa S.parts.length pc, .slice ka S.chans.length kc, .slice sa S.slots.length sc] 26)).alloc (.cells #[.int .i64 D.tick, .slice ca D.cells.length cc, .slice la D.lines.length lc] 30)) w.heap.size 26 #[.slice pa S.parts.length pc, .slice ka S.chans.length kc, .slice sa S.slots.length sc]) := Lib.hid ((Rw.new _ _ _ rfl).alloc _)
  have D0 : Hid (Below w.heap.size w ((w.alloc (.cells #[.slice pa S.parts.length pc, .slice ka S.chans.length kc, .slice sa S.slots.length sc] 26)).alloc (.cells #[.int .i64 D.tick, .slice ca D.cells.length cc, .slice la D.lines.length lc] 30))) := Lib.hid (((Below.refl _ _).alloc (Nat.le_refl _) _).alloc (by simp) _)
  have hX : ((w.alloc (.cells #[.slice pa S.parts.length pc, .slice ka S.chans.length kc, .slice sa S.slots.length sc] 26)).alloc (.cells #[.int .i64 D.tick, .slice ca D.cells.length cc, .slice la D.lines.length lc] 30)).heap.size = w.heap.size + 2 := by simp
  generalize (w.alloc (.cells #[.slice pa S.parts.length pc, .slice ka S.chans.length kc, .slice sa S.slots.length sc] 26)).alloc (.cells #[.int .i64 D.tick, .slice ca D.cells.length cc, .slice la D.lines.length lc] 30) = X at HRX HRS D0 hX ⊢
  have HC := Lib.hid (hW.c.up D0.out)
  have HL := Lib.hid (hW.l.up D0.out)
  have HCK := Lib.hid (kernCheck_any S D _ _ _ _ _ X (he.up D0.out) (hS.up D0.out) (hW.up D0.out))
  have s0 : X.cell? ⟨w.heap.size, 0, none⟩ = some (.slice pa S.parts.length pc) := HRS.out.cell (j := 0) rfl
  have s1 : X.cell? ⟨w.heap.size, 1, none⟩ = some (.slice ka S.chans.length kc) := HRS.out.cell (j := 1) rfl
  have s2 : X.cell? ⟨w.heap.size, 2, none⟩ = some (.slice sa S.slots.length sc) := HRS.out.cell (j := 2) rfl
  have c0 : X.cell? ⟨w.heap.size + 1, 0, none⟩ = some (.int .i64 D.tick) := HRX.out.cell (j := 0) rfl
  have c1 : X.cell? ⟨w.heap.size + 1, 1, none⟩ = some (.slice ca D.cells.length cc) := HRX.out.cell (j := 1) rfl
  have c2 : X.cell? ⟨w.heap.size + 1, 2, none⟩ = some (.slice la D.lines.length lc) := HRX.out.cell (j := 2) rfl
  have HXS := Lib.hid hX
  clear he hS hW hX
  by_cases h0 : chkW S D = 0
  · have HD := Lib.hid (chkW_small h0)
    have hcl := HD.out.cells
    have hll := HD.out.lines
    have HRF : Hid (laidF S D = rowF D) := Lib.hid (if_pos h0)
    rw [h0] at HCK
    have HZ := Lib.hid h0
    clear h0
    go_wp2_with fail
    refine HCK.out.mono ?_
    rintro e w1 ⟨rfl, b1⟩
    have HB1 := Lib.hid b1
    have hw1 := b1.size
    have d0 : w1.cell? ⟨w.heap.size + 1, 0, none⟩ = some (.int .i64 D.tick) := bcl b1 (by have := HXS.out; omega) c0
    have HR0 := Lib.hid (rowS_new w1)
    have hl1 : w.heap.size + 1 < w1.heap.size := by have := HXS.out; omega
    clear b1 c0 c1 c2 s0 s1 s2 HCK HRS
    go_wp2_with fail
    refine (put_any w1.heap.size (.slice none 0 0) [] [D.tick] (by simp) _ _ (HR0.out.alloc _) (sl_one_at _ _ 3 1 (w1.heap.size + 1) (by simp) (by simp))).mono ?_
    rintro e w2 ⟨rfl, v2, hr2, hp2⟩
    have HR2 := Lib.hid hr2
    have HB2 : Hid (Below w1.heap.size w1 w2) := Lib.hid ((((Below.refl _ _).alloc (Nat.le_refl _) _).alloc (by simp) _).trans hp2.b)
    have hw2 := HB2.out.size
    have d1 : w2.cell? ⟨w.heap.size + 1, 1, none⟩ = some (.slice ca D.cells.length cc) := (HRX.out.up (HB1.out.trans (HB2.out.mono (by omega))) HRX.out.lt).cell (j := 1) rfl
    clear hr2 hp2 HR0 d0
    go_wp2
    clear d1
    go_loopw [25] (fun i wr => ∃ (k : Nat) (v : Value), i = .int .i64 k ∧ k ≤ D.cells.length ∧ Hid (RowS wr w1.heap.size v ([D.tick] ++ cellsF (D.cells.take k))) ∧ Hid (Below w1.heap.size w1 wr)) (fun i _ => D.cells.length - (intOf i).toNat)
    case atStart => exact ⟨0, v2, rfl, Nat.zero_le _, by rw [List.take_zero, show cellsF [] = [] from rfl, List.append_nil]; exact HR2, HB2⟩
    case round =>
      clear HR2 HB2 hw2
      obtain ⟨k, v0, rfl, hk, HR, HBr⟩ := hrel
      have hw := HBr.out.size
      have HB := Lib.hid (HB1.out.trans (HBr.out.mono hw1))
      by_cases hlt : k < D.cells.length
      · have hli : (k : Int) < D.cells.length := by omega
        obtain ⟨b, off, cap, e1, hcap, hbw, hc⟩ := (HC.out.up HB.out).open (by omega)
        cases e1
        obtain ⟨ao, oc, hra, hso⟩ := hc k hlt
        obtain ⟨b', off', cap', e1', hcap', hbw', hc'⟩ := HC.out.open (by omega)
        cases e1'
        obtain ⟨ao', oc', hra', hso'⟩ := hc' k hlt
        have hoe := HD.out.out _ (List.getElem_mem hlt)
        have HST : Hid ([D.tick] ++ cellsF (D.cells.take (k + 1)) = [D.tick] ++ cellsF (D.cells.take k) ++ cellR D.cells[k]) := Lib.hid (by rw [cellsF_step hlt, List.append_assoc])
        have HLL : Hid (([D.tick] ++ cellsF (D.cells.take k)).length ≤ 200) := Lib.hid (by
          have := cellsF_len (ds := D.cells.take k) (fun d hd => HD.out.out d (mem_take hd))
          rw [List.length_append, this, List.length_take]
          simp
          omega)
        have RA := Lib.hid (range_up hra' HB.out hbw')
        have HSO := Lib.hid hso'
        clear hc hra hso hc' hra' hso'
        generalize D.cells[k] = d at RA HSO hoe HST
        obtain ⟨c, out⟩ := d
        simp only at RA HSO hoe
        generalize [D.tick] ++ cellsF (D.cells.take k) = zs at HR HST HLL
        have hgl := HR.out.r.lt
        go_wp2_with (first | (refine wpList_load_midA rfl 62 (.tmp 27) rfl b (off + k * 16) rfl (c.cs (.slice ao' out.length oc')) _ RA.out Tryd.underlying62 rfl sizeCell ?_) | (refine wpList_store_rowW rfl 62 (.tmp 9) (.tmp 28) rfl wr.heap.size (c.cs (.slice ao' out.length oc')) rfl rfl 62 (celZ.cs (.slice none 0 0)) (Rw.new wr 62 (celZ.cs (.slice none 0 0)) rfl) sizeCell rfl (Cel.cs_one _ _ rfl) ?_))
        intro W0 HW
        have H0 : Hid (Rw W0 wr.heap.size 62 (c.cs (.slice ao' out.length oc'))) := by
          show Rw _ _ _ _
          rw [HW.out]
          exact Rw.row (cs := celZ.cs (.slice none 0 0)) (by repeat (first | exact Rw.new _ _ _ (by first | rfl | (simp; done) | omega | (simp; omega)) | refine Rw.alloc ?_ _)) _
        have hs0 : W0.heap.size = wr.heap.size + 1 := by rw [HW.out]; simp
        have b0 : Below wr.heap.size wr W0 := by
          rw [HW.out]
          exact below_row ((Below.refl _ _).alloc (Nat.le_refl _) _) (Nat.le_refl _) _
        have R0 := Lib.hid (HR.out.up b0)
        have N0 : Hid (v0.ownBlock ≠ some wr.heap.size) := Lib.hid fun e => by have := (HR.out.o.lt _ e).2; omega
        have P0 := Lib.hid (b0.mono (show w1.heap.size ≤ wr.heap.size by omega))
        have hne : wr.heap.size ≠ w1.heap.size := by omega
        clear HW RA HR b0
        have k0 : W0.cell? ⟨wr.heap.size, 0, none⟩ = some (.int .i64 c.at_) := H0.out.cell (j := 0) rfl
        go_wp2_with fail
        refine (put_any w1.heap.size v0 (zs) ([c.at_]) (by have := HLL.out; simp [regsL, memL]; omega) _ _ (R0.out.alloc _) (sl_one_at W0 _ 3 1 (wr.heap.size + 1) hs0.symm (Nat.le_refl _))).mono ?_
        rintro e W1 ⟨rfl, v1, hr, hp⟩
        have hp := (puts_alloc W0 w1.heap.size v0 (.cells #[.int .i64 c.at_] 3) R0.out.r.lt).trans hp
        have K1 := Lib.hid (hp.keep H0.out (by omega) N0.out)
        have H1 := Lib.hid K1.out.1
        have N1 := Lib.hid K1.out.2
        have R1 := Lib.hid hr
        have P1 := Lib.hid (P0.out.trans hp.b)
        have hs1 := hp.f.size
        clear hr hp K1 R0 P0 N0 H0
        clear k0
        go_wp2_with fail
        refine (put_any w1.heap.size v1 (zs ++ [c.at_]) (regsL c) (by have := HLL.out; simp [regsL, memL]; omega) _ _ R1.out (sl_regs H1.out)).mono ?_
        rintro e W2 ⟨rfl, v2, hr, hp⟩
        have K2 := Lib.hid (hp.keep H1.out (by omega) N1.out)
        have H2 := Lib.hid K2.out.1
        have N2 := Lib.hid K2.out.2
        have R2 := Lib.hid hr
        have P2 := Lib.hid (P1.out.trans hp.b)
        have hs2 := hp.f.size
        clear hr hp K2 R1 P1 N1 H1
        go_wp2_with fail
        refine (put_any w1.heap.size v2 (zs ++ [c.at_] ++ regsL c) (memL c) (by have := HLL.out; simp [regsL, memL]; omega) _ _ R2.out (sl_mem H2.out)).mono ?_
        rintro e W3 ⟨rfl, v3, hr, hp⟩
        have K3 := Lib.hid (hp.keep H2.out (by omega) N2.out)
        have H3 := Lib.hid K3.out.1
        have N3 := Lib.hid K3.out.2
        have R3 := Lib.hid hr
        have P3 := Lib.hid (P2.out.trans hp.b)
        have hs3 := hp.f.size
        clear hr hp K3 R2 P2 N2 H2
        have k3 : W3.cell? ⟨wr.heap.size, 13, none⟩ = some (.int .i64 c.read) := H3.out.cell (j := 13) rfl
        have k4 : W3.cell? ⟨wr.heap.size, 15, none⟩ = some (.int .i64 c.en) := H3.out.cell (j := 15) rfl
        go_wp2_with fail
        refine (put_any w1.heap.size v3 (zs ++ [c.at_] ++ regsL c ++ memL c) ([c.read, c.en]) (by have := HLL.out; simp [regsL, memL]; omega) _ _ (R3.out.alloc _) (lit_slF W3 (ints [c.read, c.en]) 3 _ 2 1 rfl rfl)).mono ?_
        rintro e W4 ⟨rfl, v4, hr, hp⟩
        have hp := (puts_alloc W3 w1.heap.size v3 (.cells #[.int .i64 c.read, .int .i64 c.en] 3) R3.out.r.lt).trans hp
        have K4 := Lib.hid (hp.keep H3.out (by omega) N3.out)
        have H4 := Lib.hid K4.out.1
        have N4 := Lib.hid K4.out.2
        have R4 := Lib.hid hr
        have P4 := Lib.hid (P3.out.trans hp.b)
        have hs4 := hp.f.size
        clear hr hp K4 R3 P3 N3 H3
        clear k3 k4
        have k5 : W4.cell? ⟨wr.heap.size, 14, none⟩ = some (.slice ao' out.length oc') := H4.out.cell (j := 14) rfl
        go_wp2_with fail
        refine (putList_any w1.heap.size v4 (zs ++ [c.at_] ++ regsL c ++ memL c ++ [c.read, c.en]) out 16 (by omega) hoe (by have := HLL.out; simp [regsL, memL]; omega) _ _ R4.out (HSO.out.up (HB.out.trans (P4.out.mono (by omega)))) (fun w' hb' => HSO.out.up (HB.out.trans ((P4.out.trans hb').mono (by omega))))).mono ?_
        rintro e W5 ⟨rfl, v5, hr, hp⟩
        have K5 := Lib.hid (hp.keep H4.out (by omega) N4.out)
        have H5 := Lib.hid K5.out.1
        have N5 := Lib.hid K5.out.2
        have R5 := Lib.hid hr
        have P5 := Lib.hid (P4.out.trans hp.b)
        have hs5 := hp.f.size
        clear hr hp K5 R4 P4 N4 H4
        clear k5
        have R6 : Hid (RowS W5 w1.heap.size v5 (zs ++ cellR ⟨c, out⟩)) := Lib.hid (by
          have e : zs ++ cellR ⟨c, out⟩ = zs ++ [c.at_] ++ regsL c ++ memL c ++ [c.read, c.en] ++ padL out 16 := by simp [cellR]
          rw [e]
          exact R5.out)
        go_wp2
        go_roundw
        case rel => exact ⟨k + 1, v5, by go_num, by omega, by rw [HST.out]; exact R6, Lib.hid (HBr.out.trans P5.out)⟩
        case measure => simp [intOf]; omega
      · have hli : ¬ (k : Int) < D.cells.length := by omega
        have HR2 : Hid (RowS wr w1.heap.size v0 ([D.tick] ++ cellsF D.cells)) := Lib.hid (by
          have := HR.out
          rw [List.take_of_length_le (by omega)] at this
          exact this)
        have HL1 : Hid (([D.tick] ++ cellsF D.cells).length ≤ 200) := Lib.hid (by
          have := cellsF_len HD.out.out
          rw [List.length_append, this]
          simp
          omega)
        have HRG : Hid (laidF S D = [D.tick] ++ cellsF D.cells ++ linesF D.lines) := Lib.hid HRF.out
        have d2 : wr.cell? ⟨w.heap.size + 1, 2, none⟩ = some (.slice la D.lines.length lc) := (HRX.out.up HB.out HRX.out.lt).cell (j := 2) rfl
        clear HR HRF
        generalize [D.tick] ++ cellsF D.cells = ys at HR2 HL1 HRG
        go_wp2
        clear d2
        go_loopw [52] (fun i wr => ∃ (k : Nat) (v : Value), i = .int .i64 k ∧ k ≤ D.lines.length ∧ Hid (RowS wr w1.heap.size v (ys ++ linesF (D.lines.take k))) ∧ Hid (Below w1.heap.size w1 wr)) (fun i _ => D.lines.length - (intOf i).toNat)
        case atStart => exact ⟨0, v0, rfl, Nat.zero_le _, by rw [List.take_zero, show linesF [] = [] from rfl, List.append_nil]; exact HR2, HBr⟩
        case round =>
          clear HR2 HB HBr hw
          obtain ⟨j, u0, rfl, hj, HR, HBr⟩ := hrel
          have hw := HBr.out.size
          have HB := Lib.hid (HB1.out.trans (HBr.out.mono hw1))
          by_cases hjl : j < D.lines.length
          · have hji : (j : Int) < D.lines.length := by omega
            obtain ⟨b, off, cap, e1, hcap, hbw, hc⟩ := HL.out.open (by omega)
            cases e1
            obtain ⟨ao, oc, hra, hso⟩ := hc j hjl
            have HSO := Lib.hid hso
            have hoe := HD.out.vals _ (List.getElem_mem hjl)
            have HST : Hid (ys ++ linesF (D.lines.take (j + 1)) = ys ++ linesF (D.lines.take j) ++ padL D.lines[j] 3) := Lib.hid (by rw [linesF_step hjl, List.append_assoc])
            have HLL : Hid ((ys ++ linesF (D.lines.take j)).length ≤ 300) := Lib.hid (by
              have h1 := linesF_len (ls := D.lines.take j) (fun d hd => HD.out.vals d (mem_take hd))
              have h2 := HL1.out
              rw [List.length_append, h1, List.length_take]
              omega)
            have hra2 := bcl HB.out hbw hra
            clear hc hso hra
            have hbw2 : b < wr.heap.size := by omega
            generalize D.lines[j] = l at hra2 HSO hoe HST
            generalize ys ++ linesF (D.lines.take j) = zs at HR HST HLL
            have hgl := HR.out.r.lt
            go_wp2_with fail
            refine (putList_any w1.heap.size u0 zs l 3 (by omega) hoe (by have := HLL.out; omega) _ _ (HR.out.up ((Below.refl _ _).alloc (Nat.le_refl _) _)) (HSO.out.up (HB.out.trans ((Below.refl _ _).alloc (by omega) _))) (fun w' hb' => HSO.out.up (HB.out.trans (((Below.refl _ _).alloc (by omega) _).trans (hb'.mono (by omega)))))).mono ?_
            rintro e w3 ⟨rfl, u3, hr, hp⟩
            have R3 : Hid (RowS w3 w1.heap.size u3 (zs ++ padL l 3)) := Lib.hid hr
            have P3 : Hid (Below w1.heap.size w1 w3) := Lib.hid (HBr.out.trans (((Below.refl _ _).alloc (by omega) _).trans hp.b))
            clear hr hp HR HBr HB hra2
            go_wp2
            go_roundw
            case rel => exact ⟨j + 1, u3, by go_num, by omega, by rw [HST.out]; exact R3, P3⟩
            case measure => simp [intOf]; omega
          · have hji : ¬ (j : Int) < D.lines.length := by omega
            have HE : Hid (laidF S D = ys ++ linesF (D.lines.take j)) := Lib.hid (by rw [List.take_of_length_le (by omega), HRG.out])
            generalize ys ++ linesF (D.lines.take j) = zs at HR HE
            obtain ⟨ra, rc, hform⟩ := HR.out.form
            subst hform
            have k0 : wr.cell? ⟨w1.heap.size, 0, none⟩ = some (.slice ra zs.length rc) := HR.out.r.cell (j := 0) rfl
            go_wp2
            go_ret2
            exact ⟨.slice ra zs.length rc, by rw [HZ.out]; rfl, by rw [HE.out]; exact own_low HR.out.o (by have := HXS.out; omega), D0.out.trans (HB.out.mono (by have := HXS.out; omega))⟩
  · have h0' : (chkW S D != 0) = true := by simp [h0]
    have HRF : Hid (laidF S D = []) := Lib.hid (if_neg h0)
    have HZ : Hid (∃ z, chkW S D = z) := Lib.hid ⟨_, rfl⟩
    obtain ⟨z, hz⟩ := HZ.out
    rw [hz] at HCK h0' h0
    have HZ2 := Lib.hid hz
    clear hz HZ
    go_wp2_with fail
    refine HCK.out.mono ?_
    rintro e w1 ⟨rfl, b1⟩
    have HB1 := Lib.hid (D0.out.trans (b1.mono (by have := HXS.out; omega)))
    clear b1 HCK
    go_wp2
    go_ret2
    exact ⟨.slice none 0 0, by rw [HZ2.out]; rfl, by rw [HRF.out]; exact World.ownsRow_nil _ _ _ _, HB1.out⟩
end Go.Proofs.YtnnnljfdjdehaaaDoor

namespace Go.Proofs.YtnnnljfdjdehaaaDoor
set_option linter.unusedSimpArgs false
set_option linter.unusedVariables false
open Go.RowKit Go.Sort

def Cel.reg (c : Cel) (k : Int) : Int := if k = 0 then c.r0 else if k = 1 then c.r1 else if k = 2 then c.r2 else c.r3
def Cel.setReg (c : Cel) (k v : Int) : Cel := if k = 0 then { c with r0 := v } else if k = 1 then { c with r1 := v } else if k = 2 then { c with r2 := v } else { c with r3 := v }
def Cel.memo (c : Cel) (k : Int) : Int := if k = 0 then c.m0 else if k = 1 then c.m1 else if k = 2 then c.m2 else if k = 3 then c.m3 else if k = 4 then c.m4 else if k = 5 then c.m5 else if k = 6 then c.m6 else c.m7
def Cel.setMem (c : Cel) (k v : Int) : Cel := if k = 0 then { c with m0 := v } else if k = 1 then { c with m1 := v } else if k = 2 then { c with m2 := v } else if k = 3 then { c with m3 := v } else if k = 4 then { c with m4 := v } else if k = 5 then { c with m5 := v } else if k = 6 then { c with m6 := v } else { c with m7 := v }
theorem lt4 {k : Int} (h0 : 0 ≤ k) (h1 : k < 4) : k = 0 ∨ k = 1 ∨ k = 2 ∨ k = 3 := by omega
theorem lt8 {k : Int} (h0 : 0 ≤ k) (h1 : k < 8) : k = 0 ∨ k = 1 ∨ k = 2 ∨ k = 3 ∨ k = 4 ∨ k = 5 ∨ k = 6 ∨ k = 7 := by omega
theorem cs_reg (c : Cel) (o : Value) {k : Int} (h0 : 0 ≤ k) (h1 : k < 4) : (c.cs o)[1 + k.toNat]? = some (.int .i64 (c.reg k)) := by
  rcases lt4 h0 h1 with rfl | rfl | rfl | rfl <;> rfl
theorem cs_setReg (c : Cel) (o : Value) {k : Int} (h0 : 0 ≤ k) (h1 : k < 4) (v : Int) : (c.cs o).setIfInBounds (1 + k.toNat) (.int .i64 v) = (c.setReg k v).cs o := by
  rcases lt4 h0 h1 with rfl | rfl | rfl | rfl <;> rfl
theorem cs_mem (c : Cel) (o : Value) {k : Int} (h0 : 0 ≤ k) (h1 : k < 8) : (c.cs o)[5 + k.toNat]? = some (.int .i64 (c.memo k)) := by
  rcases lt8 h0 h1 with rfl | rfl | rfl | rfl | rfl | rfl | rfl | rfl <;> rfl
theorem cs_setMem (c : Cel) (o : Value) {k : Int} (h0 : 0 ≤ k) (h1 : k < 8) (v : Int) : (c.cs o).setIfInBounds (5 + k.toNat) (.int .i64 v) = (c.setMem k v).cs o := by
  rcases lt8 h0 h1 with rfl | rfl | rfl | rfl | rfl | rfl | rfl | rfl <;> rfl

def truthI (b : Bool) : Int := if b then 1 else 0
theorem bit_t (b : Bool) (w : World) : Calls Tryd.prog 94 #[.bool b] w fun e w' => e = .returned (.int .i64 (truthI b)) ∧ w' = w := bit_any b w
/-- The cell behind an answer. -/
def Cel.replied (c : Cel) (k reg flag kind val : Int) (is : Bool) : Cel :=
  if k = 12 ∧ kind = 2 then c.setReg reg (truthI is) else if k = 13 then (if is then c.setReg reg val else c).setReg flag (truthI is) else c
theorem sizeWant : (Tryd.prog.info? 110).map (·.size) = some 5 := by kernel_rfl
def wantCs (k ch reg flag val : Int) : Array Value := #[.int .i64 k, .int .i64 ch, .int .i64 reg, .int .i64 flag, .int .i64 val]

theorem reply_in {k reg flag kind : Int} (he : replyE true k reg flag kind = 0) : (k = 12 ∨ k = 13) ∧ (kind = 1 ∨ kind = 2) ∧ (0 ≤ reg ∧ reg < 4) ∧ 0 ≤ flag ∧ flag < 4 := by
  unfold replyE at he
  simp only [Bool.not_true, Bool.false_eq_true, if_false] at he
  split at he
  · omega
  · rename_i h1
    split at he
    · omega
    · rename_i h2
      simp [regB, kindB] at h1 h2
      omega
theorem sizeInt : (Tryd.prog.info? 3).map (·.size) = some 1 := by kernel_rfl
/-- While a cell is turned: it lies in block gd, what comes back will lie in block gr. -/
structure Rp (w : World) (B : Nat) (W : World) (gd gr : Nat) (c : Cel) (o : Value) (xs : List Int) : Prop where
  rd : Rw W gd 62 (c.cs o)
  rr : Rw W gr 62 (celZ.cs (.slice none 0 0))
  d : Below w.heap.size w W
  own : W.ownsRow B 3 1 o xs.length (ints xs)
  gd0 : w.heap.size ≤ gd
  gr0 : w.heap.size ≤ gr
  bs : w.heap.size ≤ B
  ne : gd ≠ gr
  no : ∀ k, o.ownBlock = some k → k ≠ gd ∧ k ≠ gr
theorem Rp.reg {w : World} {B : Nat} {W : World} {gd gr : Nat} {c : Cel} {o : Value} {xs : List Int} (h : Rp w B W gd gr c o xs) {k : Int} (h0 : 0 ≤ k) (h1 : k < 4) (v : Int) :
    Rp w B (W.setCell ⟨gd, 1 + k.toNat, none⟩ (.int .i64 v)) gd gr (c.setReg k v) o xs :=
  ⟨by rw [← cs_setReg c o h0 h1 v]; exact h.rd.set _ _, h.rr.set_other _ (Ne.symm h.ne), h.d.setCell h.gd0 _, own_set h.own _ (fun e => (h.no _ e).1 rfl), h.gd0, h.gr0, h.bs, h.ne, h.no⟩
theorem Rp.drew {w : World} {B : Nat} {W : World} {gd gr : Nat} {c : Cel} {o : Value} {xs : List Int} (h : Rp w B W gd gr c o xs) : Rp w B W.drew gd gr c o xs :=
  ⟨h.rd, h.rr, h.d.drew, h.own, h.gd0, h.gr0, h.bs, h.ne, h.no⟩

set_option maxRecDepth 100000 in
set_option maxHeartbeats 4000000 in
theorem reply_bad (c : Cel) (ao : Option Addr) (n cap : Nat) (k ch reg flag val kind vl : Int) (is : Bool) (f : Bool) (hf : c.fine n = f) (e0 : Int) (he : replyE f k reg flag kind = e0) (hne : e0 ≠ 0) (w : World) :
    Calls Tryd.prog 64 #[c.v (.slice ao n cap), wantV k ch reg flag val, .int .i64 kind, .int .i64 vl, .bool is] w fun e w' => e = .returned (.tuple #[celZ.v (.slice none 0 0), .int .i64 e0]) ∧ Below w.heap.size w w' := by
  have hne' : (e0 != 0) = true := by simpa using hne
  have HC := Lib.hid fun w => he ▸ checkReply_any c ao n cap k ch reg flag val kind f hf w
  clear hf he hne
  rw [Cel.v_cs] at HC
  rw [Cel.v_cs]
  unfold wantV at HC
  unfold wantV
  go_enter Tryd.func64, Tryd.ntmps64
  go_wp2_with (refine wpList_load_row rfl 62 (.tmp 5) rfl w.heap.size rfl 62 (c.cs (.slice ao n cap)) (0, 0) _ (by repeat (first | exact Rw.new _ _ _ (by first | rfl | (simp; done) | omega | (simp; omega)) | refine Rw.alloc ?_ _)) Tryd.underlying62 rfl sizeCell ?_)
  refine (HC.out _).mono ?_
  rintro e w1 ⟨rfl, b1⟩
  have D : Below w.heap.size w w1 := by
    refine Below.trans ?_ (b1.mono (by first | omega | (simp; done) | (simp; omega)))
    exact (by repeat (first | exact Below.refl _ _ | assumption | refine Below.drew ?_ | refine Below.alloc ?_ (by first | (simp; done) | (simp; omega)) _ | refine Below.setCell ?_ (by first | (simp; done) | (simp; omega)) _))
  have z : w.heap.size + 3 ≤ w1.heap.size := by have := b1.size; simp at this; omega
  have r2 : Rw w1 (w.heap.size + 2) 62 (celZ.cs (.slice none 0 0)) := Rw.up (by repeat (first | exact Rw.new _ _ _ (by first | rfl | (simp; done) | omega | (simp; omega)) | refine Rw.alloc ?_ _)) b1 (by first | omega | (simp; done) | (simp; omega))
  have R2 := Lib.hid r2
  clear b1 HC r2
  go_wp2_with (refine wpList_store_row rfl 62 (.tmp 10) (.tmp 20) rfl (w.heap.size + 2) (celZ.cs (.slice none 0 0)) rfl rfl 62 _ R2.out sizeCell rfl (celZ.cs_one _ rfl) ?_)
  refine bodyPost_ret (results_row_tmp Tryd.results64 _ _ (w.heap.size + 2) _ _ rfl rfl (run_loadVar_row _ _ 62 _ (celZ.cs (.slice none 0 0)) (0, 0) _ (R2.out.row _) Tryd.underlying62 rfl sizeCell)) rfl ⟨rfl, below_row D (by omega) _⟩

set_option maxRecDepth 100000 in
set_option maxHeartbeats 4000000 in
theorem reply_ok (c : Cel) (xs : List Int) (v : Value) (k ch reg flag val kind vl : Int) (is : Bool) (hf : c.fine xs.length = true) (he : replyE true k reg flag kind = 0) (w : World) (hS : Sl w 1 v xs.length (ints xs)) :
    Calls Tryd.prog 64 #[c.v v, wantV k ch reg flag val, .int .i64 kind, .int .i64 vl, .bool is] w fun e w' => ∃ v', e = .returned (.tuple #[(c.replied k reg flag kind vl is).v v', .int .i64 0]) ∧ w'.ownsRow w.heap.size 3 1 v' xs.length (ints xs) ∧ Below w.heap.size w w' := by
  have hl := ((fine_iff c _).1 hf).2.2.2.2.2.2
  obtain ⟨ao, cap, rfl⟩ := hS.form
  have HC := Lib.hid fun w => he ▸ checkReply_any c ao xs.length cap k ch reg flag val kind true hf w
  obtain ⟨hk, hkd, ⟨hr0, hr1⟩, hf0, hf1⟩ := reply_in he
  have HS := Lib.hid hS
  clear hf he hS
  rw [Cel.v_cs] at HC
  rw [Cel.v_cs]
  unfold wantV at HC
  unfold wantV
  go_enter Tryd.func64, Tryd.ntmps64
  go_wp2_with (refine wpList_load_row rfl 62 (.tmp 5) rfl w.heap.size rfl 62 (c.cs (.slice ao xs.length cap)) (0, 0) _ (by repeat (first | exact Rw.new _ _ _ (by first | rfl | (simp; done) | omega | (simp; omega)) | refine Rw.alloc ?_ _)) Tryd.underlying62 rfl sizeCell ?_)
  refine (HC.out _).mono ?_
  rintro e w1 ⟨rfl, b1⟩
  have D : Below w.heap.size w w1 := by
    refine Below.trans ?_ (b1.mono (by first | omega | (simp; done) | (simp; omega)))
    exact (by repeat (first | exact Below.refl _ _ | assumption | refine Below.drew ?_ | refine Below.alloc ?_ (by first | (simp; done) | (simp; omega)) _ | refine Below.setCell ?_ (by first | (simp; done) | (simp; omega)) _))
  have z : w.heap.size + 3 ≤ w1.heap.size := by have := b1.size; simp at this; omega
  have R0 : Rw w1 w.heap.size 62 (c.cs (.slice ao xs.length cap)) := Rw.up (by repeat (first | exact Rw.new _ _ _ (by first | rfl | (simp; done) | omega | (simp; omega)) | refine Rw.alloc ?_ _)) b1 (by first | omega | (simp; done) | (simp; omega))
  have R1 : Rw w1 (w.heap.size + 1) 110 (wantCs k ch reg flag val) := Rw.up (by repeat (first | exact Rw.new _ _ _ (by first | rfl | (simp; done) | omega | (simp; omega)) | refine Rw.alloc ?_ _)) b1 (by first | omega | (simp; done) | (simp; omega))
  have R2 : Rw w1 (w.heap.size + 2) 62 (celZ.cs (.slice none 0 0)) := Rw.up (by repeat (first | exact Rw.new _ _ _ (by first | rfl | (simp; done) | omega | (simp; omega)) | refine Rw.alloc ?_ _)) b1 (by first | omega | (simp; done) | (simp; omega))
  have HD := Lib.hid D
  have H0 := Lib.hid R0
  have H1 := Lib.hid R1
  have H2 := Lib.hid R2
  clear b1 HC D R0 R1 R2
  go_wp2_with (refine wpList_load_row rfl 62 (.tmp 5) rfl w.heap.size rfl 62 (c.cs (.slice ao xs.length cap)) (0, 0) _ H0.out Tryd.underlying62 rfl sizeCell ?_)
  refine (copied_any c xs (by omega) _ _ (HS.out.up HD.out)).mono ?_
  rintro e w2 ⟨v', rfl, o2, b2⟩
  have h2 : w1.heap.size ≤ w2.heap.size := b2.size
  have HDa := HD
  have H1a := H1
  have H2a := H2
  clear HD H1 H2
  have HD := Lib.hid (HDa.out.trans (b2.mono (by omega)))
  have H1 := Lib.hid (H1a.out.up b2 (by omega))
  have H2 := Lib.hid (H2a.out.up b2 (by omega))
  have o2l := own_lt o2
  have o2b := own_block o2
  obtain ⟨ao', cap', rfl⟩ := own_form o2
  have HO := Lib.hid o2
  clear b2 o2 H0 HS
  rw [Cel.v_cs]
  go_wp2_with (refine wpList_store_rowW rfl 62 (.tmp 13) (.tmp 23) rfl w2.heap.size (c.cs (.slice ao' xs.length cap')) rfl rfl 62 (celZ.cs (.slice none 0 0)) (by repeat (first | exact Rw.new _ _ _ (by first | rfl | (simp; done) | omega | (simp; omega)) | refine Rw.alloc ?_ _)) sizeCell rfl (c.cs_one _ rfl) ?_)
  intro W HW
  have hW := HW.out
  have hne : ∀ k, (Value.slice ao' xs.length cap').ownBlock = some k → k < w2.heap.size := o2l
  have RD : Rw W w2.heap.size 62 (c.cs (.slice ao' xs.length cap')) := by
    rw [hW]
    exact Rw.row (cs := celZ.cs (.slice none 0 0)) (by repeat (first | exact Rw.new _ _ _ (by first | rfl | (simp; done) | omega | (simp; omega)) | refine Rw.alloc ?_ _)) _
  have R1 : Rw W (w.heap.size + 1) 110 (wantCs k ch reg flag val) := by
    rw [hW]
    exact (H1.out.alloc _).row_other _ (by omega)
  have R2 : Rw W (w.heap.size + 2) 62 (celZ.cs (.slice none 0 0)) := by
    rw [hW]
    exact (H2.out.alloc _).row_other _ (by omega)
  have D : Below w.heap.size w W := by
    rw [hW]
    exact below_row (HD.out.alloc (by omega) _) (by omega) _
  have O : W.ownsRow w1.heap.size 3 1 (.slice ao' xs.length cap') xs.length (ints xs) := by
    rw [hW]
    refine own_row (own_up HO.out ((Below.refl w2.heap.size w2).alloc (Nat.le_refl _) _) o2l) _ (fun e => by have := o2l _ e; omega)
  have hz : W.heap.size = w2.heap.size + 1 := by rw [hW]; simp
  have w0 := R1.cell (j := 0) (v := .int .i64 k) rfl
  have w2' := R1.cell (j := 2) (v := .int .i64 reg) rfl
  have w3 := R1.cell (j := 3) (v := .int .i64 flag) rfl
  have hw1 : w.heap.size + 1 ≠ w2.heap.size := by omega
  have HR : Hid (Rp w w1.heap.size W w2.heap.size (w.heap.size + 2) c (.slice ao' xs.length cap') xs) := ⟨RD, R2, D, O, by omega, by omega, by omega, by omega, fun k e => by have := o2l k e; have := o2b k e; omega⟩
  clear H1 H2 HD HO RD R2 D O hW HW R1 hne o2l o2b hz H2a H1a HDa
  by_cases h12 : k = 12
  · subst h12
    have ya : W.cell? ⟨w2.heap.size, 1 + reg.toNat, none⟩ = some (.int .i64 (Cel.reg c reg)) := HR.out.rd.cell (cs_reg _ _ hr0 hr1)
    have yb : W.frozen? ⟨w2.heap.size, 1 + reg.toNat, none⟩ = false := HR.out.rd.fr _
    by_cases hq : kind = 2
    · subst hq
      go_wp2
      go_region_with (go_at_call 94; refine (bit_t _ _).mono ?_; rintro e w' ⟨rfl, rfl⟩)
      all_goals
        have HR1 := Lib.hid ((HR.out.reg hr0 hr1 (truthI is)).drew)
        clear HR ya yb
        generalize World.drew _ = W1 at HR1 ⊢
        go_wp2_with (first | (refine wpList_load_row rfl 62 (.tmp 13) rfl (w2.heap.size) rfl 62 (Cel.cs (c.setReg reg (truthI is)) (.slice ao' xs.length cap')) (0, 0) _ HR1.out.rd Tryd.underlying62 rfl sizeCell ?_) | (refine wpList_store_row rfl 62 (.tmp 10) (.tmp 54) rfl (w.heap.size + 2) (Cel.cs (c.setReg reg (truthI is)) (.slice ao' xs.length cap')) rfl rfl 62 _ HR1.out.rr sizeCell rfl (Cel.cs_one _ _ rfl) ?_))
        refine bodyPost_ret (results_row_tmp Tryd.results64 _ _ (w.heap.size + 2) _ _ rfl rfl (run_loadVar_row _ _ 62 _ (Cel.cs (c.setReg reg (truthI is)) (.slice ao' xs.length cap')) (0, 0) _ (HR1.out.rr.row _) Tryd.underlying62 rfl sizeCell)) rfl ⟨_, by simp [Cel.replied, Cel.v_cs, *], own_low (own_row HR1.out.own _ (fun e => (HR1.out.no _ e).2 rfl)) HR1.out.bs, below_row HR1.out.d HR1.out.gr0 _⟩
    · have hq' : (kind == 2) = false := by simpa using hq
      clear ya yb
      go_wp2_with (first | (refine wpList_load_row rfl 62 (.tmp 13) rfl (w2.heap.size) rfl 62 (Cel.cs c (.slice ao' xs.length cap')) (0, 0) _ HR.out.rd Tryd.underlying62 rfl sizeCell ?_) | (refine wpList_store_row rfl 62 (.tmp 10) (.tmp 54) rfl (w.heap.size + 2) (Cel.cs c (.slice ao' xs.length cap')) rfl rfl 62 _ HR.out.rr sizeCell rfl (Cel.cs_one _ _ rfl) ?_))
      refine bodyPost_ret (results_row_tmp Tryd.results64 _ _ (w.heap.size + 2) _ _ rfl rfl (run_loadVar_row _ _ 62 _ (Cel.cs c (.slice ao' xs.length cap')) (0, 0) _ (HR.out.rr.row _) Tryd.underlying62 rfl sizeCell)) rfl ⟨_, by simp [Cel.replied, Cel.v_cs, *], own_low (own_row HR.out.own _ (fun e => (HR.out.no _ e).2 rfl)) HR.out.bs, below_row HR.out.d HR.out.gr0 _⟩
  · have h13 : k = 13 := by omega
    subst h13
    cases is
    · have ya : W.cell? ⟨w2.heap.size, 1 + flag.toNat, none⟩ = some (.int .i64 (Cel.reg c flag)) := HR.out.rd.cell (cs_reg _ _ hf0 hf1)
      have yb : W.frozen? ⟨w2.heap.size, 1 + flag.toNat, none⟩ = false := HR.out.rd.fr _
      go_wp2
      go_region_with (go_at_call 94; refine (bit_t _ _).mono ?_; rintro e w' ⟨rfl, rfl⟩)
      all_goals
        have HR1 := Lib.hid ((HR.out.reg hf0 hf1 (truthI false)).drew)
        clear HR ya yb
        generalize World.drew _ = W1 at HR1 ⊢
        go_wp2_with (first | (refine wpList_load_row rfl 62 (.tmp 13) rfl (w2.heap.size) rfl 62 (Cel.cs (c.setReg flag (truthI false)) (.slice ao' xs.length cap')) (0, 0) _ HR1.out.rd Tryd.underlying62 rfl sizeCell ?_) | (refine wpList_store_row rfl 62 (.tmp 10) (.tmp 54) rfl (w.heap.size + 2) (Cel.cs (c.setReg flag (truthI false)) (.slice ao' xs.length cap')) rfl rfl 62 _ HR1.out.rr sizeCell rfl (Cel.cs_one _ _ rfl) ?_))
        refine bodyPost_ret (results_row_tmp Tryd.results64 _ _ (w.heap.size + 2) _ _ rfl rfl (run_loadVar_row _ _ 62 _ (Cel.cs (c.setReg flag (truthI false)) (.slice ao' xs.length cap')) (0, 0) _ (HR1.out.rr.row _) Tryd.underlying62 rfl sizeCell)) rfl ⟨_, by simp [Cel.replied, Cel.v_cs, *], own_low (own_row HR1.out.own _ (fun e => (HR1.out.no _ e).2 rfl)) HR1.out.bs, below_row HR1.out.d HR1.out.gr0 _⟩
    · have w3a : (W.setCell ⟨w2.heap.size, 1 + reg.toNat, none⟩ (.int .i64 vl)).cell? ⟨w.heap.size + 1, 3, none⟩ = some (.int .i64 flag) := cl_set (.inl hw1) w3
      go_wp2_with (refine wpList_store_cellW rfl 3 (.tmp 47) (.tmp 45) rfl (w2.heap.size) (1 + reg.toNat) (.int .i64 vl) rfl rfl rfl 62 (c.cs (.slice ao' xs.length cap')) HR.out.rd (by simp [Cel.cs]; omega) sizeInt ?_)
      intro W2 HW2
      rw [← HW2.out] at w3a
      have HR1 : Hid (Rp w w1.heap.size W2 (w2.heap.size) (w.heap.size + 2) (c.setReg reg vl) (.slice ao' xs.length cap') xs) := by
        rw [HW2.out]
        exact HR.out.reg hr0 hr1 vl
      have ya : W2.cell? ⟨w2.heap.size, 1 + flag.toNat, none⟩ = some (.int .i64 (Cel.reg (c.setReg reg vl) flag)) := HR1.out.rd.cell (cs_reg _ _ hf0 hf1)
      have yb : W2.frozen? ⟨w2.heap.size, 1 + flag.toNat, none⟩ = false := HR1.out.rd.fr _
      clear HR w3 w2' HW2
      go_wp2
      go_region_with (go_at_call 94; refine (bit_t _ _).mono ?_; rintro e w' ⟨rfl, rfl⟩)
      all_goals
        have HR2 := Lib.hid ((HR1.out.reg hf0 hf1 (truthI true)).drew)
        clear HR1 ya yb
        generalize World.drew _ = W1 at HR2 ⊢
        go_wp2_with (first | (refine wpList_load_row rfl 62 (.tmp 13) rfl (w2.heap.size) rfl 62 (Cel.cs ((c.setReg reg vl).setReg flag (truthI true)) (.slice ao' xs.length cap')) (0, 0) _ HR2.out.rd Tryd.underlying62 rfl sizeCell ?_) | (refine wpList_store_row rfl 62 (.tmp 10) (.tmp 54) rfl (w.heap.size + 2) (Cel.cs ((c.setReg reg vl).setReg flag (truthI true)) (.slice ao' xs.length cap')) rfl rfl 62 _ HR2.out.rr sizeCell rfl (Cel.cs_one _ _ rfl) ?_))
        refine bodyPost_ret (results_row_tmp Tryd.results64 _ _ (w.heap.size + 2) _ _ rfl rfl (run_loadVar_row _ _ 62 _ (Cel.cs ((c.setReg reg vl).setReg flag (truthI true)) (.slice ao' xs.length cap')) (0, 0) _ (HR2.out.rr.row _) Tryd.underlying62 rfl sizeCell)) rfl ⟨_, by simp [Cel.replied, Cel.v_cs, *], own_low (own_row HR2.out.own _ (fun e => (HR2.out.no _ e).2 rfl)) HR2.out.bs, below_row HR2.out.d HR2.out.gr0 _⟩

end Go.Proofs.YtnnnljfdjdehaaaDoor

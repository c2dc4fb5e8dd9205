/- ref.CheckWorld. -/
import Derived.Test.YtehhhiodfcdnmaaGreatDoorJ16
import Derived.Test.YtehhhiodfcdnmaaGreatDoorJ6
import Derived.Test.YtehhhiodfcdnmaaGreatDoorJ2
namespace Go.Proofs.YtehhhiodfcdnmaaGreatDoor
set_option linter.unusedSimpArgs false
set_option linter.unusedVariables false
open Go.RowKit Go.Sort
theorem ent_cellFine : Enters 35 := enters Tryz.func35 (by kernel_rfl) (by kernel_rfl)
theorem ent_checkLine : Enters 36 := enters Tryz.func36 (by kernel_rfl) (by kernel_rfl)
set_option maxRecDepth 100000 in
set_option maxHeartbeats 16000000 in
theorem checkWorld_any (S : SysD) (hok : S.ok) (D : WldD) (vp vc vs uc ul : Value) (w : World) (hS : Sys w vp vc vs S) (hW : Wld w uc ul D) (r : Int) (hr : chkW S D = r) :
    Calls Tryz.prog 10 #[.agg #[vp, vc, vs], .agg #[.int .i64 D.tick, uc, ul]] w fun e w' => e = .returned (.int .i64 r) ∧ Below w.heap.size w w' := by
  obtain ⟨pa, pc, rfl⟩ := hS.p.form
  obtain ⟨ka, kc, rfl⟩ := hS.c.form
  obtain ⟨sa, sc, rfl⟩ := hS.s.form
  obtain ⟨ua, uc, rfl⟩ := hW.c.form
  obtain ⟨la, lc, rfl⟩ := hW.l.form
  have HC := Lib.hid fun w hS => sysRef_any S hok (.slice pa S.parts.length pc) (.slice ka S.chans.length kc) (.slice sa S.slots.length sc) w hS
  have HS := Lib.hid hS
  have HW := Lib.hid hW
  have HR := Lib.hid hr
  clear hS hW hr hok
  obtain ⟨e0, hce⟩ : ∃ e0, chkS S = e0 := ⟨_, rfl⟩
  rw [hce] at HC
  by_cases h0 : e0 = 0
  · subst h0
    have hcl : S.parts.length ≤ 4 ∧ S.chans.length ≤ 6 := by
      unfold chkS at hce
      cases hb : countsB S with
      | false => rw [hb] at hce; simp at hce
      | true => simp [countsB] at hb; omega
    obtain ⟨hcl1, hcl2⟩ := hcl
    have HCE := Lib.hid hce
    clear hce
    go_enter Tryz.func10, Tryz.ntmps10
    go_wp2_with fail
    refine (HC.out _ (HS.out.up (by repeat (first | exact Below.refl _ _ | assumption | refine Below.drew ?_ | refine Below.alloc ?_ (by first | (simp; done) | (simp; omega)) _ | refine Below.setCell ?_ (by first | (simp; done) | (simp; omega)) _)))).mono ?_
    rintro e w1 ⟨rfl, b1⟩
    have z1 := b1.size
    simp at z1
    have R0 : Hid (Rw w1 w.heap.size 26 #[.slice pa S.parts.length pc, .slice ka S.chans.length kc, .slice sa S.slots.length sc]) := Rw.up (by repeat (first | exact Rw.new _ _ _ (by first | rfl | (simp; done) | omega | (simp; omega)) | refine Rw.alloc ?_ _)) b1 (by first | omega | (simp; done) | (simp; omega))
    have R1 : Hid (Rw w1 (w.heap.size + 1) 30 #[.int .i64 D.tick, .slice ua D.cells.length uc, .slice la D.lines.length lc]) := Rw.up (by repeat (first | exact Rw.new _ _ _ (by first | rfl | (simp; done) | omega | (simp; omega)) | refine Rw.alloc ?_ _)) b1 (by first | omega | (simp; done) | (simp; omega))
    have HD : Hid (Below w.heap.size w w1) := by
      refine Below.trans ?_ (b1.mono (by first | omega | (simp; done) | (simp; omega)))
      exact (by repeat (first | exact Below.refl _ _ | assumption | refine Below.drew ?_ | refine Below.alloc ?_ (by first | (simp; done) | (simp; omega)) _ | refine Below.setCell ?_ (by first | (simp; done) | (simp; omega)) _))
    have q0 := R0.out.cell (j := 0) (v := .slice pa S.parts.length pc) rfl
    have q1 := R0.out.cell (j := 1) (v := .slice ka S.chans.length kc) rfl
    have q2 := R1.out.cell (j := 0) (v := .int .i64 D.tick) rfl
    have q3 := R1.out.cell (j := 1) (v := .slice ua D.cells.length uc) rfl
    have q4 := R1.out.cell (j := 2) (v := .slice la D.lines.length lc) rfl
    clear b1 HC
    have HI := Lib.hid fun V => within_any D.tick 0 300 V
    by_cases hg : withinB D.tick 0 300 = true ∧ D.cells.length = S.parts.length ∧ D.lines.length = S.chans.length
    · obtain ⟨hB, hl1, hl2⟩ := hg
      have n1 : ((D.cells.length : Int) != S.parts.length) = false := by simp; omega
      have n2 : ((D.lines.length : Int) != S.chans.length) = false := by simp; omega
      rw [hB] at HI
      have HWT : Hid (chkW S D = if cellsB S.parts D.cells && linesB S.chans D.lines then 0 else 1) := by
        show _ = _
        unfold chkW
        rw [HCE.out, hB]
        simp
      have HL1 := Lib.hid hl1
      have HL2 := Lib.hid hl2
      clear hB hl1 hl2
      go_wp2_with (go_at_call 34; refine (HI.out _).mono ?_; rintro e w2 ⟨rfl, rfl⟩)
      clear HI n1 n2 q0 q1 q2 q3 q4
      go_loopw [6] (fun i wr => ∃ k : Nat, i = .int .i64 k ∧ k ≤ D.cells.length ∧ Hid (∀ j (h : j < S.parts.length) (h' : j < D.cells.length), j < k → celB S.parts[j] D.cells[j] = true) ∧ Hid (Below w2.heap.size w2 wr)) (fun i _ => D.cells.length - (intOf i).toNat)
      case atStart => exact ⟨0, rfl, Nat.zero_le _, Lib.hid (fun j h h' h0 => by omega), Lib.hid (Below.refl _ _)⟩
      case round =>
        obtain ⟨k, rfl, hk, HZ, HB⟩ := hrel
        have hws := HB.out.size
        have hw0 := HD.out.size
        have r0 := R0.out.up HB.out (by omega)
        have r1 := R1.out.up HB.out (by omega)
        have q0 := r0.cell (j := 0) (v := .slice pa S.parts.length pc) rfl
        have q3 := r1.cell (j := 1) (v := .slice ua D.cells.length uc) rfl
        have Q0 := Lib.hid q0
        have Q3 := Lib.hid q3
        clear r0 r1
        by_cases hlt : k < D.cells.length
        · have hli : (k : Int) < D.cells.length := by omega
          have h0i : (0 : Int) ≤ k := by omega
          have hlp : k < S.parts.length := by have := HL1.out; omega
          have hlip : (k : Int) < S.parts.length := by omega
          have hbb := HD.out.trans (HB.out.mono (by omega))
          obtain ⟨b, off, cap, e1, hcap, hbw, hc⟩ := HW.out.c.open (by omega)
          cases e1
          obtain ⟨ao, oc, hra, hso⟩ := hc k hlt
          obtain ⟨pb, po, pcap, e2, hpcap, hpbw, hpc⟩ := HS.out.p.open (by omega)
          cases e2
          obtain ⟨cv, iv, hcv, hiv, hpr⟩ := hpc k hlp
          obtain ⟨ia, ic, rfl⟩ := hpr.inn.form
          have RA := Lib.hid (range_up hra hbb hbw)
          have PC := Lib.hid (bcl hbb hpbw hiv)
          have hsz : S.parts[k].inn.length ≤ ic := by
            obtain ⟨_, _, _, e, h, _⟩ := hpr.inn
            injection e with _ _ e2
            omega
          generalize hd : D.cells[k] = d at RA
          obtain ⟨c, out⟩ := d
          generalize hp : S.parts[k] = p at PC
          obtain ⟨code, inn⟩ := p
          have HDk := Lib.hid hd
          have HPk := Lib.hid hp
          simp only at RA PC
          have hb1 : b < wr.heap.size := by omega
          have hpb1 : pb < wr.heap.size := by omega
          have hg0 : w.heap.size < wr.heap.size := by omega
          have hg1 : w.heap.size + 1 < wr.heap.size := by omega
          clear hra hso hc hpc hcv hiv hpr hd hp hsz hbb
          have HCK := Lib.hid fun V => cellFine_any c ao out.length oc V
          rw [Cel.v_cs] at HCK
          cases hf : c.fine out.length
          · have HNO := Lib.hid (show cellsB S.parts D.cells = false from cellsB_no k hlp hlt (by rw [HDk.out]; simp [celB, hf]))
            rw [hf] at HCK
            clear hf
            go_wp2
            clear q0 q3
            refine region_still (S := fun w' => Below wr.heap.size wr w') 22 (by kernel_rfl) (Below.refl _ _).drew (fun hHeld => ?_)
            refine Still.takeBy (i := 0) [7, 5, 4, 3, 1] (v := ?v11) (by kernel_rfl) (by kernel_rfl) rfl (by kernel_rfl) (by kernel_rfl) (by kernel_rfl) (fun _ _ _ h => h) (Or.inl ⟨by rfl, ?y11⟩) hHeld ?r11
            case y11 => (intro w' hSw; (try dsimp only at hSw); have q1 := bcl hSw hg1 Q3.out; have q2 := bcl hSw hg0 Q0.out; have q5 := range_up RA.out hSw hb1 13 (.int .i64 c.read) rfl; have q6 := bcl hSw hpb1 PC.out; clear hSw; go_simp; try with_reducible rfl)
            simp only [Act.put, List.getElem_toArray, List.getElem_cons_zero, List.getElem_cons_succ, List.setIfInBounds_toArray, List.set_cons_zero, List.set_cons_succ]
            refine Still.takeBy (i := 1) [7, 5, 4, 3] (v := ?v12) (by kernel_rfl) (by kernel_rfl) rfl (by kernel_rfl) (by kernel_rfl) (by kernel_rfl) (fun _ _ _ h => h) (Or.inl ⟨by rfl, ?y12⟩) hHeld ?r12
            case y12 => (intro w' hSw; (try dsimp only at hSw); have q1 := bcl hSw hg1 Q3.out; have q2 := bcl hSw hg0 Q0.out; have q5 := range_up RA.out hSw hb1 13 (.int .i64 c.read) rfl; have q6 := bcl hSw hpb1 PC.out; clear hSw; go_simp; try with_reducible rfl)
            simp only [Act.put, List.getElem_toArray, List.getElem_cons_zero, List.getElem_cons_succ, List.setIfInBounds_toArray, List.set_cons_zero, List.set_cons_succ]
            refine Still.takeBy (i := 2) [7, 5, 4, 3] (v := ?v13) (by kernel_rfl) (by kernel_rfl) rfl (by kernel_rfl) (by kernel_rfl) (by kernel_rfl) (fun _ _ _ h => h) (Or.inl ⟨by rfl, ?y13⟩) hHeld ?r13
            case y13 => (intro w' hSw; (try dsimp only at hSw); have q1 := bcl hSw hg1 Q3.out; have q2 := bcl hSw hg0 Q0.out; have q5 := range_up RA.out hSw hb1 13 (.int .i64 c.read) rfl; have q6 := bcl hSw hpb1 PC.out; clear hSw; go_simp; try with_reducible rfl)
            simp only [Act.put, List.getElem_toArray, List.getElem_cons_zero, List.getElem_cons_succ, List.setIfInBounds_toArray, List.set_cons_zero, List.set_cons_succ]
            refine Still.takeBy (i := 3) [7, 5, 4] (v := ?v14) (by kernel_rfl) (by kernel_rfl) rfl (by kernel_rfl) (by kernel_rfl) (by kernel_rfl) (fun _ _ _ h => h) (Or.inl ⟨by rfl, ?y14⟩) hHeld ?r14
            case y14 => (intro w' hSw; (try dsimp only at hSw); have q1 := bcl hSw hg1 Q3.out; have q2 := bcl hSw hg0 Q0.out; have q5 := range_up RA.out hSw hb1 13 (.int .i64 c.read) rfl; have q6 := bcl hSw hpb1 PC.out; clear hSw; go_simp; try with_reducible rfl)
            simp only [Act.put, List.getElem_toArray, List.getElem_cons_zero, List.getElem_cons_succ, List.setIfInBounds_toArray, List.set_cons_zero, List.set_cons_succ]
            refine Still.takeBy (i := 4) [7, 5] (by kernel_rfl) (by kernel_rfl) rfl (by kernel_rfl) (by kernel_rfl) (by kernel_rfl) (fun _ _ _ h => h) (yields_load_midA (by rfl) _ _ rfl b (off + k * 16) (by first | rfl | simp [Act.eval, Act.put]) (c.cs (.slice ao out.length oc)) _ (fun w' hSw => range_up RA.out hSw hb1) Tryz.underlying35 rfl sizeCell) hHeld ?r15
            simp only [Act.put, List.getElem_toArray, List.getElem_cons_zero, List.getElem_cons_succ, List.setIfInBounds_toArray, List.set_cons_zero, List.set_cons_succ]
            refine Still.all (rs := [5]) (by kernel_rfl) (by simp) (Still.one (i := 5) rfl rfl (fun K hK => ?_) (by simp))
            refine wp_call 35 _ _ rfl ent_cellFine #[.agg (c.cs (.slice ao out.length oc))] (by first | rfl | simp [Act.eval, Act.put]) ((HCK.out _).mono ?_)
            rintro e V1 ⟨rfl, bb⟩
            refine ⟨_, rfl, hK _ _ (fun _ => hHeld.trans (bb.mono hHeld.size)) (fun hh => ?_)⟩
            have hHeld := hh (by decide)
            clear hK K hh
            try simp only [Act.put, List.getElem_toArray, List.getElem_cons_zero, List.getElem_cons_succ, List.setIfInBounds_toArray, List.set_cons_zero, List.set_cons_succ]
            clear bb
            refine Still.takeBy (i := 6) [7] (v := ?v16) (by kernel_rfl) (by kernel_rfl) rfl (by kernel_rfl) (by kernel_rfl) (by kernel_rfl) (fun _ _ _ h => h) (Or.inl ⟨by rfl, ?y16⟩) hHeld ?r16
            case y16 => (intro w' hSw; (try dsimp only at hSw); go_simp; try with_reducible rfl)
            simp only [Act.put, List.getElem_toArray, List.getElem_cons_zero, List.getElem_cons_succ, List.setIfInBounds_toArray, List.set_cons_zero, List.set_cons_succ]
            refine Still.takeBy (i := 7) [] (v := ?v17) (by kernel_rfl) (by kernel_rfl) rfl (by kernel_rfl) (by kernel_rfl) (by kernel_rfl) (fun _ _ _ h => h) (Or.inl ⟨by rfl, ?y17⟩) hHeld ?r17
            case y17 => (intro w' hSw; (try dsimp only at hSw); go_simp; try with_reducible rfl)
            simp only [Act.put, List.getElem_toArray, List.getElem_cons_zero, List.getElem_cons_succ, List.setIfInBounds_toArray, List.set_cons_zero, List.set_cons_succ]
            refine Still.takeBy (i := 8) [21, 13, 12, 11, 9] (by kernel_rfl) (by kernel_rfl) rfl (by kernel_rfl) (by kernel_rfl) (by kernel_rfl) (fun _ _ _ h => h) (Or.inr ⟨by rfl, rfl⟩) hHeld ?r18
            simp only [Act.put, List.getElem_toArray, List.getElem_cons_zero, List.getElem_cons_succ, List.setIfInBounds_toArray, List.set_cons_zero, List.set_cons_succ]
            refine Still.takeBy (i := 9) [21, 13, 12, 11] (by kernel_rfl) (by kernel_rfl) rfl (by kernel_rfl) (by kernel_rfl) (by kernel_rfl) (fun _ _ _ h => h) (Or.inr ⟨by rfl, rfl⟩) hHeld ?r19
            simp only [Act.put, List.getElem_toArray, List.getElem_cons_zero, List.getElem_cons_succ, List.setIfInBounds_toArray, List.set_cons_zero, List.set_cons_succ]
            refine Still.takeBy (i := 10) [21, 13, 12, 11] (by kernel_rfl) (by kernel_rfl) rfl (by kernel_rfl) (by kernel_rfl) (by kernel_rfl) (fun _ _ _ h => h) (Or.inr ⟨by rfl, rfl⟩) hHeld ?r20
            simp only [Act.put, List.getElem_toArray, List.getElem_cons_zero, List.getElem_cons_succ, List.setIfInBounds_toArray, List.set_cons_zero, List.set_cons_succ]
            refine Still.takeBy (i := 11) [21, 13, 12] (by kernel_rfl) (by kernel_rfl) rfl (by kernel_rfl) (by kernel_rfl) (by kernel_rfl) (fun _ _ _ h => h) (Or.inr ⟨by rfl, rfl⟩) hHeld ?r21
            simp only [Act.put, List.getElem_toArray, List.getElem_cons_zero, List.getElem_cons_succ, List.setIfInBounds_toArray, List.set_cons_zero, List.set_cons_succ]
            refine Still.takeBy (i := 12) [21, 13] (by kernel_rfl) (by kernel_rfl) rfl (by kernel_rfl) (by kernel_rfl) (by kernel_rfl) (fun _ _ _ h => h) (Or.inr ⟨by rfl, rfl⟩) hHeld ?r22
            simp only [Act.put, List.getElem_toArray, List.getElem_cons_zero, List.getElem_cons_succ, List.setIfInBounds_toArray, List.set_cons_zero, List.set_cons_succ]
            refine Still.takeBy (i := 13) [21] (by kernel_rfl) (by kernel_rfl) rfl (by kernel_rfl) (by kernel_rfl) (by kernel_rfl) (fun _ _ _ h => h) (Or.inr ⟨by rfl, rfl⟩) hHeld ?r23
            simp only [Act.put, List.getElem_toArray, List.getElem_cons_zero, List.getElem_cons_succ, List.setIfInBounds_toArray, List.set_cons_zero, List.set_cons_succ]
            refine Still.takeBy (i := 14) [21, 20, 19, 18, 17, 15] (by kernel_rfl) (by kernel_rfl) rfl (by kernel_rfl) (by kernel_rfl) (by kernel_rfl) (fun _ _ _ h => h) (Or.inr ⟨by rfl, rfl⟩) hHeld ?r24
            simp only [Act.put, List.getElem_toArray, List.getElem_cons_zero, List.getElem_cons_succ, List.setIfInBounds_toArray, List.set_cons_zero, List.set_cons_succ]
            refine Still.takeBy (i := 15) [21, 20, 19, 18, 17] (by kernel_rfl) (by kernel_rfl) rfl (by kernel_rfl) (by kernel_rfl) (by kernel_rfl) (fun _ _ _ h => h) (Or.inr ⟨by rfl, rfl⟩) hHeld ?r25
            simp only [Act.put, List.getElem_toArray, List.getElem_cons_zero, List.getElem_cons_succ, List.setIfInBounds_toArray, List.set_cons_zero, List.set_cons_succ]
            refine Still.takeBy (i := 16) [21, 20, 19, 18, 17] (by kernel_rfl) (by kernel_rfl) rfl (by kernel_rfl) (by kernel_rfl) (by kernel_rfl) (fun _ _ _ h => h) (Or.inr ⟨by rfl, rfl⟩) hHeld ?r26
            simp only [Act.put, List.getElem_toArray, List.getElem_cons_zero, List.getElem_cons_succ, List.setIfInBounds_toArray, List.set_cons_zero, List.set_cons_succ]
            refine Still.takeBy (i := 17) [21, 20, 19, 18] (by kernel_rfl) (by kernel_rfl) rfl (by kernel_rfl) (by kernel_rfl) (by kernel_rfl) (fun _ _ _ h => h) (Or.inr ⟨by rfl, rfl⟩) hHeld ?r27
            simp only [Act.put, List.getElem_toArray, List.getElem_cons_zero, List.getElem_cons_succ, List.setIfInBounds_toArray, List.set_cons_zero, List.set_cons_succ]
            refine Still.takeBy (i := 18) [21, 20, 19] (by kernel_rfl) (by kernel_rfl) rfl (by kernel_rfl) (by kernel_rfl) (by kernel_rfl) (fun _ _ _ h => h) (Or.inr ⟨by rfl, rfl⟩) hHeld ?r28
            simp only [Act.put, List.getElem_toArray, List.getElem_cons_zero, List.getElem_cons_succ, List.setIfInBounds_toArray, List.set_cons_zero, List.set_cons_succ]
            refine Still.takeBy (i := 19) [21, 20] (by kernel_rfl) (by kernel_rfl) rfl (by kernel_rfl) (by kernel_rfl) (by kernel_rfl) (fun _ _ _ h => h) (Or.inr ⟨by rfl, rfl⟩) hHeld ?r29
            simp only [Act.put, List.getElem_toArray, List.getElem_cons_zero, List.getElem_cons_succ, List.setIfInBounds_toArray, List.set_cons_zero, List.set_cons_succ]
            refine Still.takeBy (i := 20) [21] (by kernel_rfl) (by kernel_rfl) rfl (by kernel_rfl) (by kernel_rfl) (by kernel_rfl) (fun _ _ _ h => h) (Or.inr ⟨by rfl, rfl⟩) hHeld ?r30
            simp only [Act.put, List.getElem_toArray, List.getElem_cons_zero, List.getElem_cons_succ, List.setIfInBounds_toArray, List.set_cons_zero, List.set_cons_succ]
            refine Still.takeBy (i := 21) [] (by kernel_rfl) (by kernel_rfl) rfl (by kernel_rfl) (by kernel_rfl) (by kernel_rfl) (fun _ _ _ h => h) (Or.inr ⟨by rfl, rfl⟩) hHeld ?r31
            simp only [Act.put, List.getElem_toArray, List.getElem_cons_zero, List.getElem_cons_succ, List.setIfInBounds_toArray, List.set_cons_zero, List.set_cons_succ]
            refine Still.all (rs := [22]) (by kernel_rfl) (by simp) (Still.one (i := 22) rfl rfl (fun K hK => ?_) (by simp))
            go_simp
            refine hK _ _ (fun h => absurd rfl h) (fun _ => ?_)
            clear hK K
            refine Still.over (by kernel_rfl) ?_ _
            have HL := Lib.hid (HB.out.trans (hHeld.mono HB.out.size))
            clear hHeld
            go_wp2
            go_ret
            exact ⟨ret_int (by rw [← HR.out, HWT.out, HNO.out]; rfl), HD.out.trans (HL.out.mono hw0)⟩
          · rw [hf] at HCK
            by_cases hrd : c.read ≤ inn.length
            · have HYES := Lib.hid (show celB S.parts[k] D.cells[k] = true by rw [HDk.out, HPk.out]; simp [celB, hf, hrd])
              have B1 := Lib.hid (show decide ((inn.length : Int) < c.read) = false from decide_eq_false (by omega))
              clear hf hrd
              go_wp2
              clear q0 q3
              refine region_still (S := fun w' => Below wr.heap.size wr w') 22 (by kernel_rfl) (Below.refl _ _).drew (fun hHeld => ?_)
              refine Still.takeBy (i := 0) [7, 5, 4, 3, 1] (v := ?v51) (by kernel_rfl) (by kernel_rfl) rfl (by kernel_rfl) (by kernel_rfl) (by kernel_rfl) (fun _ _ _ h => h) (Or.inl ⟨by rfl, ?y51⟩) hHeld ?r51
              case y51 => (intro w' hSw; (try dsimp only at hSw); have q1 := bcl hSw hg1 Q3.out; have q2 := bcl hSw hg0 Q0.out; have q5 := range_up RA.out hSw hb1 13 (.int .i64 c.read) rfl; have q6 := bcl hSw hpb1 PC.out; clear hSw; go_simp; try with_reducible rfl)
              simp only [Act.put, List.getElem_toArray, List.getElem_cons_zero, List.getElem_cons_succ, List.setIfInBounds_toArray, List.set_cons_zero, List.set_cons_succ]
              refine Still.takeBy (i := 1) [7, 5, 4, 3] (v := ?v52) (by kernel_rfl) (by kernel_rfl) rfl (by kernel_rfl) (by kernel_rfl) (by kernel_rfl) (fun _ _ _ h => h) (Or.inl ⟨by rfl, ?y52⟩) hHeld ?r52
              case y52 => (intro w' hSw; (try dsimp only at hSw); have q1 := bcl hSw hg1 Q3.out; have q2 := bcl hSw hg0 Q0.out; have q5 := range_up RA.out hSw hb1 13 (.int .i64 c.read) rfl; have q6 := bcl hSw hpb1 PC.out; clear hSw; go_simp; try with_reducible rfl)
              simp only [Act.put, List.getElem_toArray, List.getElem_cons_zero, List.getElem_cons_succ, List.setIfInBounds_toArray, List.set_cons_zero, List.set_cons_succ]
              refine Still.takeBy (i := 2) [7, 5, 4, 3] (v := ?v53) (by kernel_rfl) (by kernel_rfl) rfl (by kernel_rfl) (by kernel_rfl) (by kernel_rfl) (fun _ _ _ h => h) (Or.inl ⟨by rfl, ?y53⟩) hHeld ?r53
              case y53 => (intro w' hSw; (try dsimp only at hSw); have q1 := bcl hSw hg1 Q3.out; have q2 := bcl hSw hg0 Q0.out; have q5 := range_up RA.out hSw hb1 13 (.int .i64 c.read) rfl; have q6 := bcl hSw hpb1 PC.out; clear hSw; go_simp; try with_reducible rfl)
              simp only [Act.put, List.getElem_toArray, List.getElem_cons_zero, List.getElem_cons_succ, List.setIfInBounds_toArray, List.set_cons_zero, List.set_cons_succ]
              refine Still.takeBy (i := 3) [7, 5, 4] (v := ?v54) (by kernel_rfl) (by kernel_rfl) rfl (by kernel_rfl) (by kernel_rfl) (by kernel_rfl) (fun _ _ _ h => h) (Or.inl ⟨by rfl, ?y54⟩) hHeld ?r54
              case y54 => (intro w' hSw; (try dsimp only at hSw); have q1 := bcl hSw hg1 Q3.out; have q2 := bcl hSw hg0 Q0.out; have q5 := range_up RA.out hSw hb1 13 (.int .i64 c.read) rfl; have q6 := bcl hSw hpb1 PC.out; clear hSw; go_simp; try with_reducible rfl)
              simp only [Act.put, List.getElem_toArray, List.getElem_cons_zero, List.getElem_cons_succ, List.setIfInBounds_toArray, List.set_cons_zero, List.set_cons_succ]
              refine Still.takeBy (i := 4) [7, 5] (by kernel_rfl) (by kernel_rfl) rfl (by kernel_rfl) (by kernel_rfl) (by kernel_rfl) (fun _ _ _ h => h) (yields_load_midA (by rfl) _ _ rfl b (off + k * 16) (by first | rfl | simp [Act.eval, Act.put]) (c.cs (.slice ao out.length oc)) _ (fun w' hSw => range_up RA.out hSw hb1) Tryz.underlying35 rfl sizeCell) hHeld ?r55
              simp only [Act.put, List.getElem_toArray, List.getElem_cons_zero, List.getElem_cons_succ, List.setIfInBounds_toArray, List.set_cons_zero, List.set_cons_succ]
              refine Still.all (rs := [5]) (by kernel_rfl) (by simp) (Still.one (i := 5) rfl rfl (fun K hK => ?_) (by simp))
              refine wp_call 35 _ _ rfl ent_cellFine #[.agg (c.cs (.slice ao out.length oc))] (by first | rfl | simp [Act.eval, Act.put]) ((HCK.out _).mono ?_)
              rintro e V1 ⟨rfl, bb⟩
              refine ⟨_, rfl, hK _ _ (fun _ => hHeld.trans (bb.mono hHeld.size)) (fun hh => ?_)⟩
              have hHeld := hh (by decide)
              clear hK K hh
              try simp only [Act.put, List.getElem_toArray, List.getElem_cons_zero, List.getElem_cons_succ, List.setIfInBounds_toArray, List.set_cons_zero, List.set_cons_succ]
              clear bb
              refine Still.takeBy (i := 6) [7] (v := ?v56) (by kernel_rfl) (by kernel_rfl) rfl (by kernel_rfl) (by kernel_rfl) (by kernel_rfl) (fun _ _ _ h => h) (Or.inl ⟨by rfl, ?y56⟩) hHeld ?r56
              case y56 => (intro w' hSw; (try dsimp only at hSw); go_simp; try with_reducible rfl)
              simp only [Act.put, List.getElem_toArray, List.getElem_cons_zero, List.getElem_cons_succ, List.setIfInBounds_toArray, List.set_cons_zero, List.set_cons_succ]
              refine Still.takeBy (i := 7) [] (v := ?v57) (by kernel_rfl) (by kernel_rfl) rfl (by kernel_rfl) (by kernel_rfl) (by kernel_rfl) (fun _ _ _ h => h) (Or.inl ⟨by rfl, ?y57⟩) hHeld ?r57
              case y57 => (intro w' hSw; (try dsimp only at hSw); go_simp; try with_reducible rfl)
              simp only [Act.put, List.getElem_toArray, List.getElem_cons_zero, List.getElem_cons_succ, List.setIfInBounds_toArray, List.set_cons_zero, List.set_cons_succ]
              refine Still.takeBy (i := 8) [21, 13, 12, 11, 9] (v := ?v58) (by kernel_rfl) (by kernel_rfl) rfl (by kernel_rfl) (by kernel_rfl) (by kernel_rfl) (fun _ _ _ h => h) (Or.inl ⟨by rfl, ?y58⟩) hHeld ?r58
              case y58 => (intro w' hSw; (try dsimp only at hSw); have q1 := bcl hSw hg1 Q3.out; have q2 := bcl hSw hg0 Q0.out; have q5 := range_up RA.out hSw hb1 13 (.int .i64 c.read) rfl; have q6 := bcl hSw hpb1 PC.out; clear hSw; go_simp; (try simp only [B1.out]); try with_reducible rfl)
              simp only [Act.put, List.getElem_toArray, List.getElem_cons_zero, List.getElem_cons_succ, List.setIfInBounds_toArray, List.set_cons_zero, List.set_cons_succ]
              refine Still.takeBy (i := 9) [21, 13, 12, 11] (v := ?v59) (by kernel_rfl) (by kernel_rfl) rfl (by kernel_rfl) (by kernel_rfl) (by kernel_rfl) (fun _ _ _ h => h) (Or.inl ⟨by rfl, ?y59⟩) hHeld ?r59
              case y59 => (intro w' hSw; (try dsimp only at hSw); have q1 := bcl hSw hg1 Q3.out; have q2 := bcl hSw hg0 Q0.out; have q5 := range_up RA.out hSw hb1 13 (.int .i64 c.read) rfl; have q6 := bcl hSw hpb1 PC.out; clear hSw; go_simp; (try simp only [B1.out]); try with_reducible rfl)
              simp only [Act.put, List.getElem_toArray, List.getElem_cons_zero, List.getElem_cons_succ, List.setIfInBounds_toArray, List.set_cons_zero, List.set_cons_succ]
              refine Still.takeBy (i := 10) [21, 13, 12, 11] (v := ?v60) (by kernel_rfl) (by kernel_rfl) rfl (by kernel_rfl) (by kernel_rfl) (by kernel_rfl) (fun _ _ _ h => h) (Or.inl ⟨by rfl, ?y60⟩) hHeld ?r60
              case y60 => (intro w' hSw; (try dsimp only at hSw); have q1 := bcl hSw hg1 Q3.out; have q2 := bcl hSw hg0 Q0.out; have q5 := range_up RA.out hSw hb1 13 (.int .i64 c.read) rfl; have q6 := bcl hSw hpb1 PC.out; clear hSw; go_simp; (try simp only [B1.out]); try with_reducible rfl)
              simp only [Act.put, List.getElem_toArray, List.getElem_cons_zero, List.getElem_cons_succ, List.setIfInBounds_toArray, List.set_cons_zero, List.set_cons_succ]
              refine Still.takeBy (i := 11) [21, 13, 12] (v := ?v61) (by kernel_rfl) (by kernel_rfl) rfl (by kernel_rfl) (by kernel_rfl) (by kernel_rfl) (fun _ _ _ h => h) (Or.inl ⟨by rfl, ?y61⟩) hHeld ?r61
              case y61 => (intro w' hSw; (try dsimp only at hSw); have q1 := bcl hSw hg1 Q3.out; have q2 := bcl hSw hg0 Q0.out; have q5 := range_up RA.out hSw hb1 13 (.int .i64 c.read) rfl; have q6 := bcl hSw hpb1 PC.out; clear hSw; go_simp; (try simp only [B1.out]); try with_reducible rfl)
              simp only [Act.put, List.getElem_toArray, List.getElem_cons_zero, List.getElem_cons_succ, List.setIfInBounds_toArray, List.set_cons_zero, List.set_cons_succ]
              refine Still.takeBy (i := 12) [21, 13] (v := ?v62) (by kernel_rfl) (by kernel_rfl) rfl (by kernel_rfl) (by kernel_rfl) (by kernel_rfl) (fun _ _ _ h => h) (Or.inl ⟨by rfl, ?y62⟩) hHeld ?r62
              case y62 => (intro w' hSw; (try dsimp only at hSw); have q1 := bcl hSw hg1 Q3.out; have q2 := bcl hSw hg0 Q0.out; have q5 := range_up RA.out hSw hb1 13 (.int .i64 c.read) rfl; have q6 := bcl hSw hpb1 PC.out; clear hSw; go_simp; (try simp only [B1.out]); try with_reducible rfl)
              simp only [Act.put, List.getElem_toArray, List.getElem_cons_zero, List.getElem_cons_succ, List.setIfInBounds_toArray, List.set_cons_zero, List.set_cons_succ]
              refine Still.takeBy (i := 13) [21] (v := ?v63) (by kernel_rfl) (by kernel_rfl) rfl (by kernel_rfl) (by kernel_rfl) (by kernel_rfl) (fun _ _ _ h => h) (Or.inl ⟨by rfl, ?y63⟩) hHeld ?r63
              case y63 => (intro w' hSw; (try dsimp only at hSw); have q1 := bcl hSw hg1 Q3.out; have q2 := bcl hSw hg0 Q0.out; have q5 := range_up RA.out hSw hb1 13 (.int .i64 c.read) rfl; have q6 := bcl hSw hpb1 PC.out; clear hSw; go_simp; (try simp only [B1.out]); try with_reducible rfl)
              simp only [Act.put, List.getElem_toArray, List.getElem_cons_zero, List.getElem_cons_succ, List.setIfInBounds_toArray, List.set_cons_zero, List.set_cons_succ]
              refine Still.takeBy (i := 14) [21, 20, 19, 18, 17, 15] (v := ?v64) (by kernel_rfl) (by kernel_rfl) rfl (by kernel_rfl) (by kernel_rfl) (by kernel_rfl) (fun _ _ _ h => h) (Or.inl ⟨by rfl, ?y64⟩) hHeld ?r64
              case y64 => (intro w' hSw; (try dsimp only at hSw); have q1 := bcl hSw hg1 Q3.out; have q2 := bcl hSw hg0 Q0.out; have q5 := range_up RA.out hSw hb1 13 (.int .i64 c.read) rfl; have q6 := bcl hSw hpb1 PC.out; clear hSw; go_simp; (try simp only [B1.out]); try with_reducible rfl)
              simp only [Act.put, List.getElem_toArray, List.getElem_cons_zero, List.getElem_cons_succ, List.setIfInBounds_toArray, List.set_cons_zero, List.set_cons_succ]
              refine Still.takeBy (i := 15) [21, 20, 19, 18, 17] (v := ?v65) (by kernel_rfl) (by kernel_rfl) rfl (by kernel_rfl) (by kernel_rfl) (by kernel_rfl) (fun _ _ _ h => h) (Or.inl ⟨by rfl, ?y65⟩) hHeld ?r65
              case y65 => (intro w' hSw; (try dsimp only at hSw); have q1 := bcl hSw hg1 Q3.out; have q2 := bcl hSw hg0 Q0.out; have q5 := range_up RA.out hSw hb1 13 (.int .i64 c.read) rfl; have q6 := bcl hSw hpb1 PC.out; clear hSw; go_simp; (try simp only [B1.out]); try with_reducible rfl)
              simp only [Act.put, List.getElem_toArray, List.getElem_cons_zero, List.getElem_cons_succ, List.setIfInBounds_toArray, List.set_cons_zero, List.set_cons_succ]
              refine Still.takeBy (i := 16) [21, 20, 19, 18, 17] (v := ?v66) (by kernel_rfl) (by kernel_rfl) rfl (by kernel_rfl) (by kernel_rfl) (by kernel_rfl) (fun _ _ _ h => h) (Or.inl ⟨by rfl, ?y66⟩) hHeld ?r66
              case y66 => (intro w' hSw; (try dsimp only at hSw); have q1 := bcl hSw hg1 Q3.out; have q2 := bcl hSw hg0 Q0.out; have q5 := range_up RA.out hSw hb1 13 (.int .i64 c.read) rfl; have q6 := bcl hSw hpb1 PC.out; clear hSw; go_simp; (try simp only [B1.out]); try with_reducible rfl)
              simp only [Act.put, List.getElem_toArray, List.getElem_cons_zero, List.getElem_cons_succ, List.setIfInBounds_toArray, List.set_cons_zero, List.set_cons_succ]
              refine Still.takeBy (i := 17) [21, 20, 19, 18] (v := ?v67) (by kernel_rfl) (by kernel_rfl) rfl (by kernel_rfl) (by kernel_rfl) (by kernel_rfl) (fun _ _ _ h => h) (Or.inl ⟨by rfl, ?y67⟩) hHeld ?r67
              case y67 => (intro w' hSw; (try dsimp only at hSw); have q1 := bcl hSw hg1 Q3.out; have q2 := bcl hSw hg0 Q0.out; have q5 := range_up RA.out hSw hb1 13 (.int .i64 c.read) rfl; have q6 := bcl hSw hpb1 PC.out; clear hSw; go_simp; (try simp only [B1.out]); try with_reducible rfl)
              simp only [Act.put, List.getElem_toArray, List.getElem_cons_zero, List.getElem_cons_succ, List.setIfInBounds_toArray, List.set_cons_zero, List.set_cons_succ]
              refine Still.takeBy (i := 18) [21, 20, 19] (v := ?v68) (by kernel_rfl) (by kernel_rfl) rfl (by kernel_rfl) (by kernel_rfl) (by kernel_rfl) (fun _ _ _ h => h) (Or.inl ⟨by rfl, ?y68⟩) hHeld ?r68
              case y68 => (intro w' hSw; (try dsimp only at hSw); have q1 := bcl hSw hg1 Q3.out; have q2 := bcl hSw hg0 Q0.out; have q5 := range_up RA.out hSw hb1 13 (.int .i64 c.read) rfl; have q6 := bcl hSw hpb1 PC.out; clear hSw; go_simp; (try simp only [B1.out]); try with_reducible rfl)
              simp only [Act.put, List.getElem_toArray, List.getElem_cons_zero, List.getElem_cons_succ, List.setIfInBounds_toArray, List.set_cons_zero, List.set_cons_succ]
              refine Still.takeBy (i := 19) [21, 20] (v := ?v69) (by kernel_rfl) (by kernel_rfl) rfl (by kernel_rfl) (by kernel_rfl) (by kernel_rfl) (fun _ _ _ h => h) (Or.inl ⟨by rfl, ?y69⟩) hHeld ?r69
              case y69 => (intro w' hSw; (try dsimp only at hSw); have q1 := bcl hSw hg1 Q3.out; have q2 := bcl hSw hg0 Q0.out; have q5 := range_up RA.out hSw hb1 13 (.int .i64 c.read) rfl; have q6 := bcl hSw hpb1 PC.out; clear hSw; go_simp; (try simp only [B1.out]); try with_reducible rfl)
              simp only [Act.put, List.getElem_toArray, List.getElem_cons_zero, List.getElem_cons_succ, List.setIfInBounds_toArray, List.set_cons_zero, List.set_cons_succ]
              refine Still.takeBy (i := 20) [21] (v := ?v70) (by kernel_rfl) (by kernel_rfl) rfl (by kernel_rfl) (by kernel_rfl) (by kernel_rfl) (fun _ _ _ h => h) (Or.inl ⟨by rfl, ?y70⟩) hHeld ?r70
              case y70 => (intro w' hSw; (try dsimp only at hSw); have q1 := bcl hSw hg1 Q3.out; have q2 := bcl hSw hg0 Q0.out; have q5 := range_up RA.out hSw hb1 13 (.int .i64 c.read) rfl; have q6 := bcl hSw hpb1 PC.out; clear hSw; go_simp; (try simp only [B1.out]); try with_reducible rfl)
              simp only [Act.put, List.getElem_toArray, List.getElem_cons_zero, List.getElem_cons_succ, List.setIfInBounds_toArray, List.set_cons_zero, List.set_cons_succ]
              refine Still.takeBy (i := 21) [] (v := ?v71) (by kernel_rfl) (by kernel_rfl) rfl (by kernel_rfl) (by kernel_rfl) (by kernel_rfl) (fun _ _ _ h => h) (Or.inl ⟨by rfl, ?y71⟩) hHeld ?r71
              case y71 => (intro w' hSw; (try dsimp only at hSw); have q1 := bcl hSw hg1 Q3.out; have q2 := bcl hSw hg0 Q0.out; have q5 := range_up RA.out hSw hb1 13 (.int .i64 c.read) rfl; have q6 := bcl hSw hpb1 PC.out; clear hSw; go_simp; (try simp only [B1.out]); try with_reducible rfl)
              simp only [Act.put, List.getElem_toArray, List.getElem_cons_zero, List.getElem_cons_succ, List.setIfInBounds_toArray, List.set_cons_zero, List.set_cons_succ]
              refine Still.all (rs := [22]) (by kernel_rfl) (by simp) (Still.one (i := 22) rfl rfl (fun K hK => ?_) (by simp))
              go_simp
              refine hK _ _ (fun h => absurd rfl h) (fun _ => ?_)
              clear hK K
              refine Still.over (by kernel_rfl) ?_ _
              have HL := Lib.hid (HB.out.trans (hHeld.mono HB.out.size))
              clear hHeld
              go_wp2
              go_roundw
              case rel => exact ⟨k + 1, by go_num, by omega, Lib.hid (fun j h h' hj => by
                rcases Nat.lt_or_ge j k with h1 | h1
                · exact HZ.out j h h' h1
                · obtain rfl : j = k := by omega
                  exact HYES.out), HL⟩
              case measure => simp [intOf]; omega
            · have HNO := Lib.hid (show cellsB S.parts D.cells = false from cellsB_no k hlp hlt (by rw [HDk.out, HPk.out]; simp [celB]; intro; omega))
              have B1 := Lib.hid (show decide ((inn.length : Int) < c.read) = true from decide_eq_true (by omega))
              clear hf hrd
              go_wp2
              clear q0 q3
              refine region_still (S := fun w' => Below wr.heap.size wr w') 22 (by kernel_rfl) (Below.refl _ _).drew (fun hHeld => ?_)
              refine Still.takeBy (i := 0) [7, 5, 4, 3, 1] (v := ?v91) (by kernel_rfl) (by kernel_rfl) rfl (by kernel_rfl) (by kernel_rfl) (by kernel_rfl) (fun _ _ _ h => h) (Or.inl ⟨by rfl, ?y91⟩) hHeld ?r91
              case y91 => (intro w' hSw; (try dsimp only at hSw); have q1 := bcl hSw hg1 Q3.out; have q2 := bcl hSw hg0 Q0.out; have q5 := range_up RA.out hSw hb1 13 (.int .i64 c.read) rfl; have q6 := bcl hSw hpb1 PC.out; clear hSw; go_simp; try with_reducible rfl)
              simp only [Act.put, List.getElem_toArray, List.getElem_cons_zero, List.getElem_cons_succ, List.setIfInBounds_toArray, List.set_cons_zero, List.set_cons_succ]
              refine Still.takeBy (i := 1) [7, 5, 4, 3] (v := ?v92) (by kernel_rfl) (by kernel_rfl) rfl (by kernel_rfl) (by kernel_rfl) (by kernel_rfl) (fun _ _ _ h => h) (Or.inl ⟨by rfl, ?y92⟩) hHeld ?r92
              case y92 => (intro w' hSw; (try dsimp only at hSw); have q1 := bcl hSw hg1 Q3.out; have q2 := bcl hSw hg0 Q0.out; have q5 := range_up RA.out hSw hb1 13 (.int .i64 c.read) rfl; have q6 := bcl hSw hpb1 PC.out; clear hSw; go_simp; try with_reducible rfl)
              simp only [Act.put, List.getElem_toArray, List.getElem_cons_zero, List.getElem_cons_succ, List.setIfInBounds_toArray, List.set_cons_zero, List.set_cons_succ]
              refine Still.takeBy (i := 2) [7, 5, 4, 3] (v := ?v93) (by kernel_rfl) (by kernel_rfl) rfl (by kernel_rfl) (by kernel_rfl) (by kernel_rfl) (fun _ _ _ h => h) (Or.inl ⟨by rfl, ?y93⟩) hHeld ?r93
              case y93 => (intro w' hSw; (try dsimp only at hSw); have q1 := bcl hSw hg1 Q3.out; have q2 := bcl hSw hg0 Q0.out; have q5 := range_up RA.out hSw hb1 13 (.int .i64 c.read) rfl; have q6 := bcl hSw hpb1 PC.out; clear hSw; go_simp; try with_reducible rfl)
              simp only [Act.put, List.getElem_toArray, List.getElem_cons_zero, List.getElem_cons_succ, List.setIfInBounds_toArray, List.set_cons_zero, List.set_cons_succ]
              refine Still.takeBy (i := 3) [7, 5, 4] (v := ?v94) (by kernel_rfl) (by kernel_rfl) rfl (by kernel_rfl) (by kernel_rfl) (by kernel_rfl) (fun _ _ _ h => h) (Or.inl ⟨by rfl, ?y94⟩) hHeld ?r94
              case y94 => (intro w' hSw; (try dsimp only at hSw); have q1 := bcl hSw hg1 Q3.out; have q2 := bcl hSw hg0 Q0.out; have q5 := range_up RA.out hSw hb1 13 (.int .i64 c.read) rfl; have q6 := bcl hSw hpb1 PC.out; clear hSw; go_simp; try with_reducible rfl)
              simp only [Act.put, List.getElem_toArray, List.getElem_cons_zero, List.getElem_cons_succ, List.setIfInBounds_toArray, List.set_cons_zero, List.set_cons_succ]
              refine Still.takeBy (i := 4) [7, 5] (by kernel_rfl) (by kernel_rfl) rfl (by kernel_rfl) (by kernel_rfl) (by kernel_rfl) (fun _ _ _ h => h) (yields_load_midA (by rfl) _ _ rfl b (off + k * 16) (by first | rfl | simp [Act.eval, Act.put]) (c.cs (.slice ao out.length oc)) _ (fun w' hSw => range_up RA.out hSw hb1) Tryz.underlying35 rfl sizeCell) hHeld ?r95
              simp only [Act.put, List.getElem_toArray, List.getElem_cons_zero, List.getElem_cons_succ, List.setIfInBounds_toArray, List.set_cons_zero, List.set_cons_succ]
              refine Still.all (rs := [5]) (by kernel_rfl) (by simp) (Still.one (i := 5) rfl rfl (fun K hK => ?_) (by simp))
              refine wp_call 35 _ _ rfl ent_cellFine #[.agg (c.cs (.slice ao out.length oc))] (by first | rfl | simp [Act.eval, Act.put]) ((HCK.out _).mono ?_)
              rintro e V1 ⟨rfl, bb⟩
              refine ⟨_, rfl, hK _ _ (fun _ => hHeld.trans (bb.mono hHeld.size)) (fun hh => ?_)⟩
              have hHeld := hh (by decide)
              clear hK K hh
              try simp only [Act.put, List.getElem_toArray, List.getElem_cons_zero, List.getElem_cons_succ, List.setIfInBounds_toArray, List.set_cons_zero, List.set_cons_succ]
              clear bb
              refine Still.takeBy (i := 6) [7] (v := ?v96) (by kernel_rfl) (by kernel_rfl) rfl (by kernel_rfl) (by kernel_rfl) (by kernel_rfl) (fun _ _ _ h => h) (Or.inl ⟨by rfl, ?y96⟩) hHeld ?r96
              case y96 => (intro w' hSw; (try dsimp only at hSw); go_simp; try with_reducible rfl)
              simp only [Act.put, List.getElem_toArray, List.getElem_cons_zero, List.getElem_cons_succ, List.setIfInBounds_toArray, List.set_cons_zero, List.set_cons_succ]
              refine Still.takeBy (i := 7) [] (v := ?v97) (by kernel_rfl) (by kernel_rfl) rfl (by kernel_rfl) (by kernel_rfl) (by kernel_rfl) (fun _ _ _ h => h) (Or.inl ⟨by rfl, ?y97⟩) hHeld ?r97
              case y97 => (intro w' hSw; (try dsimp only at hSw); go_simp; try with_reducible rfl)
              simp only [Act.put, List.getElem_toArray, List.getElem_cons_zero, List.getElem_cons_succ, List.setIfInBounds_toArray, List.set_cons_zero, List.set_cons_succ]
              refine Still.takeBy (i := 8) [21, 13, 12, 11, 9] (v := ?v98) (by kernel_rfl) (by kernel_rfl) rfl (by kernel_rfl) (by kernel_rfl) (by kernel_rfl) (fun _ _ _ h => h) (Or.inl ⟨by rfl, ?y98⟩) hHeld ?r98
              case y98 => (intro w' hSw; (try dsimp only at hSw); have q1 := bcl hSw hg1 Q3.out; have q2 := bcl hSw hg0 Q0.out; have q5 := range_up RA.out hSw hb1 13 (.int .i64 c.read) rfl; have q6 := bcl hSw hpb1 PC.out; clear hSw; go_simp; (try simp only [B1.out]); try with_reducible rfl)
              simp only [Act.put, List.getElem_toArray, List.getElem_cons_zero, List.getElem_cons_succ, List.setIfInBounds_toArray, List.set_cons_zero, List.set_cons_succ]
              refine Still.takeBy (i := 9) [21, 13, 12, 11] (v := ?v99) (by kernel_rfl) (by kernel_rfl) rfl (by kernel_rfl) (by kernel_rfl) (by kernel_rfl) (fun _ _ _ h => h) (Or.inl ⟨by rfl, ?y99⟩) hHeld ?r99
              case y99 => (intro w' hSw; (try dsimp only at hSw); have q1 := bcl hSw hg1 Q3.out; have q2 := bcl hSw hg0 Q0.out; have q5 := range_up RA.out hSw hb1 13 (.int .i64 c.read) rfl; have q6 := bcl hSw hpb1 PC.out; clear hSw; go_simp; (try simp only [B1.out]); try with_reducible rfl)
              simp only [Act.put, List.getElem_toArray, List.getElem_cons_zero, List.getElem_cons_succ, List.setIfInBounds_toArray, List.set_cons_zero, List.set_cons_succ]
              refine Still.takeBy (i := 10) [21, 13, 12, 11] (v := ?v100) (by kernel_rfl) (by kernel_rfl) rfl (by kernel_rfl) (by kernel_rfl) (by kernel_rfl) (fun _ _ _ h => h) (Or.inl ⟨by rfl, ?y100⟩) hHeld ?r100
              case y100 => (intro w' hSw; (try dsimp only at hSw); have q1 := bcl hSw hg1 Q3.out; have q2 := bcl hSw hg0 Q0.out; have q5 := range_up RA.out hSw hb1 13 (.int .i64 c.read) rfl; have q6 := bcl hSw hpb1 PC.out; clear hSw; go_simp; (try simp only [B1.out]); try with_reducible rfl)
              simp only [Act.put, List.getElem_toArray, List.getElem_cons_zero, List.getElem_cons_succ, List.setIfInBounds_toArray, List.set_cons_zero, List.set_cons_succ]
              refine Still.takeBy (i := 11) [21, 13, 12] (v := ?v101) (by kernel_rfl) (by kernel_rfl) rfl (by kernel_rfl) (by kernel_rfl) (by kernel_rfl) (fun _ _ _ h => h) (Or.inl ⟨by rfl, ?y101⟩) hHeld ?r101
              case y101 => (intro w' hSw; (try dsimp only at hSw); have q1 := bcl hSw hg1 Q3.out; have q2 := bcl hSw hg0 Q0.out; have q5 := range_up RA.out hSw hb1 13 (.int .i64 c.read) rfl; have q6 := bcl hSw hpb1 PC.out; clear hSw; go_simp; (try simp only [B1.out]); try with_reducible rfl)
              simp only [Act.put, List.getElem_toArray, List.getElem_cons_zero, List.getElem_cons_succ, List.setIfInBounds_toArray, List.set_cons_zero, List.set_cons_succ]
              refine Still.takeBy (i := 12) [21, 13] (v := ?v102) (by kernel_rfl) (by kernel_rfl) rfl (by kernel_rfl) (by kernel_rfl) (by kernel_rfl) (fun _ _ _ h => h) (Or.inl ⟨by rfl, ?y102⟩) hHeld ?r102
              case y102 => (intro w' hSw; (try dsimp only at hSw); have q1 := bcl hSw hg1 Q3.out; have q2 := bcl hSw hg0 Q0.out; have q5 := range_up RA.out hSw hb1 13 (.int .i64 c.read) rfl; have q6 := bcl hSw hpb1 PC.out; clear hSw; go_simp; (try simp only [B1.out]); try with_reducible rfl)
              simp only [Act.put, List.getElem_toArray, List.getElem_cons_zero, List.getElem_cons_succ, List.setIfInBounds_toArray, List.set_cons_zero, List.set_cons_succ]
              refine Still.takeBy (i := 13) [21] (v := ?v103) (by kernel_rfl) (by kernel_rfl) rfl (by kernel_rfl) (by kernel_rfl) (by kernel_rfl) (fun _ _ _ h => h) (Or.inl ⟨by rfl, ?y103⟩) hHeld ?r103
              case y103 => (intro w' hSw; (try dsimp only at hSw); have q1 := bcl hSw hg1 Q3.out; have q2 := bcl hSw hg0 Q0.out; have q5 := range_up RA.out hSw hb1 13 (.int .i64 c.read) rfl; have q6 := bcl hSw hpb1 PC.out; clear hSw; go_simp; (try simp only [B1.out]); try with_reducible rfl)
              simp only [Act.put, List.getElem_toArray, List.getElem_cons_zero, List.getElem_cons_succ, List.setIfInBounds_toArray, List.set_cons_zero, List.set_cons_succ]
              refine Still.takeBy (i := 14) [21, 20, 19, 18, 17, 15] (v := ?v104) (by kernel_rfl) (by kernel_rfl) rfl (by kernel_rfl) (by kernel_rfl) (by kernel_rfl) (fun _ _ _ h => h) (Or.inl ⟨by rfl, ?y104⟩) hHeld ?r104
              case y104 => (intro w' hSw; (try dsimp only at hSw); have q1 := bcl hSw hg1 Q3.out; have q2 := bcl hSw hg0 Q0.out; have q5 := range_up RA.out hSw hb1 13 (.int .i64 c.read) rfl; have q6 := bcl hSw hpb1 PC.out; clear hSw; go_simp; (try simp only [B1.out]); try with_reducible rfl)
              simp only [Act.put, List.getElem_toArray, List.getElem_cons_zero, List.getElem_cons_succ, List.setIfInBounds_toArray, List.set_cons_zero, List.set_cons_succ]
              refine Still.takeBy (i := 15) [21, 20, 19, 18, 17] (v := ?v105) (by kernel_rfl) (by kernel_rfl) rfl (by kernel_rfl) (by kernel_rfl) (by kernel_rfl) (fun _ _ _ h => h) (Or.inl ⟨by rfl, ?y105⟩) hHeld ?r105
              case y105 => (intro w' hSw; (try dsimp only at hSw); have q1 := bcl hSw hg1 Q3.out; have q2 := bcl hSw hg0 Q0.out; have q5 := range_up RA.out hSw hb1 13 (.int .i64 c.read) rfl; have q6 := bcl hSw hpb1 PC.out; clear hSw; go_simp; (try simp only [B1.out]); try with_reducible rfl)
              simp only [Act.put, List.getElem_toArray, List.getElem_cons_zero, List.getElem_cons_succ, List.setIfInBounds_toArray, List.set_cons_zero, List.set_cons_succ]
              refine Still.takeBy (i := 16) [21, 20, 19, 18, 17] (v := ?v106) (by kernel_rfl) (by kernel_rfl) rfl (by kernel_rfl) (by kernel_rfl) (by kernel_rfl) (fun _ _ _ h => h) (Or.inl ⟨by rfl, ?y106⟩) hHeld ?r106
              case y106 => (intro w' hSw; (try dsimp only at hSw); have q1 := bcl hSw hg1 Q3.out; have q2 := bcl hSw hg0 Q0.out; have q5 := range_up RA.out hSw hb1 13 (.int .i64 c.read) rfl; have q6 := bcl hSw hpb1 PC.out; clear hSw; go_simp; (try simp only [B1.out]); try with_reducible rfl)
              simp only [Act.put, List.getElem_toArray, List.getElem_cons_zero, List.getElem_cons_succ, List.setIfInBounds_toArray, List.set_cons_zero, List.set_cons_succ]
              refine Still.takeBy (i := 17) [21, 20, 19, 18] (v := ?v107) (by kernel_rfl) (by kernel_rfl) rfl (by kernel_rfl) (by kernel_rfl) (by kernel_rfl) (fun _ _ _ h => h) (Or.inl ⟨by rfl, ?y107⟩) hHeld ?r107
              case y107 => (intro w' hSw; (try dsimp only at hSw); have q1 := bcl hSw hg1 Q3.out; have q2 := bcl hSw hg0 Q0.out; have q5 := range_up RA.out hSw hb1 13 (.int .i64 c.read) rfl; have q6 := bcl hSw hpb1 PC.out; clear hSw; go_simp; (try simp only [B1.out]); try with_reducible rfl)
              simp only [Act.put, List.getElem_toArray, List.getElem_cons_zero, List.getElem_cons_succ, List.setIfInBounds_toArray, List.set_cons_zero, List.set_cons_succ]
              refine Still.takeBy (i := 18) [21, 20, 19] (v := ?v108) (by kernel_rfl) (by kernel_rfl) rfl (by kernel_rfl) (by kernel_rfl) (by kernel_rfl) (fun _ _ _ h => h) (Or.inl ⟨by rfl, ?y108⟩) hHeld ?r108
              case y108 => (intro w' hSw; (try dsimp only at hSw); have q1 := bcl hSw hg1 Q3.out; have q2 := bcl hSw hg0 Q0.out; have q5 := range_up RA.out hSw hb1 13 (.int .i64 c.read) rfl; have q6 := bcl hSw hpb1 PC.out; clear hSw; go_simp; (try simp only [B1.out]); try with_reducible rfl)
              simp only [Act.put, List.getElem_toArray, List.getElem_cons_zero, List.getElem_cons_succ, List.setIfInBounds_toArray, List.set_cons_zero, List.set_cons_succ]
              refine Still.takeBy (i := 19) [21, 20] (v := ?v109) (by kernel_rfl) (by kernel_rfl) rfl (by kernel_rfl) (by kernel_rfl) (by kernel_rfl) (fun _ _ _ h => h) (Or.inl ⟨by rfl, ?y109⟩) hHeld ?r109
              case y109 => (intro w' hSw; (try dsimp only at hSw); have q1 := bcl hSw hg1 Q3.out; have q2 := bcl hSw hg0 Q0.out; have q5 := range_up RA.out hSw hb1 13 (.int .i64 c.read) rfl; have q6 := bcl hSw hpb1 PC.out; clear hSw; go_simp; (try simp only [B1.out]); try with_reducible rfl)
              simp only [Act.put, List.getElem_toArray, List.getElem_cons_zero, List.getElem_cons_succ, List.setIfInBounds_toArray, List.set_cons_zero, List.set_cons_succ]
              refine Still.takeBy (i := 20) [21] (v := ?v110) (by kernel_rfl) (by kernel_rfl) rfl (by kernel_rfl) (by kernel_rfl) (by kernel_rfl) (fun _ _ _ h => h) (Or.inl ⟨by rfl, ?y110⟩) hHeld ?r110
              case y110 => (intro w' hSw; (try dsimp only at hSw); have q1 := bcl hSw hg1 Q3.out; have q2 := bcl hSw hg0 Q0.out; have q5 := range_up RA.out hSw hb1 13 (.int .i64 c.read) rfl; have q6 := bcl hSw hpb1 PC.out; clear hSw; go_simp; (try simp only [B1.out]); try with_reducible rfl)
              simp only [Act.put, List.getElem_toArray, List.getElem_cons_zero, List.getElem_cons_succ, List.setIfInBounds_toArray, List.set_cons_zero, List.set_cons_succ]
              refine Still.takeBy (i := 21) [] (v := ?v111) (by kernel_rfl) (by kernel_rfl) rfl (by kernel_rfl) (by kernel_rfl) (by kernel_rfl) (fun _ _ _ h => h) (Or.inl ⟨by rfl, ?y111⟩) hHeld ?r111
              case y111 => (intro w' hSw; (try dsimp only at hSw); have q1 := bcl hSw hg1 Q3.out; have q2 := bcl hSw hg0 Q0.out; have q5 := range_up RA.out hSw hb1 13 (.int .i64 c.read) rfl; have q6 := bcl hSw hpb1 PC.out; clear hSw; go_simp; (try simp only [B1.out]); try with_reducible rfl)
              simp only [Act.put, List.getElem_toArray, List.getElem_cons_zero, List.getElem_cons_succ, List.setIfInBounds_toArray, List.set_cons_zero, List.set_cons_succ]
              refine Still.all (rs := [22]) (by kernel_rfl) (by simp) (Still.one (i := 22) rfl rfl (fun K hK => ?_) (by simp))
              go_simp
              refine hK _ _ (fun h => absurd rfl h) (fun _ => ?_)
              clear hK K
              refine Still.over (by kernel_rfl) ?_ _
              have HL := Lib.hid (HB.out.trans (hHeld.mono HB.out.size))
              clear hHeld
              go_wp2
              go_ret
              exact ⟨ret_int (by rw [← HR.out, HWT.out, HNO.out]; rfl), HD.out.trans (HL.out.mono hw0)⟩
        · have hli : ¬ (k : Int) < D.cells.length := by omega
          have HYC := Lib.hid (show cellsB S.parts D.cells = true from cellsB_yes HL1.out (fun j h h' => HZ.out j h h' (by omega)))
          clear HZ Q0 Q3
          go_wp2
          clear q0 q3
          go_loopw [7] (fun i wr => ∃ k : Nat, i = .int .i64 k ∧ k ≤ D.lines.length ∧ Hid (∀ j (h : j < S.chans.length) (h' : j < D.lines.length), j < k → chkL S.chans[j].kd D.lines[j].length = 0) ∧ Hid (Below w2.heap.size w2 wr)) (fun i _ => D.lines.length - (intOf i).toNat)
          case atStart => exact ⟨0, rfl, Nat.zero_le _, Lib.hid (fun j h h' h0 => by omega), HB⟩
          case round =>
            clear HB hli hlt hk
            obtain ⟨k, rfl, hk, HZ, HB⟩ := hrel
            have hws := HB.out.size
            have r0 := R0.out.up HB.out (by omega)
            have r1 := R1.out.up HB.out (by omega)
            have q1 := r0.cell (j := 1) (v := .slice ka S.chans.length kc) rfl
            have q4 := r1.cell (j := 2) (v := .slice la D.lines.length lc) rfl
            have Q1 := Lib.hid q1
            have Q4 := Lib.hid q4
            clear r0 r1
            by_cases hlt : k < D.lines.length
            · have hli : (k : Int) < D.lines.length := by omega
              have h0i : (0 : Int) ≤ k := by omega
              have hlp : k < S.chans.length := by have := HL2.out; omega
              have hlip : (k : Int) < S.chans.length := by omega
              have hbb := HD.out.trans (HB.out.mono (by omega))
              obtain ⟨b, off, cap, e1, hcap, hbw, hc⟩ := HW.out.l.open (by omega)
              cases e1
              obtain ⟨ao, oc, hra, hso⟩ := hc k hlt
              obtain ⟨pb, po, pcap, e2, hpcap, hpbw, hpc⟩ := HS.out.c.open (by omega)
              cases e2
              obtain ⟨hkd, _, _⟩ := chan_cells hpc k hlp
              have RA := Lib.hid (bcl hbb hbw hra)
              have PC := Lib.hid (bcl hbb hpbw hkd)
              generalize hd : D.lines[k] = l at RA
              generalize hp : S.chans[k] = p at PC
              obtain ⟨kd, fr, tt⟩ := p
              have HDk := Lib.hid hd
              have HPk := Lib.hid hp
              simp only at PC
              have hb1 : b < wr.heap.size := by omega
              have hpb1 : pb < wr.heap.size := by omega
              have hg0 : w.heap.size < wr.heap.size := by omega
              have hg1 : w.heap.size + 1 < wr.heap.size := by omega
              clear hra hso hc hpc hkd hd hp hbb
              obtain ⟨e0, hce⟩ : ∃ e0, chkL kd l.length = e0 := ⟨_, rfl⟩
              have HCK := Lib.hid fun V => chkLineRef_any kd ao l.length oc V e0 hce
              have HCE2 := Lib.hid hce
              clear hce
              by_cases h0 : e0 = 0
              · subst h0
                have HYES := Lib.hid (show chkL S.chans[k].kd D.lines[k].length = 0 by rw [HDk.out, HPk.out]; exact HCE2.out)
                go_wp2
                clear q1 q4
                refine region_still (S := fun w' => Below wr.heap.size wr w') 12 (by kernel_rfl) (Below.refl _ _).drew (fun hHeld => ?_)
                refine Still.takeBy (i := 0) [11, 5, 4, 3, 1] (v := ?v131) (by kernel_rfl) (by kernel_rfl) rfl (by kernel_rfl) (by kernel_rfl) (by kernel_rfl) (fun _ _ _ h => h) (Or.inl ⟨by rfl, ?y131⟩) hHeld ?r131
                case y131 => (intro w' hSw; (try dsimp only at hSw); have q1 := bcl hSw hg0 Q1.out; have q2 := bcl hSw hg1 Q4.out; have q5 := bcl hSw hb1 RA.out; have q6 := bcl hSw hpb1 PC.out; clear hSw; go_simp; try with_reducible rfl)
                simp only [Act.put, List.getElem_toArray, List.getElem_cons_zero, List.getElem_cons_succ, List.setIfInBounds_toArray, List.set_cons_zero, List.set_cons_succ]
                refine Still.takeBy (i := 1) [11, 5, 4, 3] (v := ?v132) (by kernel_rfl) (by kernel_rfl) rfl (by kernel_rfl) (by kernel_rfl) (by kernel_rfl) (fun _ _ _ h => h) (Or.inl ⟨by rfl, ?y132⟩) hHeld ?r132
                case y132 => (intro w' hSw; (try dsimp only at hSw); have q1 := bcl hSw hg0 Q1.out; have q2 := bcl hSw hg1 Q4.out; have q5 := bcl hSw hb1 RA.out; have q6 := bcl hSw hpb1 PC.out; clear hSw; go_simp; try with_reducible rfl)
                simp only [Act.put, List.getElem_toArray, List.getElem_cons_zero, List.getElem_cons_succ, List.setIfInBounds_toArray, List.set_cons_zero, List.set_cons_succ]
                refine Still.takeBy (i := 2) [11, 5, 4, 3] (v := ?v133) (by kernel_rfl) (by kernel_rfl) rfl (by kernel_rfl) (by kernel_rfl) (by kernel_rfl) (fun _ _ _ h => h) (Or.inl ⟨by rfl, ?y133⟩) hHeld ?r133
                case y133 => (intro w' hSw; (try dsimp only at hSw); have q1 := bcl hSw hg0 Q1.out; have q2 := bcl hSw hg1 Q4.out; have q5 := bcl hSw hb1 RA.out; have q6 := bcl hSw hpb1 PC.out; clear hSw; go_simp; try with_reducible rfl)
                simp only [Act.put, List.getElem_toArray, List.getElem_cons_zero, List.getElem_cons_succ, List.setIfInBounds_toArray, List.set_cons_zero, List.set_cons_succ]
                refine Still.takeBy (i := 3) [11, 5, 4] (v := ?v134) (by kernel_rfl) (by kernel_rfl) rfl (by kernel_rfl) (by kernel_rfl) (by kernel_rfl) (fun _ _ _ h => h) (Or.inl ⟨by rfl, ?y134⟩) hHeld ?r134
                case y134 => (intro w' hSw; (try dsimp only at hSw); have q1 := bcl hSw hg0 Q1.out; have q2 := bcl hSw hg1 Q4.out; have q5 := bcl hSw hb1 RA.out; have q6 := bcl hSw hpb1 PC.out; clear hSw; go_simp; try with_reducible rfl)
                simp only [Act.put, List.getElem_toArray, List.getElem_cons_zero, List.getElem_cons_succ, List.setIfInBounds_toArray, List.set_cons_zero, List.set_cons_succ]
                refine Still.takeBy (i := 4) [11, 5] (v := ?v135) (by kernel_rfl) (by kernel_rfl) rfl (by kernel_rfl) (by kernel_rfl) (by kernel_rfl) (fun _ _ _ h => h) (Or.inl ⟨by rfl, ?y135⟩) hHeld ?r135
                case y135 => (intro w' hSw; (try dsimp only at hSw); have q1 := bcl hSw hg0 Q1.out; have q2 := bcl hSw hg1 Q4.out; have q5 := bcl hSw hb1 RA.out; have q6 := bcl hSw hpb1 PC.out; clear hSw; go_simp; try with_reducible rfl)
                simp only [Act.put, List.getElem_toArray, List.getElem_cons_zero, List.getElem_cons_succ, List.setIfInBounds_toArray, List.set_cons_zero, List.set_cons_succ]
                refine Still.takeBy (i := 5) [11] (v := ?v136) (by kernel_rfl) (by kernel_rfl) rfl (by kernel_rfl) (by kernel_rfl) (by kernel_rfl) (fun _ _ _ h => h) (Or.inl ⟨by rfl, ?y136⟩) hHeld ?r136
                case y136 => (intro w' hSw; (try dsimp only at hSw); have q1 := bcl hSw hg0 Q1.out; have q2 := bcl hSw hg1 Q4.out; have q5 := bcl hSw hb1 RA.out; have q6 := bcl hSw hpb1 PC.out; clear hSw; go_simp; try with_reducible rfl)
                simp only [Act.put, List.getElem_toArray, List.getElem_cons_zero, List.getElem_cons_succ, List.setIfInBounds_toArray, List.set_cons_zero, List.set_cons_succ]
                refine Still.takeBy (i := 6) [11, 10, 9, 7] (v := ?v137) (by kernel_rfl) (by kernel_rfl) rfl (by kernel_rfl) (by kernel_rfl) (by kernel_rfl) (fun _ _ _ h => h) (Or.inl ⟨by rfl, ?y137⟩) hHeld ?r137
                case y137 => (intro w' hSw; (try dsimp only at hSw); have q1 := bcl hSw hg0 Q1.out; have q2 := bcl hSw hg1 Q4.out; have q5 := bcl hSw hb1 RA.out; have q6 := bcl hSw hpb1 PC.out; clear hSw; go_simp; try with_reducible rfl)
                simp only [Act.put, List.getElem_toArray, List.getElem_cons_zero, List.getElem_cons_succ, List.setIfInBounds_toArray, List.set_cons_zero, List.set_cons_succ]
                refine Still.takeBy (i := 7) [11, 10, 9] (v := ?v138) (by kernel_rfl) (by kernel_rfl) rfl (by kernel_rfl) (by kernel_rfl) (by kernel_rfl) (fun _ _ _ h => h) (Or.inl ⟨by rfl, ?y138⟩) hHeld ?r138
                case y138 => (intro w' hSw; (try dsimp only at hSw); have q1 := bcl hSw hg0 Q1.out; have q2 := bcl hSw hg1 Q4.out; have q5 := bcl hSw hb1 RA.out; have q6 := bcl hSw hpb1 PC.out; clear hSw; go_simp; try with_reducible rfl)
                simp only [Act.put, List.getElem_toArray, List.getElem_cons_zero, List.getElem_cons_succ, List.setIfInBounds_toArray, List.set_cons_zero, List.set_cons_succ]
                refine Still.takeBy (i := 8) [11, 10, 9] (v := ?v139) (by kernel_rfl) (by kernel_rfl) rfl (by kernel_rfl) (by kernel_rfl) (by kernel_rfl) (fun _ _ _ h => h) (Or.inl ⟨by rfl, ?y139⟩) hHeld ?r139
                case y139 => (intro w' hSw; (try dsimp only at hSw); have q1 := bcl hSw hg0 Q1.out; have q2 := bcl hSw hg1 Q4.out; have q5 := bcl hSw hb1 RA.out; have q6 := bcl hSw hpb1 PC.out; clear hSw; go_simp; try with_reducible rfl)
                simp only [Act.put, List.getElem_toArray, List.getElem_cons_zero, List.getElem_cons_succ, List.setIfInBounds_toArray, List.set_cons_zero, List.set_cons_succ]
                refine Still.takeBy (i := 9) [11, 10] (v := ?v140) (by kernel_rfl) (by kernel_rfl) rfl (by kernel_rfl) (by kernel_rfl) (by kernel_rfl) (fun _ _ _ h => h) (Or.inl ⟨by rfl, ?y140⟩) hHeld ?r140
                case y140 => (intro w' hSw; (try dsimp only at hSw); have q1 := bcl hSw hg0 Q1.out; have q2 := bcl hSw hg1 Q4.out; have q5 := bcl hSw hb1 RA.out; have q6 := bcl hSw hpb1 PC.out; clear hSw; go_simp; try with_reducible rfl)
                simp only [Act.put, List.getElem_toArray, List.getElem_cons_zero, List.getElem_cons_succ, List.setIfInBounds_toArray, List.set_cons_zero, List.set_cons_succ]
                refine Still.takeBy (i := 10) [11] (v := ?v141) (by kernel_rfl) (by kernel_rfl) rfl (by kernel_rfl) (by kernel_rfl) (by kernel_rfl) (fun _ _ _ h => h) (Or.inl ⟨by rfl, ?y141⟩) hHeld ?r141
                case y141 => (intro w' hSw; (try dsimp only at hSw); have q1 := bcl hSw hg0 Q1.out; have q2 := bcl hSw hg1 Q4.out; have q5 := bcl hSw hb1 RA.out; have q6 := bcl hSw hpb1 PC.out; clear hSw; go_simp; try with_reducible rfl)
                simp only [Act.put, List.getElem_toArray, List.getElem_cons_zero, List.getElem_cons_succ, List.setIfInBounds_toArray, List.set_cons_zero, List.set_cons_succ]
                refine Still.all (rs := [11]) (by kernel_rfl) (by simp) (Still.one (i := 11) rfl rfl (fun K hK => ?_) (by simp))
                refine wp_call 36 _ _ rfl ent_checkLine #[.int .i64 kd, .agg #[.slice ao l.length oc]] (by first | rfl | simp [Act.eval, Act.put]) ((HCK.out _).mono ?_)
                rintro e V1 ⟨rfl, bb⟩
                refine ⟨_, rfl, hK _ _ (fun _ => hHeld.trans (bb.mono hHeld.size)) (fun hh => ?_)⟩
                have hHeld := hh (by decide)
                clear hK K hh
                try simp only [Act.put, List.getElem_toArray, List.getElem_cons_zero, List.getElem_cons_succ, List.setIfInBounds_toArray, List.set_cons_zero, List.set_cons_succ]
                clear bb
                refine Still.all (rs := [12]) (by kernel_rfl) (by simp) (Still.one (i := 12) rfl rfl (fun K hK => ?_) (by simp))
                go_simp
                refine hK _ _ (fun h => absurd rfl h) (fun _ => ?_)
                clear hK K
                refine Still.over (by kernel_rfl) ?_ _
                have HL := Lib.hid (HB.out.trans (hHeld.mono HB.out.size))
                clear hHeld
                go_wp2
                go_roundw
                case rel => exact ⟨k + 1, by go_num, by omega, Lib.hid (fun j h h' hj => by
                  rcases Nat.lt_or_ge j k with h1 | h1
                  · exact HZ.out j h h' h1
                  · obtain rfl : j = k := by omega
                    exact HYES.out), HL⟩
                case measure => simp [intOf]; omega
              · have h0' : (e0 != 0) = true := by simpa using h0
                have HNO := Lib.hid (show linesB S.chans D.lines = false from linesB_no k hlp hlt (by rw [HDk.out, HPk.out]; show chkL kd l.length ≠ 0; rw [HCE2.out]; exact h0))
                clear h0
                go_wp2
                clear q1 q4
                refine region_still (S := fun w' => Below wr.heap.size wr w') 12 (by kernel_rfl) (Below.refl _ _).drew (fun hHeld => ?_)
                refine Still.takeBy (i := 0) [11, 5, 4, 3, 1] (v := ?v161) (by kernel_rfl) (by kernel_rfl) rfl (by kernel_rfl) (by kernel_rfl) (by kernel_rfl) (fun _ _ _ h => h) (Or.inl ⟨by rfl, ?y161⟩) hHeld ?r161
                case y161 => (intro w' hSw; (try dsimp only at hSw); have q1 := bcl hSw hg0 Q1.out; have q2 := bcl hSw hg1 Q4.out; have q5 := bcl hSw hb1 RA.out; have q6 := bcl hSw hpb1 PC.out; clear hSw; go_simp; try with_reducible rfl)
                simp only [Act.put, List.getElem_toArray, List.getElem_cons_zero, List.getElem_cons_succ, List.setIfInBounds_toArray, List.set_cons_zero, List.set_cons_succ]
                refine Still.takeBy (i := 1) [11, 5, 4, 3] (v := ?v162) (by kernel_rfl) (by kernel_rfl) rfl (by kernel_rfl) (by kernel_rfl) (by kernel_rfl) (fun _ _ _ h => h) (Or.inl ⟨by rfl, ?y162⟩) hHeld ?r162
                case y162 => (intro w' hSw; (try dsimp only at hSw); have q1 := bcl hSw hg0 Q1.out; have q2 := bcl hSw hg1 Q4.out; have q5 := bcl hSw hb1 RA.out; have q6 := bcl hSw hpb1 PC.out; clear hSw; go_simp; try with_reducible rfl)
                simp only [Act.put, List.getElem_toArray, List.getElem_cons_zero, List.getElem_cons_succ, List.setIfInBounds_toArray, List.set_cons_zero, List.set_cons_succ]
                refine Still.takeBy (i := 2) [11, 5, 4, 3] (v := ?v163) (by kernel_rfl) (by kernel_rfl) rfl (by kernel_rfl) (by kernel_rfl) (by kernel_rfl) (fun _ _ _ h => h) (Or.inl ⟨by rfl, ?y163⟩) hHeld ?r163
                case y163 => (intro w' hSw; (try dsimp only at hSw); have q1 := bcl hSw hg0 Q1.out; have q2 := bcl hSw hg1 Q4.out; have q5 := bcl hSw hb1 RA.out; have q6 := bcl hSw hpb1 PC.out; clear hSw; go_simp; try with_reducible rfl)
                simp only [Act.put, List.getElem_toArray, List.getElem_cons_zero, List.getElem_cons_succ, List.setIfInBounds_toArray, List.set_cons_zero, List.set_cons_succ]
                refine Still.takeBy (i := 3) [11, 5, 4] (v := ?v164) (by kernel_rfl) (by kernel_rfl) rfl (by kernel_rfl) (by kernel_rfl) (by kernel_rfl) (fun _ _ _ h => h) (Or.inl ⟨by rfl, ?y164⟩) hHeld ?r164
                case y164 => (intro w' hSw; (try dsimp only at hSw); have q1 := bcl hSw hg0 Q1.out; have q2 := bcl hSw hg1 Q4.out; have q5 := bcl hSw hb1 RA.out; have q6 := bcl hSw hpb1 PC.out; clear hSw; go_simp; try with_reducible rfl)
                simp only [Act.put, List.getElem_toArray, List.getElem_cons_zero, List.getElem_cons_succ, List.setIfInBounds_toArray, List.set_cons_zero, List.set_cons_succ]
                refine Still.takeBy (i := 4) [11, 5] (v := ?v165) (by kernel_rfl) (by kernel_rfl) rfl (by kernel_rfl) (by kernel_rfl) (by kernel_rfl) (fun _ _ _ h => h) (Or.inl ⟨by rfl, ?y165⟩) hHeld ?r165
                case y165 => (intro w' hSw; (try dsimp only at hSw); have q1 := bcl hSw hg0 Q1.out; have q2 := bcl hSw hg1 Q4.out; have q5 := bcl hSw hb1 RA.out; have q6 := bcl hSw hpb1 PC.out; clear hSw; go_simp; try with_reducible rfl)
                simp only [Act.put, List.getElem_toArray, List.getElem_cons_zero, List.getElem_cons_succ, List.setIfInBounds_toArray, List.set_cons_zero, List.set_cons_succ]
                refine Still.takeBy (i := 5) [11] (v := ?v166) (by kernel_rfl) (by kernel_rfl) rfl (by kernel_rfl) (by kernel_rfl) (by kernel_rfl) (fun _ _ _ h => h) (Or.inl ⟨by rfl, ?y166⟩) hHeld ?r166
                case y166 => (intro w' hSw; (try dsimp only at hSw); have q1 := bcl hSw hg0 Q1.out; have q2 := bcl hSw hg1 Q4.out; have q5 := bcl hSw hb1 RA.out; have q6 := bcl hSw hpb1 PC.out; clear hSw; go_simp; try with_reducible rfl)
                simp only [Act.put, List.getElem_toArray, List.getElem_cons_zero, List.getElem_cons_succ, List.setIfInBounds_toArray, List.set_cons_zero, List.set_cons_succ]
                refine Still.takeBy (i := 6) [11, 10, 9, 7] (v := ?v167) (by kernel_rfl) (by kernel_rfl) rfl (by kernel_rfl) (by kernel_rfl) (by kernel_rfl) (fun _ _ _ h => h) (Or.inl ⟨by rfl, ?y167⟩) hHeld ?r167
                case y167 => (intro w' hSw; (try dsimp only at hSw); have q1 := bcl hSw hg0 Q1.out; have q2 := bcl hSw hg1 Q4.out; have q5 := bcl hSw hb1 RA.out; have q6 := bcl hSw hpb1 PC.out; clear hSw; go_simp; try with_reducible rfl)
                simp only [Act.put, List.getElem_toArray, List.getElem_cons_zero, List.getElem_cons_succ, List.setIfInBounds_toArray, List.set_cons_zero, List.set_cons_succ]
                refine Still.takeBy (i := 7) [11, 10, 9] (v := ?v168) (by kernel_rfl) (by kernel_rfl) rfl (by kernel_rfl) (by kernel_rfl) (by kernel_rfl) (fun _ _ _ h => h) (Or.inl ⟨by rfl, ?y168⟩) hHeld ?r168
                case y168 => (intro w' hSw; (try dsimp only at hSw); have q1 := bcl hSw hg0 Q1.out; have q2 := bcl hSw hg1 Q4.out; have q5 := bcl hSw hb1 RA.out; have q6 := bcl hSw hpb1 PC.out; clear hSw; go_simp; try with_reducible rfl)
                simp only [Act.put, List.getElem_toArray, List.getElem_cons_zero, List.getElem_cons_succ, List.setIfInBounds_toArray, List.set_cons_zero, List.set_cons_succ]
                refine Still.takeBy (i := 8) [11, 10, 9] (v := ?v169) (by kernel_rfl) (by kernel_rfl) rfl (by kernel_rfl) (by kernel_rfl) (by kernel_rfl) (fun _ _ _ h => h) (Or.inl ⟨by rfl, ?y169⟩) hHeld ?r169
                case y169 => (intro w' hSw; (try dsimp only at hSw); have q1 := bcl hSw hg0 Q1.out; have q2 := bcl hSw hg1 Q4.out; have q5 := bcl hSw hb1 RA.out; have q6 := bcl hSw hpb1 PC.out; clear hSw; go_simp; try with_reducible rfl)
                simp only [Act.put, List.getElem_toArray, List.getElem_cons_zero, List.getElem_cons_succ, List.setIfInBounds_toArray, List.set_cons_zero, List.set_cons_succ]
                refine Still.takeBy (i := 9) [11, 10] (v := ?v170) (by kernel_rfl) (by kernel_rfl) rfl (by kernel_rfl) (by kernel_rfl) (by kernel_rfl) (fun _ _ _ h => h) (Or.inl ⟨by rfl, ?y170⟩) hHeld ?r170
                case y170 => (intro w' hSw; (try dsimp only at hSw); have q1 := bcl hSw hg0 Q1.out; have q2 := bcl hSw hg1 Q4.out; have q5 := bcl hSw hb1 RA.out; have q6 := bcl hSw hpb1 PC.out; clear hSw; go_simp; try with_reducible rfl)
                simp only [Act.put, List.getElem_toArray, List.getElem_cons_zero, List.getElem_cons_succ, List.setIfInBounds_toArray, List.set_cons_zero, List.set_cons_succ]
                refine Still.takeBy (i := 10) [11] (v := ?v171) (by kernel_rfl) (by kernel_rfl) rfl (by kernel_rfl) (by kernel_rfl) (by kernel_rfl) (fun _ _ _ h => h) (Or.inl ⟨by rfl, ?y171⟩) hHeld ?r171
                case y171 => (intro w' hSw; (try dsimp only at hSw); have q1 := bcl hSw hg0 Q1.out; have q2 := bcl hSw hg1 Q4.out; have q5 := bcl hSw hb1 RA.out; have q6 := bcl hSw hpb1 PC.out; clear hSw; go_simp; try with_reducible rfl)
                simp only [Act.put, List.getElem_toArray, List.getElem_cons_zero, List.getElem_cons_succ, List.setIfInBounds_toArray, List.set_cons_zero, List.set_cons_succ]
                refine Still.all (rs := [11]) (by kernel_rfl) (by simp) (Still.one (i := 11) rfl rfl (fun K hK => ?_) (by simp))
                refine wp_call 36 _ _ rfl ent_checkLine #[.int .i64 kd, .agg #[.slice ao l.length oc]] (by first | rfl | simp [Act.eval, Act.put]) ((HCK.out _).mono ?_)
                rintro e V1 ⟨rfl, bb⟩
                refine ⟨_, rfl, hK _ _ (fun _ => hHeld.trans (bb.mono hHeld.size)) (fun hh => ?_)⟩
                have hHeld := hh (by decide)
                clear hK K hh
                try simp only [Act.put, List.getElem_toArray, List.getElem_cons_zero, List.getElem_cons_succ, List.setIfInBounds_toArray, List.set_cons_zero, List.set_cons_succ]
                clear bb
                refine Still.all (rs := [12]) (by kernel_rfl) (by simp) (Still.one (i := 12) rfl rfl (fun K hK => ?_) (by simp))
                go_simp
                refine hK _ _ (fun h => absurd rfl h) (fun _ => ?_)
                clear hK K
                refine Still.over (by kernel_rfl) ?_ _
                have HL := Lib.hid (HB.out.trans (hHeld.mono HB.out.size))
                clear hHeld
                go_wp2
                go_ret
                exact ⟨ret_int (by rw [← HR.out, HWT.out, HNO.out, HYC.out]; rfl), HD.out.trans (HL.out.mono hw0)⟩
            · have hli : ¬ (k : Int) < D.lines.length := by omega
              have HYL := Lib.hid (show linesB S.chans D.lines = true from linesB_yes HL2.out (fun j h h' => HZ.out j h h' (by omega)))
              go_wp2
              go_ret
              exact ⟨ret_int (by rw [← HR.out, HWT.out, HYL.out, HYC.out]; rfl), HD.out.trans (HB.out.mono hw0)⟩
    · have HN : Hid (r = 1) := by
        show _ = _
        rw [← HR.out]
        unfold chkW
        rw [HCE.out]
        simp only [ne_eq, not_true_eq_false, if_false]
        rw [if_neg]
        intro h
        rw [Bool.and_eq_true, Bool.and_eq_true] at h
        exact hg ⟨h.1.1, cellsB_len h.1.2, linesB_len h.2⟩
      cases hB : withinB D.tick 0 300
      · rw [hB] at HI
        clear hB hg
        go_wp2_with (go_at_call 34; refine (HI.out _).mono ?_; rintro e w2 ⟨rfl, rfl⟩)
        go_ret
        exact ⟨ret_int (by rw [HN.out]), HD.out⟩
      · rw [hB] at HI
        by_cases hl1 : D.cells.length = S.parts.length
        · have n1 : ((D.cells.length : Int) != S.parts.length) = false := by simp; omega
          have n2 : ((D.lines.length : Int) != S.chans.length) = true := by
            simp
            intro h
            exact hg ⟨hB, hl1, by omega⟩
          clear hB hg
          go_wp2_with (go_at_call 34; refine (HI.out _).mono ?_; rintro e w2 ⟨rfl, rfl⟩)
          go_ret
          exact ⟨ret_int (by rw [HN.out]), HD.out⟩
        · have n1 : ((D.cells.length : Int) != S.parts.length) = true := by simp; omega
          clear hB hg
          go_wp2_with (go_at_call 34; refine (HI.out _).mono ?_; rintro e w2 ⟨rfl, rfl⟩)
          go_ret
          exact ⟨ret_int (by rw [HN.out]), HD.out⟩
  · have h0' : (e0 != 0) = true := by simpa using h0
    have HCE : Hid (r = e0) := by
      show _ = _
      rw [← HR.out]
      unfold chkW
      rw [hce, if_pos h0]
    clear hce h0
    go_enter Tryz.func10, Tryz.ntmps10
    go_wp2_with fail
    refine (HC.out _ (HS.out.up (by repeat (first | exact Below.refl _ _ | assumption | refine Below.drew ?_ | refine Below.alloc ?_ (by first | (simp; done) | (simp; omega)) _ | refine Below.setCell ?_ (by first | (simp; done) | (simp; omega)) _)))).mono ?_
    rintro e w1 ⟨rfl, b1⟩
    have HD : Hid (Below w.heap.size w w1) := by
      refine Below.trans ?_ (b1.mono (by first | omega | (simp; done) | (simp; omega)))
      exact (by repeat (first | exact Below.refl _ _ | assumption | refine Below.drew ?_ | refine Below.alloc ?_ (by first | (simp; done) | (simp; omega)) _ | refine Below.setCell ?_ (by first | (simp; done) | (simp; omega)) _))
    clear b1
    go_wp2
    go_ret
    exact ⟨ret_int (by rw [HCE.out]), HD.out⟩
end Go.Proofs.YtehhhiodfcdnmaaGreatDoor

/- kern: the lines of a world; Check. -/
import Derived.Test.YtjhjaafoikadgaaDoorKn1
import Derived.Test.YtjhjaafoikadgaaDoorCf4
namespace Go.Proofs.YtjhjaafoikadgaaDoor
set_option linter.unusedSimpArgs false
set_option linter.unusedVariables false
open Go.RowKit Go.Sort

theorem ent_lineCheck : Enters 60 := enters Tryd.func60 (by kernel_rfl) (by kernel_rfl)
set_option maxRecDepth 100000 in
set_option maxHeartbeats 8000000 in
theorem rightLines_any (cs : List Chn) (ls : List (List Int)) (v u : Value) (hl : cs.length ≤ 6) (w : World) (hP : Sl w 3 v cs.length (rowC chC cs)) (hC : LinesR w u ls) (r : Bool) (hr : linesB cs ls = r) :
    Calls Tryd.prog 33 #[v, u] w fun e w' => e = .returned (.bool r) ∧ Below w.heap.size w w' := by
  obtain ⟨pa, pc, rfl⟩ := hP.form
  obtain ⟨ca, cc, rfl⟩ := hC.form
  have HP := Lib.hid hP
  have HC := Lib.hid hC
  have HR := Lib.hid hr
  clear hP hC hr
  by_cases he : ls.length = cs.length
  · have he' : ((ls.length : Int) != cs.length) = false := by simp; omega
    have HL := Lib.hid he
    clear he
    go_enter Tryd.func33, Tryd.ntmps33
    go_wp2
    go_loopw [14] (fun i wr => ∃ k : Nat, i = .int .i64 k ∧ k ≤ ls.length ∧ Hid (∀ j (h : j < cs.length) (h' : j < ls.length), j < k → chkL cs[j].kd ls[j].length = 0) ∧ Hid (Below w.heap.size w wr)) (fun i _ => ls.length - (intOf i).toNat)
    case atStart => exact ⟨0, rfl, Nat.zero_le _, Lib.hid (fun j h h' h0 => by omega), Lib.hid (Below.refl _ _)⟩
    case round =>
      obtain ⟨k, rfl, hk, HZ, HB⟩ := hrel
      by_cases hlt : k < ls.length
      · have hli : (k : Int) < ls.length := by omega
        have hlp : k < cs.length := by have := HL.out; omega
        have hlip : (k : Int) < cs.length := by omega
        obtain ⟨b, off, cap, e1, hcap, hbw, hc⟩ := HC.out.open (by omega)
        cases e1
        obtain ⟨ao, oc, hra, hso⟩ := hc k hlt
        obtain ⟨pb, po, pcap, e2, hpcap, hpbw, hpc⟩ := HP.out.open (by omega)
        cases e2
        obtain ⟨hkd, _, _⟩ := chan_cells hpc k hlp
        have ra := bcl HB.out hbw hra
        have PC := Lib.hid (bcl HB.out hpbw hkd)
        have hws := HB.out.size
        have hbr : b < wr.heap.size := by omega
        have hbr' : b ≠ wr.heap.size := by omega
        generalize hd : ls[k] = l at ra
        generalize hp : cs[k] = p at PC
        obtain ⟨kd, fr, tt⟩ := p
        have HD := Lib.hid hd
        have HPk := Lib.hid hp
        simp only at PC
        clear hra hso hc hpc hkd hd hp
        go_wp2
        generalize hW : World.alloc _ _ = W
        have RW : Hid (Rw W wr.heap.size 59 #[.slice ao l.length oc]) := by
          show Rw _ _ _ _
          rw [← hW]
          exact (by repeat (first | exact Rw.new _ _ _ (by first | rfl | (simp; done) | omega | (simp; omega)) | refine Rw.alloc ?_ _))
        have b0 : Below wr.heap.size wr W := by rw [← hW]; exact (Below.refl _ _).alloc (Nat.le_refl _) _
        have hzW : W.heap.size = wr.heap.size + 1 := by rw [← hW]; simp
        have PW := Lib.hid (bcl b0 (by omega) PC.out)
        have HBW := Lib.hid (HB.out.trans (b0.mono (by omega)))
        have hpbW : pb < W.heap.size := by omega
        clear hW ra PC HB b0
        obtain ⟨e0, hce⟩ : ∃ e0, chkL kd l.length = e0 := ⟨_, rfl⟩
        have HCK := Lib.hid fun V => chkLine_any kd ao l.length oc V e0 hce
        have HCE := Lib.hid hce
        clear hce
        by_cases h0 : e0 = 0
        · subst h0
          have HYES := Lib.hid (show chkL cs[k].kd ls[k].length = 0 by rw [HD.out, HPk.out]; exact HCE.out)
          refine region_still (S := fun w' => Below W.heap.size W w') 7 (by kernel_rfl) (Below.refl _ _).drew (fun hHeld => ?_)
          refine Still.takeBy (i := 0) [6, 4, 3, 2] (v := ?v11) (by kernel_rfl) (by kernel_rfl) rfl (by kernel_rfl) (by kernel_rfl) (by kernel_rfl) (fun _ _ _ h => h) (Or.inl ⟨by rfl, ?y11⟩) hHeld ?r11
          case y11 => (intro w' hSw; (try dsimp only at hSw); have q1 := (RW.out.up hSw RW.out.lt).cell (j := 0) (v := .slice ao l.length oc) rfl; have q2 := bcl hSw hpbW PW.out; clear hSw; go_simp; try with_reducible rfl)
          simp only [Act.put, List.getElem_toArray, List.getElem_cons_zero, List.getElem_cons_succ, List.setIfInBounds_toArray, List.set_cons_zero, List.set_cons_succ]
          refine Still.takeBy (i := 1) [6, 4, 3, 2] (v := ?v12) (by kernel_rfl) (by kernel_rfl) rfl (by kernel_rfl) (by kernel_rfl) (by kernel_rfl) (fun _ _ _ h => h) (Or.inl ⟨by rfl, ?y12⟩) hHeld ?r12
          case y12 => (intro w' hSw; (try dsimp only at hSw); have q1 := (RW.out.up hSw RW.out.lt).cell (j := 0) (v := .slice ao l.length oc) rfl; have q2 := bcl hSw hpbW PW.out; clear hSw; go_simp; try with_reducible rfl)
          simp only [Act.put, List.getElem_toArray, List.getElem_cons_zero, List.getElem_cons_succ, List.setIfInBounds_toArray, List.set_cons_zero, List.set_cons_succ]
          refine Still.takeBy (i := 2) [6, 4, 3] (v := ?v13) (by kernel_rfl) (by kernel_rfl) rfl (by kernel_rfl) (by kernel_rfl) (by kernel_rfl) (fun _ _ _ h => h) (Or.inl ⟨by rfl, ?y13⟩) hHeld ?r13
          case y13 => (intro w' hSw; (try dsimp only at hSw); have q1 := (RW.out.up hSw RW.out.lt).cell (j := 0) (v := .slice ao l.length oc) rfl; have q2 := bcl hSw hpbW PW.out; clear hSw; go_simp; try with_reducible rfl)
          simp only [Act.put, List.getElem_toArray, List.getElem_cons_zero, List.getElem_cons_succ, List.setIfInBounds_toArray, List.set_cons_zero, List.set_cons_succ]
          refine Still.takeBy (i := 3) [6, 4] (v := ?v14) (by kernel_rfl) (by kernel_rfl) rfl (by kernel_rfl) (by kernel_rfl) (by kernel_rfl) (fun _ _ _ h => h) (Or.inl ⟨by rfl, ?y14⟩) hHeld ?r14
          case y14 => (intro w' hSw; (try dsimp only at hSw); have q1 := (RW.out.up hSw RW.out.lt).cell (j := 0) (v := .slice ao l.length oc) rfl; have q2 := bcl hSw hpbW PW.out; clear hSw; go_simp; try with_reducible rfl)
          simp only [Act.put, List.getElem_toArray, List.getElem_cons_zero, List.getElem_cons_succ, List.setIfInBounds_toArray, List.set_cons_zero, List.set_cons_succ]
          refine Still.takeBy (i := 4) [6] (v := ?v15) (by kernel_rfl) (by kernel_rfl) rfl (by kernel_rfl) (by kernel_rfl) (by kernel_rfl) (fun _ _ _ h => h) (Or.inl ⟨by rfl, ?y15⟩) hHeld ?r15
          case y15 => (intro w' hSw; (try dsimp only at hSw); have q1 := (RW.out.up hSw RW.out.lt).cell (j := 0) (v := .slice ao l.length oc) rfl; have q2 := bcl hSw hpbW PW.out; clear hSw; go_simp; try with_reducible rfl)
          simp only [Act.put, List.getElem_toArray, List.getElem_cons_zero, List.getElem_cons_succ, List.setIfInBounds_toArray, List.set_cons_zero, List.set_cons_succ]
          refine Still.takeBy (i := 5) [6] (v := ?v16) (by kernel_rfl) (by kernel_rfl) rfl (by kernel_rfl) (by kernel_rfl) (by kernel_rfl) (fun _ _ _ h => h) (Or.inl ⟨by rfl, ?y16⟩) hHeld ?r16
          case y16 => (intro w' hSw; (try dsimp only at hSw); have q1 := (RW.out.up hSw RW.out.lt).cell (j := 0) (v := .slice ao l.length oc) rfl; have q2 := bcl hSw hpbW PW.out; clear hSw; go_simp; try with_reducible rfl)
          simp only [Act.put, List.getElem_toArray, List.getElem_cons_zero, List.getElem_cons_succ, List.setIfInBounds_toArray, List.set_cons_zero, List.set_cons_succ]
          refine Still.all (rs := [6]) (by kernel_rfl) (by simp) (Still.one (i := 6) rfl rfl (fun K hK => ?_) (by simp))
          refine wp_call 60 _ _ rfl ent_lineCheck #[.int .i64 kd, .agg #[.slice ao l.length oc]] (by first | rfl | simp [Act.eval, Act.put]) ((HCK.out _).mono ?_)
          rintro e V1 ⟨rfl, bb⟩
          refine ⟨_, rfl, hK _ _ (fun _ => hHeld.trans (bb.mono hHeld.size)) (fun hh => ?_)⟩
          have hHeld := hh (by decide)
          clear hK K hh
          try simp only [Act.put, List.getElem_toArray, List.getElem_cons_zero, List.getElem_cons_succ, List.setIfInBounds_toArray, List.set_cons_zero, List.set_cons_succ]
          clear bb
          refine Still.all (rs := [7]) (by kernel_rfl) (by simp) (Still.one (i := 7) rfl rfl (fun K hK => ?_) (by simp))
          go_simp
          refine hK _ _ (fun h => absurd rfl h) (fun _ => ?_)
          clear hK K
          refine Still.over (by kernel_rfl) ?_ _
          have HL2 := Lib.hid (HBW.out.trans (hHeld.mono HBW.out.size))
          clear hHeld
          go_wp2
          go_roundw
          case rel => exact ⟨k + 1, by go_num, by omega, Lib.hid (fun j h h' hj => by
            rcases Nat.lt_or_ge j k with h1 | h1
            · exact HZ.out j h h' h1
            · obtain rfl : j = k := by omega
              exact HYES.out), HL2⟩
          case measure => simp [intOf]; omega
        · have h0' : (e0 != 0) = true := by simpa using h0
          have HNO := Lib.hid (show linesB cs ls = false from linesB_no k hlp hlt (by rw [HD.out, HPk.out]; show chkL kd l.length ≠ 0; rw [HCE.out]; exact h0))
          clear h0
          refine region_still (S := fun w' => Below W.heap.size W w') 7 (by kernel_rfl) (Below.refl _ _).drew (fun hHeld => ?_)
          refine Still.takeBy (i := 0) [6, 4, 3, 2] (v := ?v41) (by kernel_rfl) (by kernel_rfl) rfl (by kernel_rfl) (by kernel_rfl) (by kernel_rfl) (fun _ _ _ h => h) (Or.inl ⟨by rfl, ?y41⟩) hHeld ?r41
          case y41 => (intro w' hSw; (try dsimp only at hSw); have q1 := (RW.out.up hSw RW.out.lt).cell (j := 0) (v := .slice ao l.length oc) rfl; have q2 := bcl hSw hpbW PW.out; clear hSw; go_simp; try with_reducible rfl)
          simp only [Act.put, List.getElem_toArray, List.getElem_cons_zero, List.getElem_cons_succ, List.setIfInBounds_toArray, List.set_cons_zero, List.set_cons_succ]
          refine Still.takeBy (i := 1) [6, 4, 3, 2] (v := ?v42) (by kernel_rfl) (by kernel_rfl) rfl (by kernel_rfl) (by kernel_rfl) (by kernel_rfl) (fun _ _ _ h => h) (Or.inl ⟨by rfl, ?y42⟩) hHeld ?r42
          case y42 => (intro w' hSw; (try dsimp only at hSw); have q1 := (RW.out.up hSw RW.out.lt).cell (j := 0) (v := .slice ao l.length oc) rfl; have q2 := bcl hSw hpbW PW.out; clear hSw; go_simp; try with_reducible rfl)
          simp only [Act.put, List.getElem_toArray, List.getElem_cons_zero, List.getElem_cons_succ, List.setIfInBounds_toArray, List.set_cons_zero, List.set_cons_succ]
          refine Still.takeBy (i := 2) [6, 4, 3] (v := ?v43) (by kernel_rfl) (by kernel_rfl) rfl (by kernel_rfl) (by kernel_rfl) (by kernel_rfl) (fun _ _ _ h => h) (Or.inl ⟨by rfl, ?y43⟩) hHeld ?r43
          case y43 => (intro w' hSw; (try dsimp only at hSw); have q1 := (RW.out.up hSw RW.out.lt).cell (j := 0) (v := .slice ao l.length oc) rfl; have q2 := bcl hSw hpbW PW.out; clear hSw; go_simp; try with_reducible rfl)
          simp only [Act.put, List.getElem_toArray, List.getElem_cons_zero, List.getElem_cons_succ, List.setIfInBounds_toArray, List.set_cons_zero, List.set_cons_succ]
          refine Still.takeBy (i := 3) [6, 4] (v := ?v44) (by kernel_rfl) (by kernel_rfl) rfl (by kernel_rfl) (by kernel_rfl) (by kernel_rfl) (fun _ _ _ h => h) (Or.inl ⟨by rfl, ?y44⟩) hHeld ?r44
          case y44 => (intro w' hSw; (try dsimp only at hSw); have q1 := (RW.out.up hSw RW.out.lt).cell (j := 0) (v := .slice ao l.length oc) rfl; have q2 := bcl hSw hpbW PW.out; clear hSw; go_simp; try with_reducible rfl)
          simp only [Act.put, List.getElem_toArray, List.getElem_cons_zero, List.getElem_cons_succ, List.setIfInBounds_toArray, List.set_cons_zero, List.set_cons_succ]
          refine Still.takeBy (i := 4) [6] (v := ?v45) (by kernel_rfl) (by kernel_rfl) rfl (by kernel_rfl) (by kernel_rfl) (by kernel_rfl) (fun _ _ _ h => h) (Or.inl ⟨by rfl, ?y45⟩) hHeld ?r45
          case y45 => (intro w' hSw; (try dsimp only at hSw); have q1 := (RW.out.up hSw RW.out.lt).cell (j := 0) (v := .slice ao l.length oc) rfl; have q2 := bcl hSw hpbW PW.out; clear hSw; go_simp; try with_reducible rfl)
          simp only [Act.put, List.getElem_toArray, List.getElem_cons_zero, List.getElem_cons_succ, List.setIfInBounds_toArray, List.set_cons_zero, List.set_cons_succ]
          refine Still.takeBy (i := 5) [6] (v := ?v46) (by kernel_rfl) (by kernel_rfl) rfl (by kernel_rfl) (by kernel_rfl) (by kernel_rfl) (fun _ _ _ h => h) (Or.inl ⟨by rfl, ?y46⟩) hHeld ?r46
          case y46 => (intro w' hSw; (try dsimp only at hSw); have q1 := (RW.out.up hSw RW.out.lt).cell (j := 0) (v := .slice ao l.length oc) rfl; have q2 := bcl hSw hpbW PW.out; clear hSw; go_simp; try with_reducible rfl)
          simp only [Act.put, List.getElem_toArray, List.getElem_cons_zero, List.getElem_cons_succ, List.setIfInBounds_toArray, List.set_cons_zero, List.set_cons_succ]
          refine Still.all (rs := [6]) (by kernel_rfl) (by simp) (Still.one (i := 6) rfl rfl (fun K hK => ?_) (by simp))
          refine wp_call 60 _ _ rfl ent_lineCheck #[.int .i64 kd, .agg #[.slice ao l.length oc]] (by first | rfl | simp [Act.eval, Act.put]) ((HCK.out _).mono ?_)
          rintro e V1 ⟨rfl, bb⟩
          refine ⟨_, rfl, hK _ _ (fun _ => hHeld.trans (bb.mono hHeld.size)) (fun hh => ?_)⟩
          have hHeld := hh (by decide)
          clear hK K hh
          try simp only [Act.put, List.getElem_toArray, List.getElem_cons_zero, List.getElem_cons_succ, List.setIfInBounds_toArray, List.set_cons_zero, List.set_cons_succ]
          clear bb
          refine Still.all (rs := [7]) (by kernel_rfl) (by simp) (Still.one (i := 7) rfl rfl (fun K hK => ?_) (by simp))
          go_simp
          refine hK _ _ (fun h => absurd rfl h) (fun _ => ?_)
          clear hK K
          refine Still.over (by kernel_rfl) ?_ _
          have HL2 := Lib.hid (HBW.out.trans (hHeld.mono HBW.out.size))
          clear hHeld
          go_wp2
          go_ret
          exact ⟨ret_bool (by rw [← HR.out, HNO.out]), HL2.out⟩
      · have hli : ¬ (k : Int) < ls.length := by omega
        have HYES := Lib.hid (show linesB cs ls = true from linesB_yes HL.out (fun j h h' => HZ.out j h h' (by omega)))
        go_wp2
        go_ret
        exact ⟨ret_bool (by rw [← HR.out, HYES.out]), HB.out⟩
  · have he' : ((ls.length : Int) != cs.length) = true := by simp; omega
    have HNO : Hid (linesB cs ls = false) := by
      show _ = _
      cases e : linesB cs ls with
      | false => rfl
      | true => exact absurd (linesB_len e) he
    clear he
    go_enter Tryd.func33, Tryd.ntmps33
    go_wp2
    go_ret
    exact ⟨ret_bool (by rw [← HR.out, HNO.out]), Below.refl _ _⟩

set_option maxRecDepth 100000 in
set_option maxHeartbeats 8000000 in
/-- kern.Check. -/
theorem kernCheck_any (S : SysD) (D : WldD) (vp vc vs uc ul : Value) (w : World) (he : Env w) (hS : Sys w vp vc vs S) (hW : Wld w uc ul D) :
    Calls Tryd.prog 13 #[.agg #[vp, vc, vs], .agg #[.int .i64 D.tick, uc, ul]] w fun e w' => e = .returned (.int .i64 (chkW S D)) ∧ Below w.heap.size w w' := by
  obtain ⟨pa, pc, rfl⟩ := hS.p.form
  obtain ⟨ka, kc, rfl⟩ := hS.c.form
  obtain ⟨sa, sc, rfl⟩ := hS.s.form
  obtain ⟨ua, uc, rfl⟩ := hW.c.form
  obtain ⟨la, lc, rfl⟩ := hW.l.form
  have HC := Lib.hid fun w he hS => confCheck_any S (.slice pa S.parts.length pc) (.slice ka S.chans.length kc) (.slice sa S.slots.length sc) w he hS
  have HE := Lib.hid he
  have HS := Lib.hid hS
  have HW := Lib.hid hW
  clear he hS hW
  obtain ⟨e0, hce⟩ : ∃ e0, chkS S = e0 := ⟨_, rfl⟩
  rw [hce] at HC
  by_cases h0 : e0 = 0
  · subst h0
    have hcl : S.parts.length ≤ 4 ∧ S.chans.length ≤ 6 := by
      unfold chkS at hce
      cases hb : countsB S with
      | false => rw [hb] at hce; simp at hce
      | true => simp [countsB] at hb; omega
    obtain ⟨hcl1, hcl2⟩ := hcl
    have HCE := Lib.hid hce
    clear hce
    go_enter Tryd.func13, Tryd.ntmps13
    go_wp2_with fail
    refine (HC.out _ (HE.out.up (by repeat (first | exact Below.refl _ _ | assumption | refine Below.drew ?_ | refine Below.alloc ?_ (by first | (simp; done) | (simp; omega)) _ | refine Below.setCell ?_ (by first | (simp; done) | (simp; omega)) _))) (HS.out.up (by repeat (first | exact Below.refl _ _ | assumption | refine Below.drew ?_ | refine Below.alloc ?_ (by first | (simp; done) | (simp; omega)) _ | refine Below.setCell ?_ (by first | (simp; done) | (simp; omega)) _)))).mono ?_
    rintro e w1 ⟨rfl, b1⟩
    have z1 := b1.size
    simp at z1
    have R0 : Hid (Rw w1 w.heap.size 26 #[.slice pa S.parts.length pc, .slice ka S.chans.length kc, .slice sa S.slots.length sc]) := Rw.up (by repeat (first | exact Rw.new _ _ _ (by first | rfl | (simp; done) | omega | (simp; omega)) | refine Rw.alloc ?_ _)) b1 (by first | omega | (simp; done) | (simp; omega))
    have R1 : Hid (Rw w1 (w.heap.size + 1) 30 #[.int .i64 D.tick, .slice ua D.cells.length uc, .slice la D.lines.length lc]) := Rw.up (by repeat (first | exact Rw.new _ _ _ (by first | rfl | (simp; done) | omega | (simp; omega)) | refine Rw.alloc ?_ _)) b1 (by first | omega | (simp; done) | (simp; omega))
    have HD : Hid (Below w.heap.size w w1) := by
      refine Below.trans ?_ (b1.mono (by first | omega | (simp; done) | (simp; omega)))
      exact (by repeat (first | exact Below.refl _ _ | assumption | refine Below.drew ?_ | refine Below.alloc ?_ (by first | (simp; done) | (simp; omega)) _ | refine Below.setCell ?_ (by first | (simp; done) | (simp; omega)) _))
    have q0 := R0.out.cell (j := 0) (v := .slice pa S.parts.length pc) rfl
    have q1 := R0.out.cell (j := 1) (v := .slice ka S.chans.length kc) rfl
    have q2 := R1.out.cell (j := 0) (v := .int .i64 D.tick) rfl
    have q3 := R1.out.cell (j := 1) (v := .slice ua D.cells.length uc) rfl
    have q4 := R1.out.cell (j := 2) (v := .slice la D.lines.length lc) rfl
    clear b1 HC
    have HI := Lib.hid fun V => isRun_any D.tick V
    cases hB : withinB D.tick 0 300
    · have HN : Hid (chkW S D = 1) := by
        show _ = _
        unfold chkW
        rw [HCE.out, hB]
        rfl
      rw [hB] at HI
      clear hB
      go_wp2_with (go_at_call 31; refine (HI.out _).mono ?_; rintro e w2 ⟨rfl, rfl⟩)
      go_ret
      exact ⟨ret_int (by rw [HN.out]), HD.out⟩
    rw [hB] at HI
    have HTB := Lib.hid hB
    clear hB
    go_wp2_with (go_at_call 31; refine (HI.out _).mono ?_; rintro e w2 ⟨rfl, rfl⟩)
    obtain ⟨r, hr⟩ : ∃ r, cellsB S.parts D.cells = r := ⟨_, rfl⟩
    refine (rightCells_any S.parts D.cells _ _ hcl1 _ (HS.out.p.up HD.out) (HW.out.c.up HD.out) r hr).mono ?_
    rintro e w3 ⟨rfl, b3⟩
    have z3 := b3.size
    have HD3 := Lib.hid (HD.out.trans (b3.mono (by omega)))
    have p1 := bcl b3 (by omega) q1
    have p4 := bcl b3 (by omega) q4
    have HRC := Lib.hid hr
    clear b3 q0 q1 q2 q3 q4 HD R0 R1 hr
    cases r
    · have HN : Hid (chkW S D = 1) := by
        show _ = _
        unfold chkW
        rw [HCE.out, HTB.out, HRC.out]
        rfl
      go_wp2
      go_ret
      exact ⟨ret_int (by rw [HN.out]), HD3.out⟩
    go_wp2_with fail
    obtain ⟨r, hr⟩ : ∃ r, linesB S.chans D.lines = r := ⟨_, rfl⟩
    refine (rightLines_any S.chans D.lines _ _ hcl2 _ (HS.out.c.up HD3.out) (HW.out.l.up HD3.out) r hr).mono ?_
    rintro e w4 ⟨rfl, b4⟩
    have HD4 := Lib.hid (HD3.out.trans (b4.mono HD3.out.size))
    have HN : Hid (chkW S D = if r = true then 0 else 1) := by
      show _ = _
      unfold chkW
      rw [HCE.out, HTB.out, HRC.out, hr]
      rfl
    clear b4 p1 p4 hr
    cases r
    · go_wp2
      go_ret
      exact ⟨ret_int (by rw [HN.out]; rfl), HD4.out⟩
    · go_wp2
      go_ret
      exact ⟨ret_int (by rw [HN.out]; rfl), HD4.out⟩
  · have h0' : (e0 != 0) = true := by simpa using h0
    have HCE : Hid (chkW S D = e0) := by
      show _ = _
      unfold chkW
      rw [hce, if_pos h0]
    clear hce h0
    go_enter Tryd.func13, Tryd.ntmps13
    go_wp2_with fail
    refine (HC.out _ (HE.out.up (by repeat (first | exact Below.refl _ _ | assumption | refine Below.drew ?_ | refine Below.alloc ?_ (by first | (simp; done) | (simp; omega)) _ | refine Below.setCell ?_ (by first | (simp; done) | (simp; omega)) _))) (HS.out.up (by repeat (first | exact Below.refl _ _ | assumption | refine Below.drew ?_ | refine Below.alloc ?_ (by first | (simp; done) | (simp; omega)) _ | refine Below.setCell ?_ (by first | (simp; done) | (simp; omega)) _)))).mono ?_
    rintro e w1 ⟨rfl, b1⟩
    have HD : Hid (Below w.heap.size w w1) := by
      refine Below.trans ?_ (b1.mono (by first | omega | (simp; done) | (simp; omega)))
      exact (by repeat (first | exact Below.refl _ _ | assumption | refine Below.drew ?_ | refine Below.alloc ?_ (by first | (simp; done) | (simp; omega)) _ | refine Below.setCell ?_ (by first | (simp; done) | (simp; omega)) _))
    clear b1
    go_wp2
    go_ret
    exact ⟨ret_int (by rw [HCE.out]), HD.out⟩
end Go.Proofs.YtjhjaafoikadgaaDoor

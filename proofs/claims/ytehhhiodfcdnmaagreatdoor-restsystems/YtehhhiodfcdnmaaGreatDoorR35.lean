/- ref.CheckWorld. -/
import Derived.Test.YtehhhiodfcdnmaaGreatDoorR33
import Derived.Test.YtehhhiodfcdnmaaGreatDoorR7
import Derived.Test.YtehhhiodfcdnmaaGreatDoorR4
namespace Go.Proofs.YtehhhiodfcdnmaaGreatDoor
set_option linter.unusedSimpArgs false
set_option linter.unusedVariables false
set_option maxRecDepth 100000
set_option maxHeartbeats 16000000
open Go.RowKit Go.Sort
theorem ent_cellFine : Enters 35 := enters Tryz.func35 kr kr
theorem ent_checkLine : Enters 36 := enters Tryz.func36 kr kr
theorem checkWorld_any (S : SysD) (hok : S.ok) (D : WldD) (vp vc vs uc ul : Value) (w : World) (hS : Sys w vp vc vs S) (hW : Wld w uc ul D) (r : Int) (hr : chkW S D = r) :
  Calls Tryz.prog 10 #[.agg #[vp, vc, vs], .agg #[.int .i64 D.tick, uc, ul]] w fun e w' => e = .returned (.int .i64 r) ∧ Below w.heap.size w w' := by
 obtain ⟨pa, pc, rfl⟩ := hS.p.form
 obtain ⟨ka, kc, rfl⟩ := hS.c.form
 obtain ⟨sa, sc, rfl⟩ := hS.s.form
 obtain ⟨ua, uc, rfl⟩ := hW.c.form
 obtain ⟨la, lc, rfl⟩ := hW.l.form
 have HC := Lib.hid fun w hS => sysRef_any S hok (.slice pa S.parts.length pc) (.slice ka S.chans.length kc) (.slice sa S.slots.length sc) w hS
 have HS := Lib.hid hS
 have HW := Lib.hid hW
 have HR := Lib.hid hr
 clear hS hW hr hok
 obtain ⟨e0, hce⟩ : ∃ e0, chkS S = e0 := ⟨_, rfl⟩
 rw [hce] at HC
 by_cases h0 : e0 = 0
 ·subst h0
  have hcl : S.parts.length ≤ 4 ∧ S.chans.length ≤ 6 := by
   unfold chkS at hce
   cases hb : countsB S with
   | false => rw [hb] at hce; simp at hce
   | true => simp [countsB] at hb; omega
  obtain ⟨hcl1, hcl2⟩ := hcl
  have HCE := Lib.hid hce
  clear hce
  go_enter Tryz.func10, Tryz.ntmps10
  go_wp2_with fail
  refine (HC.out _ (HS.out.up up0)).mono ?_
  rintro e w1 ⟨rfl, b1⟩
  have z1 := b1.size
  simp at z1
  have R0 : Hid (Rw w1 w.heap.size 26 #[.slice pa S.parts.length pc, .slice ka S.chans.length kc, .slice sa S.slots.length sc]) := Rw.up rn0 b1 o3
  have R1 : Hid (Rw w1 (w.heap.size + 1) 30 #[.int .i64 D.tick, .slice ua D.cells.length uc, .slice la D.lines.length lc]) := Rw.up rn0 b1 o3
  have HD : Hid (Below w.heap.size w w1) := by
   refine Below.trans ?_ (b1.mono o3)
   exact up0
  have q0 := R0.out.cell (j := 0) (v := .slice pa S.parts.length pc) rfl
  have q1 := R0.out.cell (j := 1) (v := .slice ka S.chans.length kc) rfl
  have q2 := R1.out.cell (j := 0) (v := .int .i64 D.tick) rfl
  have q3 := R1.out.cell (j := 1) (v := .slice ua D.cells.length uc) rfl
  have q4 := R1.out.cell (j := 2) (v := .slice la D.lines.length lc) rfl
  clear b1 HC
  have HI := Lib.hid fun V => within_any D.tick 0 300 V
  by_cases hg : withinB D.tick 0 300 = true ∧ D.cells.length = S.parts.length ∧ D.lines.length = S.chans.length
  ·obtain ⟨hB, hl1, hl2⟩ := hg
   have n1 : ((D.cells.length : Int) != S.parts.length) = false := by simp; omega
   have n2 : ((D.lines.length : Int) != S.chans.length) = false := by simp; omega
   rw [hB] at HI
   have HWT : Hid (chkW S D = if cellsB S.parts D.cells && linesB S.chans D.lines then 0 else 1) := by
    show _ = _
    unfold chkW
    rw [HCE.out, hB]
    simp
   have HL1 := Lib.hid hl1
   have HL2 := Lib.hid hl2
   clear hB hl1 hl2
   go_wp2_with (go_at_call 34; refine (HI.out _).mono ?_; rintro e w2 ⟨rfl, rfl⟩)
   clear HI n1 n2 q0 q1 q2 q3 q4
   go_loopw [6] (fun i wr => ∃ k : Nat, i = .int .i64 k ∧ k ≤ D.cells.length ∧ Hid (∀ j (h : j < S.parts.length) (h' : j < D.cells.length), j < k → celB S.parts[j] D.cells[j] = true) ∧ Hid (Below w2.heap.size w2 wr)) (fun i _ => D.cells.length - (intOf i).toNat)
   case atStart => exact ⟨0, rfl, Nat.zero_le _, Lib.hid (fun j h h' h0 => by omega), Lib.hid (Below.refl _ _)⟩
   case round =>
    obtain ⟨k, rfl, hk, HZ, HB⟩ := hrel
    have hws := HB.out.size
    have hw0 := HD.out.size
    have r0 := R0.out.up HB.out om
    have r1 := R1.out.up HB.out om
    have q0 := r0.cell (j := 0) (v := .slice pa S.parts.length pc) rfl
    have q3 := r1.cell (j := 1) (v := .slice ua D.cells.length uc) rfl
    have Q0 := Lib.hid q0
    have Q3 := Lib.hid q3
    clear r0 r1
    by_cases hlt : k < D.cells.length
    ·have hli : (k : Int) < D.cells.length := by omega
     have h0i : (0 : Int) ≤ k := by omega
     have hlp : k < S.parts.length := by have := HL1.out; omega
     have hlip : (k : Int) < S.parts.length := by omega
     have hbb := HD.out.trans (HB.out.mono om)
     obtain ⟨b, off, cap, e1, hcap, hbw, hc⟩ := HW.out.c.open om
     cases e1
     obtain ⟨ao, oc, hra, hso⟩ := hc k hlt
     obtain ⟨pb, po, pcap, e2, hpcap, hpbw, hpc⟩ := HS.out.p.open om
     cases e2
     obtain ⟨cv, iv, hcv, hiv, hpr⟩ := hpc k hlp
     obtain ⟨ia, ic, rfl⟩ := hpr.inn.form
     have RA := Lib.hid (range_up hra hbb hbw)
     have PC := Lib.hid (bcl hbb hpbw hiv)
     have hsz : S.parts[k].inn.length ≤ ic := by
      obtain ⟨_, _, _, e, h, _⟩ := hpr.inn
      injection e with _ _ e2
      omega
     generalize hd : D.cells[k] = d at RA
     obtain ⟨c, out⟩ := d
     generalize hp : S.parts[k] = p at PC
     obtain ⟨code, inn⟩ := p
     have HDk := Lib.hid hd
     have HPk := Lib.hid hp
     simp only at RA PC
     have hb1 : b < wr.heap.size := by omega
     have hpb1 : pb < wr.heap.size := by omega
     have hg0 : w.heap.size < wr.heap.size := by omega
     have hg1 : w.heap.size + 1 < wr.heap.size := by omega
     clear hra hso hc hpc hcv hiv hpr hd hp hsz hbb
     have HCK := Lib.hid fun V => cellFine_any c ao out.length oc V
     rw [Cel.v_cs] at HCK
     cases hf : c.fine out.length
     ·have HNO := Lib.hid (show cellsB S.parts D.cells = false from cellsB_no k hlp hlt (by rw [HDk.out]; simp [celB, hf]))
      rw [hf] at HCK
      clear hf
      go_wp2
      clear q0 q3
      refine region_still (S := fun w' => Below wr.heap.size wr w') 22 kr (Below.refl _ _).drew (fun hHeld => ?_)
      have hq := fun w' (hSw : (fun w' => Below wr.heap.size wr w') w') => And.intro (bcl hSw hg1 Q3.out) (And.intro (bcl hSw hg0 Q0.out) (And.intro (range_up RA.out hSw hb1 13 (.int .i64 c.read) rfl) (bcl hSw hpb1 PC.out)))
      refine Still.u 0 [7, 5, 4, 3, 1] hHeld hq ?_
      refine Still.u 1 [7, 5, 4, 3] hHeld hq ?_
      refine Still.u 2 [7, 5, 4, 3] hHeld hq ?_
      refine Still.u 3 [7, 5, 4] hHeld hq ?_
      refine Still.y 4 [7, 5] rfl (yields_load_midA (by rfl) _ _ rfl b (off + k * 16) ev (c.cs (.slice ao out.length oc)) _ (fun w' hSw => range_up RA.out hSw hb1) Tryz.underlying35 rfl sizeCell) hHeld ?_
      refine Still.o 5 rfl rfl (fun K hK => ?_)
      refine wp_call 35 _ _ rfl ent_cellFine #[.agg (c.cs (.slice ao out.length oc))] ev ((HCK.out _).mono ?_)
      rintro e V1 ⟨rfl, bb⟩
      refine ⟨_, rfl, hK _ _ (fun _ => hHeld.trans (bb.mono hHeld.size)) (fun hh => ?_)⟩
      have hHeld := hh (by decide)
      clear hK K hh
      try simp only [Act.put, l1, l2, l3, l4, l5, l6]
      clear bb
      refine Still.t 6 [7] hHeld ?_
      refine Still.t 7 [] hHeld ?_
      refine Still.y 8 [21, 13, 12, 11, 9] rfl (Or.inr ⟨by rfl, rfl⟩) hHeld ?_
      refine Still.y 9 [21, 13, 12, 11] rfl (Or.inr ⟨by rfl, rfl⟩) hHeld ?_
      refine Still.y 10 [21, 13, 12, 11] rfl (Or.inr ⟨by rfl, rfl⟩) hHeld ?_
      refine Still.y 11 [21, 13, 12] rfl (Or.inr ⟨by rfl, rfl⟩) hHeld ?_
      refine Still.y 12 [21, 13] rfl (Or.inr ⟨by rfl, rfl⟩) hHeld ?_
      refine Still.y 13 [21] rfl (Or.inr ⟨by rfl, rfl⟩) hHeld ?_
      refine Still.y 14 [21, 20, 19, 18, 17, 15] rfl (Or.inr ⟨by rfl, rfl⟩) hHeld ?_
      refine Still.y 15 [21, 20, 19, 18, 17] rfl (Or.inr ⟨by rfl, rfl⟩) hHeld ?_
      refine Still.y 16 [21, 20, 19, 18, 17] rfl (Or.inr ⟨by rfl, rfl⟩) hHeld ?_
      refine Still.y 17 [21, 20, 19, 18] rfl (Or.inr ⟨by rfl, rfl⟩) hHeld ?_
      refine Still.y 18 [21, 20, 19] rfl (Or.inr ⟨by rfl, rfl⟩) hHeld ?_
      refine Still.y 19 [21, 20] rfl (Or.inr ⟨by rfl, rfl⟩) hHeld ?_
      refine Still.y 20 [21] rfl (Or.inr ⟨by rfl, rfl⟩) hHeld ?_
      refine Still.y 21 [] rfl (Or.inr ⟨by rfl, rfl⟩) hHeld ?_
      refine Still.o 22 rfl rfl (fun K hK => ?_)
      go_simp
      refine hK _ _ ab (fun _ => Still.vv ?_)
      clear hK K
      have HL := Lib.hid (HB.out.trans (hHeld.mono HB.out.size))
      clear hHeld
      go_wp2
      go_ret
      exact ⟨ret_int (by rw [← HR.out, HWT.out, HNO.out]; rfl), HD.out.trans (HL.out.mono hw0)⟩
     ·rw [hf] at HCK
      by_cases hrd : c.read ≤ inn.length
      ·have HYES := Lib.hid (show celB S.parts[k] D.cells[k] = true by rw [HDk.out, HPk.out]; simp [celB, hf, hrd])
       have B1 := Lib.hid (show decide ((inn.length : Int) < c.read) = false from decide_eq_false om)
       clear hf hrd
       go_wp2
       clear q0 q3
       refine region_still (S := fun w' => Below wr.heap.size wr w') 22 kr (Below.refl _ _).drew (fun hHeld => ?_)
       have hq := fun w' (hSw : (fun w' => Below wr.heap.size wr w') w') => And.intro (bcl hSw hg1 Q3.out) (And.intro (bcl hSw hg0 Q0.out) (And.intro (range_up RA.out hSw hb1 13 (.int .i64 c.read) rfl) (bcl hSw hpb1 PC.out)))
       refine Still.u 0 [7, 5, 4, 3, 1] hHeld hq ?_
       refine Still.u 1 [7, 5, 4, 3] hHeld hq ?_
       refine Still.u 2 [7, 5, 4, 3] hHeld hq ?_
       refine Still.u 3 [7, 5, 4] hHeld hq ?_
       refine Still.y 4 [7, 5] rfl (yields_load_midA (by rfl) _ _ rfl b (off + k * 16) ev (c.cs (.slice ao out.length oc)) _ (fun w' hSw => range_up RA.out hSw hb1) Tryz.underlying35 rfl sizeCell) hHeld ?_
       refine Still.o 5 rfl rfl (fun K hK => ?_)
       refine wp_call 35 _ _ rfl ent_cellFine #[.agg (c.cs (.slice ao out.length oc))] ev ((HCK.out _).mono ?_)
       rintro e V1 ⟨rfl, bb⟩
       refine ⟨_, rfl, hK _ _ (fun _ => hHeld.trans (bb.mono hHeld.size)) (fun hh => ?_)⟩
       have hHeld := hh (by decide)
       clear hK K hh
       try simp only [Act.put, l1, l2, l3, l4, l5, l6]
       clear bb
       refine Still.t 6 [7] hHeld ?_
       refine Still.t 7 [] hHeld ?_
       refine Still.t 8 [21, 13, 12, 11, 9] hHeld ?_ (hy := by (intro w' hSw; (try dsimp only at hSw); have q1 := bcl hSw hg1 Q3.out; have q2 := bcl hSw hg0 Q0.out; have q5 := range_up RA.out hSw hb1 13 (.int .i64 c.read) rfl; have q6 := bcl hSw hpb1 PC.out; clear hSw; go_simp; (try simp only [B1.out]); try with_reducible rfl))
       refine Still.t 9 [21, 13, 12, 11] hHeld ?_ (hy := by (intro w' hSw; (try dsimp only at hSw); have q1 := bcl hSw hg1 Q3.out; have q2 := bcl hSw hg0 Q0.out; have q5 := range_up RA.out hSw hb1 13 (.int .i64 c.read) rfl; have q6 := bcl hSw hpb1 PC.out; clear hSw; go_simp; (try simp only [B1.out]); try with_reducible rfl))
       refine Still.t 10 [21, 13, 12, 11] hHeld ?_ (hy := by (intro w' hSw; (try dsimp only at hSw); have q1 := bcl hSw hg1 Q3.out; have q2 := bcl hSw hg0 Q0.out; have q5 := range_up RA.out hSw hb1 13 (.int .i64 c.read) rfl; have q6 := bcl hSw hpb1 PC.out; clear hSw; go_simp; (try simp only [B1.out]); try with_reducible rfl))
       refine Still.t 11 [21, 13, 12] hHeld ?_ (hy := by (intro w' hSw; (try dsimp only at hSw); have q1 := bcl hSw hg1 Q3.out; have q2 := bcl hSw hg0 Q0.out; have q5 := range_up RA.out hSw hb1 13 (.int .i64 c.read) rfl; have q6 := bcl hSw hpb1 PC.out; clear hSw; go_simp; (try simp only [B1.out]); try with_reducible rfl))
       refine Still.t 12 [21, 13] hHeld ?_ (hy := by (intro w' hSw; (try dsimp only at hSw); have q1 := bcl hSw hg1 Q3.out; have q2 := bcl hSw hg0 Q0.out; have q5 := range_up RA.out hSw hb1 13 (.int .i64 c.read) rfl; have q6 := bcl hSw hpb1 PC.out; clear hSw; go_simp; (try simp only [B1.out]); try with_reducible rfl))
       refine Still.t 13 [21] hHeld ?_ (hy := by (intro w' hSw; (try dsimp only at hSw); have q1 := bcl hSw hg1 Q3.out; have q2 := bcl hSw hg0 Q0.out; have q5 := range_up RA.out hSw hb1 13 (.int .i64 c.read) rfl; have q6 := bcl hSw hpb1 PC.out; clear hSw; go_simp; (try simp only [B1.out]); try with_reducible rfl))
       refine Still.t 14 [21, 20, 19, 18, 17, 15] hHeld ?_ (hy := by (intro w' hSw; (try dsimp only at hSw); have q1 := bcl hSw hg1 Q3.out; have q2 := bcl hSw hg0 Q0.out; have q5 := range_up RA.out hSw hb1 13 (.int .i64 c.read) rfl; have q6 := bcl hSw hpb1 PC.out; clear hSw; go_simp; (try simp only [B1.out]); try with_reducible rfl))
       refine Still.t 15 [21, 20, 19, 18, 17] hHeld ?_ (hy := by (intro w' hSw; (try dsimp only at hSw); have q1 := bcl hSw hg1 Q3.out; have q2 := bcl hSw hg0 Q0.out; have q5 := range_up RA.out hSw hb1 13 (.int .i64 c.read) rfl; have q6 := bcl hSw hpb1 PC.out; clear hSw; go_simp; (try simp only [B1.out]); try with_reducible rfl))
       refine Still.t 16 [21, 20, 19, 18, 17] hHeld ?_ (hy := by (intro w' hSw; (try dsimp only at hSw); have q1 := bcl hSw hg1 Q3.out; have q2 := bcl hSw hg0 Q0.out; have q5 := range_up RA.out hSw hb1 13 (.int .i64 c.read) rfl; have q6 := bcl hSw hpb1 PC.out; clear hSw; go_simp; (try simp only [B1.out]); try with_reducible rfl))
       refine Still.t 17 [21, 20, 19, 18] hHeld ?_ (hy := by (intro w' hSw; (try dsimp only at hSw); have q1 := bcl hSw hg1 Q3.out; have q2 := bcl hSw hg0 Q0.out; have q5 := range_up RA.out hSw hb1 13 (.int .i64 c.read) rfl; have q6 := bcl hSw hpb1 PC.out; clear hSw; go_simp; (try simp only [B1.out]); try with_reducible rfl))
       refine Still.t 18 [21, 20, 19] hHeld ?_ (hy := by (intro w' hSw; (try dsimp only at hSw); have q1 := bcl hSw hg1 Q3.out; have q2 := bcl hSw hg0 Q0.out; have q5 := range_up RA.out hSw hb1 13 (.int .i64 c.read) rfl; have q6 := bcl hSw hpb1 PC.out; clear hSw; go_simp; (try simp only [B1.out]); try with_reducible rfl))
       refine Still.t 19 [21, 20] hHeld ?_ (hy := by (intro w' hSw; (try dsimp only at hSw); have q1 := bcl hSw hg1 Q3.out; have q2 := bcl hSw hg0 Q0.out; have q5 := range_up RA.out hSw hb1 13 (.int .i64 c.read) rfl; have q6 := bcl hSw hpb1 PC.out; clear hSw; go_simp; (try simp only [B1.out]); try with_reducible rfl))
       refine Still.t 20 [21] hHeld ?_ (hy := by (intro w' hSw; (try dsimp only at hSw); have q1 := bcl hSw hg1 Q3.out; have q2 := bcl hSw hg0 Q0.out; have q5 := range_up RA.out hSw hb1 13 (.int .i64 c.read) rfl; have q6 := bcl hSw hpb1 PC.out; clear hSw; go_simp; (try simp only [B1.out]); try with_reducible rfl))
       refine Still.t 21 [] hHeld ?_ (hy := by (intro w' hSw; (try dsimp only at hSw); have q1 := bcl hSw hg1 Q3.out; have q2 := bcl hSw hg0 Q0.out; have q5 := range_up RA.out hSw hb1 13 (.int .i64 c.read) rfl; have q6 := bcl hSw hpb1 PC.out; clear hSw; go_simp; (try simp only [B1.out]); try with_reducible rfl))
       refine Still.o 22 rfl rfl (fun K hK => ?_)
       go_simp
       refine hK _ _ ab (fun _ => Still.vv ?_)
       clear hK K
       have HL := Lib.hid (HB.out.trans (hHeld.mono HB.out.size))
       clear hHeld
       go_wp2
       go_roundw
       case rel => exact ⟨k + 1, by go_num, by omega, Lib.hid (fun j h h' hj => by
        rcases Nat.lt_or_ge j k with h1 | h1
        ·exact HZ.out j h h' h1
        ·obtain rfl : j = k := by omega
         exact HYES.out), HL⟩
       case measure => simp [intOf]; omega
      ·have HNO := Lib.hid (show cellsB S.parts D.cells = false from cellsB_no k hlp hlt (by rw [HDk.out, HPk.out]; simp [celB]; intro; omega))
       have B1 := Lib.hid (show decide ((inn.length : Int) < c.read) = true from decide_eq_true om)
       clear hf hrd
       go_wp2
       clear q0 q3
       refine region_still (S := fun w' => Below wr.heap.size wr w') 22 kr (Below.refl _ _).drew (fun hHeld => ?_)
       have hq := fun w' (hSw : (fun w' => Below wr.heap.size wr w') w') => And.intro (bcl hSw hg1 Q3.out) (And.intro (bcl hSw hg0 Q0.out) (And.intro (range_up RA.out hSw hb1 13 (.int .i64 c.read) rfl) (bcl hSw hpb1 PC.out)))
       refine Still.u 0 [7, 5, 4, 3, 1] hHeld hq ?_
       refine Still.u 1 [7, 5, 4, 3] hHeld hq ?_
       refine Still.u 2 [7, 5, 4, 3] hHeld hq ?_
       refine Still.u 3 [7, 5, 4] hHeld hq ?_
       refine Still.y 4 [7, 5] rfl (yields_load_midA (by rfl) _ _ rfl b (off + k * 16) ev (c.cs (.slice ao out.length oc)) _ (fun w' hSw => range_up RA.out hSw hb1) Tryz.underlying35 rfl sizeCell) hHeld ?_
       refine Still.o 5 rfl rfl (fun K hK => ?_)
       refine wp_call 35 _ _ rfl ent_cellFine #[.agg (c.cs (.slice ao out.length oc))] ev ((HCK.out _).mono ?_)
       rintro e V1 ⟨rfl, bb⟩
       refine ⟨_, rfl, hK _ _ (fun _ => hHeld.trans (bb.mono hHeld.size)) (fun hh => ?_)⟩
       have hHeld := hh (by decide)
       clear hK K hh
       try simp only [Act.put, l1, l2, l3, l4, l5, l6]
       clear bb
       refine Still.t 6 [7] hHeld ?_
       refine Still.t 7 [] hHeld ?_
       refine Still.t 8 [21, 13, 12, 11, 9] hHeld ?_ (hy := by (intro w' hSw; (try dsimp only at hSw); have q1 := bcl hSw hg1 Q3.out; have q2 := bcl hSw hg0 Q0.out; have q5 := range_up RA.out hSw hb1 13 (.int .i64 c.read) rfl; have q6 := bcl hSw hpb1 PC.out; clear hSw; go_simp; (try simp only [B1.out]); try with_reducible rfl))
       refine Still.t 9 [21, 13, 12, 11] hHeld ?_ (hy := by (intro w' hSw; (try dsimp only at hSw); have q1 := bcl hSw hg1 Q3.out; have q2 := bcl hSw hg0 Q0.out; have q5 := range_up RA.out hSw hb1 13 (.int .i64 c.read) rfl; have q6 := bcl hSw hpb1 PC.out; clear hSw; go_simp; (try simp only [B1.out]); try with_reducible rfl))
       refine Still.t 10 [21, 13, 12, 11] hHeld ?_ (hy := by (intro w' hSw; (try dsimp only at hSw); have q1 := bcl hSw hg1 Q3.out; have q2 := bcl hSw hg0 Q0.out; have q5 := range_up RA.out hSw hb1 13 (.int .i64 c.read) rfl; have q6 := bcl hSw hpb1 PC.out; clear hSw; go_simp; (try simp only [B1.out]); try with_reducible rfl))
       refine Still.t 11 [21, 13, 12] hHeld ?_ (hy := by (intro w' hSw; (try dsimp only at hSw); have q1 := bcl hSw hg1 Q3.out; have q2 := bcl hSw hg0 Q0.out; have q5 := range_up RA.out hSw hb1 13 (.int .i64 c.read) rfl; have q6 := bcl hSw hpb1 PC.out; clear hSw; go_simp; (try simp only [B1.out]); try with_reducible rfl))
       refine Still.t 12 [21, 13] hHeld ?_ (hy := by (intro w' hSw; (try dsimp only at hSw); have q1 := bcl hSw hg1 Q3.out; have q2 := bcl hSw hg0 Q0.out; have q5 := range_up RA.out hSw hb1 13 (.int .i64 c.read) rfl; have q6 := bcl hSw hpb1 PC.out; clear hSw; go_simp; (try simp only [B1.out]); try with_reducible rfl))
       refine Still.t 13 [21] hHeld ?_ (hy := by (intro w' hSw; (try dsimp only at hSw); have q1 := bcl hSw hg1 Q3.out; have q2 := bcl hSw hg0 Q0.out; have q5 := range_up RA.out hSw hb1 13 (.int .i64 c.read) rfl; have q6 := bcl hSw hpb1 PC.out; clear hSw; go_simp; (try simp only [B1.out]); try with_reducible rfl))
       refine Still.t 14 [21, 20, 19, 18, 17, 15] hHeld ?_ (hy := by (intro w' hSw; (try dsimp only at hSw); have q1 := bcl hSw hg1 Q3.out; have q2 := bcl hSw hg0 Q0.out; have q5 := range_up RA.out hSw hb1 13 (.int .i64 c.read) rfl; have q6 := bcl hSw hpb1 PC.out; clear hSw; go_simp; (try simp only [B1.out]); try with_reducible rfl))
       refine Still.t 15 [21, 20, 19, 18, 17] hHeld ?_ (hy := by (intro w' hSw; (try dsimp only at hSw); have q1 := bcl hSw hg1 Q3.out; have q2 := bcl hSw hg0 Q0.out; have q5 := range_up RA.out hSw hb1 13 (.int .i64 c.read) rfl; have q6 := bcl hSw hpb1 PC.out; clear hSw; go_simp; (try simp only [B1.out]); try with_reducible rfl))
       refine Still.t 16 [21, 20, 19, 18, 17] hHeld ?_ (hy := by (intro w' hSw; (try dsimp only at hSw); have q1 := bcl hSw hg1 Q3.out; have q2 := bcl hSw hg0 Q0.out; have q5 := range_up RA.out hSw hb1 13 (.int .i64 c.read) rfl; have q6 := bcl hSw hpb1 PC.out; clear hSw; go_simp; (try simp only [B1.out]); try with_reducible rfl))
       refine Still.t 17 [21, 20, 19, 18] hHeld ?_ (hy := by (intro w' hSw; (try dsimp only at hSw); have q1 := bcl hSw hg1 Q3.out; have q2 := bcl hSw hg0 Q0.out; have q5 := range_up RA.out hSw hb1 13 (.int .i64 c.read) rfl; have q6 := bcl hSw hpb1 PC.out; clear hSw; go_simp; (try simp only [B1.out]); try with_reducible rfl))
       refine Still.t 18 [21, 20, 19] hHeld ?_ (hy := by (intro w' hSw; (try dsimp only at hSw); have q1 := bcl hSw hg1 Q3.out; have q2 := bcl hSw hg0 Q0.out; have q5 := range_up RA.out hSw hb1 13 (.int .i64 c.read) rfl; have q6 := bcl hSw hpb1 PC.out; clear hSw; go_simp; (try simp only [B1.out]); try with_reducible rfl))
       refine Still.t 19 [21, 20] hHeld ?_ (hy := by (intro w' hSw; (try dsimp only at hSw); have q1 := bcl hSw hg1 Q3.out; have q2 := bcl hSw hg0 Q0.out; have q5 := range_up RA.out hSw hb1 13 (.int .i64 c.read) rfl; have q6 := bcl hSw hpb1 PC.out; clear hSw; go_simp; (try simp only [B1.out]); try with_reducible rfl))
       refine Still.t 20 [21] hHeld ?_ (hy := by (intro w' hSw; (try dsimp only at hSw); have q1 := bcl hSw hg1 Q3.out; have q2 := bcl hSw hg0 Q0.out; have q5 := range_up RA.out hSw hb1 13 (.int .i64 c.read) rfl; have q6 := bcl hSw hpb1 PC.out; clear hSw; go_simp; (try simp only [B1.out]); try with_reducible rfl))
       refine Still.t 21 [] hHeld ?_ (hy := by (intro w' hSw; (try dsimp only at hSw); have q1 := bcl hSw hg1 Q3.out; have q2 := bcl hSw hg0 Q0.out; have q5 := range_up RA.out hSw hb1 13 (.int .i64 c.read) rfl; have q6 := bcl hSw hpb1 PC.out; clear hSw; go_simp; (try simp only [B1.out]); try with_reducible rfl))
       refine Still.o 22 rfl rfl (fun K hK => ?_)
       go_simp
       refine hK _ _ ab (fun _ => Still.vv ?_)
       clear hK K
       have HL := Lib.hid (HB.out.trans (hHeld.mono HB.out.size))
       clear hHeld
       go_wp2
       go_ret
       exact ⟨ret_int (by rw [← HR.out, HWT.out, HNO.out]; rfl), HD.out.trans (HL.out.mono hw0)⟩
    ·have hli : ¬ (k : Int) < D.cells.length := by omega
     have HYC := Lib.hid (show cellsB S.parts D.cells = true from cellsB_yes HL1.out (fun j h h' => HZ.out j h h' om))
     clear HZ Q0 Q3
     go_wp2
     clear q0 q3
     go_loopw [7] (fun i wr => ∃ k : Nat, i = .int .i64 k ∧ k ≤ D.lines.length ∧ Hid (∀ j (h : j < S.chans.length) (h' : j < D.lines.length), j < k → chkL S.chans[j].kd D.lines[j].length = 0) ∧ Hid (Below w2.heap.size w2 wr)) (fun i _ => D.lines.length - (intOf i).toNat)
     case atStart => exact ⟨0, rfl, Nat.zero_le _, Lib.hid (fun j h h' h0 => by omega), HB⟩
     case round =>
      clear HB hli hlt hk
      obtain ⟨k, rfl, hk, HZ, HB⟩ := hrel
      have hws := HB.out.size
      have r0 := R0.out.up HB.out om
      have r1 := R1.out.up HB.out om
      have q1 := r0.cell (j := 1) (v := .slice ka S.chans.length kc) rfl
      have q4 := r1.cell (j := 2) (v := .slice la D.lines.length lc) rfl
      have Q1 := Lib.hid q1
      have Q4 := Lib.hid q4
      clear r0 r1
      by_cases hlt : k < D.lines.length
      ·have hli : (k : Int) < D.lines.length := by omega
       have h0i : (0 : Int) ≤ k := by omega
       have hlp : k < S.chans.length := by have := HL2.out; omega
       have hlip : (k : Int) < S.chans.length := by omega
       have hbb := HD.out.trans (HB.out.mono om)
       obtain ⟨b, off, cap, e1, hcap, hbw, hc⟩ := HW.out.l.open om
       cases e1
       obtain ⟨ao, oc, hra, hso⟩ := hc k hlt
       obtain ⟨pb, po, pcap, e2, hpcap, hpbw, hpc⟩ := HS.out.c.open om
       cases e2
       obtain ⟨hkd, _, _⟩ := chan_cells hpc k hlp
       have RA := Lib.hid (bcl hbb hbw hra)
       have PC := Lib.hid (bcl hbb hpbw hkd)
       generalize hd : D.lines[k] = l at RA
       generalize hp : S.chans[k] = p at PC
       obtain ⟨kd, fr, tt⟩ := p
       have HDk := Lib.hid hd
       have HPk := Lib.hid hp
       simp only at PC
       have hb1 : b < wr.heap.size := by omega
       have hpb1 : pb < wr.heap.size := by omega
       have hg0 : w.heap.size < wr.heap.size := by omega
       have hg1 : w.heap.size + 1 < wr.heap.size := by omega
       clear hra hso hc hpc hkd hd hp hbb
       obtain ⟨e0, hce⟩ : ∃ e0, chkL kd l.length = e0 := ⟨_, rfl⟩
       have HCK := Lib.hid fun V => chkLineRef_any kd ao l.length oc V e0 hce
       have HCE2 := Lib.hid hce
       clear hce
       by_cases h0 : e0 = 0
       ·subst h0
        have HYES := Lib.hid (show chkL S.chans[k].kd D.lines[k].length = 0 by rw [HDk.out, HPk.out]; exact HCE2.out)
        go_wp2
        clear q1 q4
        refine region_still (S := fun w' => Below wr.heap.size wr w') 12 kr (Below.refl _ _).drew (fun hHeld => ?_)
        have hq := fun w' (hSw : (fun w' => Below wr.heap.size wr w') w') => And.intro (bcl hSw hg0 Q1.out) (And.intro (bcl hSw hg1 Q4.out) (And.intro (bcl hSw hb1 RA.out) (bcl hSw hpb1 PC.out)))
        refine Still.u 0 [11, 5, 4, 3, 1] hHeld hq ?_
        refine Still.u 1 [11, 5, 4, 3] hHeld hq ?_
        refine Still.u 2 [11, 5, 4, 3] hHeld hq ?_
        refine Still.u 3 [11, 5, 4] hHeld hq ?_
        refine Still.u 4 [11, 5] hHeld hq ?_
        refine Still.u 5 [11] hHeld hq ?_
        refine Still.u 6 [11, 10, 9, 7] hHeld hq ?_
        refine Still.u 7 [11, 10, 9] hHeld hq ?_
        refine Still.u 8 [11, 10, 9] hHeld hq ?_
        refine Still.u 9 [11, 10] hHeld hq ?_
        refine Still.u 10 [11] hHeld hq ?_
        refine Still.o 11 rfl rfl (fun K hK => ?_)
        refine wp_call 36 _ _ rfl ent_checkLine #[.int .i64 kd, .agg #[.slice ao l.length oc]] ev ((HCK.out _).mono ?_)
        rintro e V1 ⟨rfl, bb⟩
        refine ⟨_, rfl, hK _ _ (fun _ => hHeld.trans (bb.mono hHeld.size)) (fun hh => ?_)⟩
        have hHeld := hh (by decide)
        clear hK K hh
        try simp only [Act.put, l1, l2, l3, l4, l5, l6]
        clear bb
        refine Still.o 12 rfl rfl (fun K hK => ?_)
        go_simp
        refine hK _ _ ab (fun _ => Still.vv ?_)
        clear hK K
        have HL := Lib.hid (HB.out.trans (hHeld.mono HB.out.size))
        clear hHeld
        go_wp2
        go_roundw
        case rel => exact ⟨k + 1, by go_num, by omega, Lib.hid (fun j h h' hj => by
         rcases Nat.lt_or_ge j k with h1 | h1
         ·exact HZ.out j h h' h1
         ·obtain rfl : j = k := by omega
          exact HYES.out), HL⟩
        case measure => simp [intOf]; omega
       ·have h0' : (e0 != 0) = true := by simpa using h0
        have HNO := Lib.hid (show linesB S.chans D.lines = false from linesB_no k hlp hlt (by rw [HDk.out, HPk.out]; show chkL kd l.length ≠ 0; rw [HCE2.out]; exact h0))
        clear h0
        go_wp2
        clear q1 q4
        refine region_still (S := fun w' => Below wr.heap.size wr w') 12 kr (Below.refl _ _).drew (fun hHeld => ?_)
        have hq := fun w' (hSw : (fun w' => Below wr.heap.size wr w') w') => And.intro (bcl hSw hg0 Q1.out) (And.intro (bcl hSw hg1 Q4.out) (And.intro (bcl hSw hb1 RA.out) (bcl hSw hpb1 PC.out)))
        refine Still.u 0 [11, 5, 4, 3, 1] hHeld hq ?_
        refine Still.u 1 [11, 5, 4, 3] hHeld hq ?_
        refine Still.u 2 [11, 5, 4, 3] hHeld hq ?_
        refine Still.u 3 [11, 5, 4] hHeld hq ?_
        refine Still.u 4 [11, 5] hHeld hq ?_
        refine Still.u 5 [11] hHeld hq ?_
        refine Still.u 6 [11, 10, 9, 7] hHeld hq ?_
        refine Still.u 7 [11, 10, 9] hHeld hq ?_
        refine Still.u 8 [11, 10, 9] hHeld hq ?_
        refine Still.u 9 [11, 10] hHeld hq ?_
        refine Still.u 10 [11] hHeld hq ?_
        refine Still.o 11 rfl rfl (fun K hK => ?_)
        refine wp_call 36 _ _ rfl ent_checkLine #[.int .i64 kd, .agg #[.slice ao l.length oc]] ev ((HCK.out _).mono ?_)
        rintro e V1 ⟨rfl, bb⟩
        refine ⟨_, rfl, hK _ _ (fun _ => hHeld.trans (bb.mono hHeld.size)) (fun hh => ?_)⟩
        have hHeld := hh (by decide)
        clear hK K hh
        try simp only [Act.put, l1, l2, l3, l4, l5, l6]
        clear bb
        refine Still.o 12 rfl rfl (fun K hK => ?_)
        go_simp
        refine hK _ _ ab (fun _ => Still.vv ?_)
        clear hK K
        have HL := Lib.hid (HB.out.trans (hHeld.mono HB.out.size))
        clear hHeld
        go_wp2
        go_ret
        exact ⟨ret_int (by rw [← HR.out, HWT.out, HNO.out, HYC.out]; rfl), HD.out.trans (HL.out.mono hw0)⟩
      ·have hli : ¬ (k : Int) < D.lines.length := by omega
       have HYL := Lib.hid (show linesB S.chans D.lines = true from linesB_yes HL2.out (fun j h h' => HZ.out j h h' om))
       go_wp2
       go_ret
       exact ⟨ret_int (by rw [← HR.out, HWT.out, HYL.out, HYC.out]; rfl), HD.out.trans (HB.out.mono hw0)⟩
  ·have HN : Hid (r = 1) := by
    show _ = _
    rw [← HR.out]
    unfold chkW
    rw [HCE.out]
    simp only [ne_eq, not_true_eq_false, if_false]
    rw [if_neg]
    intro h
    rw [Bool.and_eq_true, Bool.and_eq_true] at h
    exact hg ⟨h.1.1, cellsB_len h.1.2, linesB_len h.2⟩
   cases hB : withinB D.tick 0 300
   ·rw [hB] at HI
    clear hB hg
    go_wp2_with (go_at_call 34; refine (HI.out _).mono ?_; rintro e w2 ⟨rfl, rfl⟩)
    go_ret
    exact ⟨ret_int (by rw [HN.out]), HD.out⟩
   ·rw [hB] at HI
    by_cases hl1 : D.cells.length = S.parts.length
    ·have n1 : ((D.cells.length : Int) != S.parts.length) = false := by simp; omega
     have n2 : ((D.lines.length : Int) != S.chans.length) = true := by
      simp
      intro h
      exact hg ⟨hB, hl1, by omega⟩
     clear hB hg
     go_wp2_with (go_at_call 34; refine (HI.out _).mono ?_; rintro e w2 ⟨rfl, rfl⟩)
     go_ret
     exact ⟨ret_int (by rw [HN.out]), HD.out⟩
    ·have n1 : ((D.cells.length : Int) != S.parts.length) = true := by simp; omega
     clear hB hg
     go_wp2_with (go_at_call 34; refine (HI.out _).mono ?_; rintro e w2 ⟨rfl, rfl⟩)
     go_ret
     exact ⟨ret_int (by rw [HN.out]), HD.out⟩
 ·have h0' : (e0 != 0) = true := by simpa using h0
  have HCE : Hid (r = e0) := by
   show _ = _
   rw [← HR.out]
   unfold chkW
   rw [hce, if_pos h0]
  clear hce h0
  go_enter Tryz.func10, Tryz.ntmps10
  go_wp2_with fail
  refine (HC.out _ (HS.out.up up0)).mono ?_
  rintro e w1 ⟨rfl, b1⟩
  have HD : Hid (Below w.heap.size w w1) := by
   refine Below.trans ?_ (b1.mono o3)
   exact up0
  clear b1
  go_wp2
  go_ret
  exact ⟨ret_int (by rw [HCE.out]), HD.out⟩
end Go.Proofs.YtehhhiodfcdnmaaGreatDoor

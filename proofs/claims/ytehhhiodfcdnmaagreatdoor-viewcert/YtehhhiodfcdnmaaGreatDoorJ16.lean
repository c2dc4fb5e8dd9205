/- The same worlds are the same to the document, too. -/
import Derived.Test.YtehhhiodfcdnmaaGreatDoorKn8
import Derived.Test.YtehhhiodfcdnmaaGreatDoorJ15
import Derived.Test.YtehhhiodfcdnmaaGreatDoorJ10
namespace Go.Proofs.YtehhhiodfcdnmaaGreatDoor
set_option linter.unusedSimpArgs false
set_option linter.unusedVariables false
open Go.RowKit Go.Sort
theorem ent_sameInts : Enters 41 := enters Tryz.func41 (by kernel_rfl) (by kernel_rfl)
theorem sameInts_yes (xs : List Int) (v u : Value) (w : World) (hx : Sl w 1 v xs.length (ints xs)) (hy : Sl w 1 u xs.length (ints xs)) (hm : xs.length < 4294967281) :
    Calls Tryz.prog 41 #[v, u] w fun e w' => e = .returned (.bool true) ∧ Below w.heap.size w w' := sameInts_any xs xs v u w hx hy hm true (by simp)
theorem sameCells_agg (c : Cel) (xs : List Int) (v u : Value) (w : World) (hx : Sl w 1 v xs.length (ints xs)) (hy : Sl w 1 u xs.length (ints xs)) (hm : xs.length < 4294967281) :
    Calls Tryz.prog 42 #[.agg (c.cs v), .agg (c.cs u)] w fun e w' => e = .returned (.bool true) ∧ Below w.heap.size w w' := by
  have h := sameCells_yes c xs v u w hx hy hm
  rw [Cel.v_cs, Cel.v_cs] at h
  exact h
set_option maxRecDepth 100000 in
set_option maxHeartbeats 8000000 in
theorem sameLines_yes (ls : List (List Int)) (v u : Value) (hl : ls.length ≤ 1000) (hn : ∀ k (h : k < ls.length), ls[k].length ≤ 1000) (w : World) (hV : LinesR w v ls) (hU : LinesR w u ls) :
    Calls Tryz.prog 43 #[v, u] w fun e w' => e = .returned (.bool true) ∧ Below w.heap.size w w' := by
  obtain ⟨pa, pc, rfl⟩ := hV.form
  obtain ⟨ca, cc, rfl⟩ := hU.form
  have HV := Lib.hid hV
  have HU := Lib.hid hU
  have HN := Lib.hid hn
  clear hV hU hn
  have he' : ((ls.length : Int) != ls.length) = false := by simp
  go_enter Tryz.func43, Tryz.ntmps43
  go_wp2
  go_loopw [5] (fun i wr => ∃ k : Nat, i = .int .i64 k ∧ k ≤ ls.length ∧ Hid (Below w.heap.size w wr)) (fun i _ => ls.length - (intOf i).toNat)
  case atStart => exact ⟨0, rfl, Nat.zero_le _, Lib.hid (Below.refl _ _)⟩
  case round =>
    obtain ⟨k, rfl, hk, HB⟩ := hrel
    by_cases hlt : k < ls.length
    · have hli : (k : Int) < ls.length := by omega
      have h0i : (0 : Int) ≤ k := by omega
      obtain ⟨b, off, cap, e1, hcap, hbw, hc⟩ := HV.out.open (by omega)
      cases e1
      obtain ⟨ao, oc, hra, hso⟩ := hc k hlt
      obtain ⟨b2, off2, cap2, e2, hcap2, hbw2, hc2⟩ := HU.out.open (by omega)
      cases e2
      obtain ⟨ao2, oc2, hra2, hso2⟩ := hc2 k hlt
      have RA := Lib.hid (bcl HB.out hbw hra)
      have RB := Lib.hid (bcl HB.out hbw2 hra2)
      have SA := Lib.hid (hso.up HB.out)
      have SB := Lib.hid (hso2.up HB.out)
      have hws := HB.out.size
      have hb1 : b < wr.heap.size := by omega
      have hb2 : b2 < wr.heap.size := by omega
      have hnk := HN.out k hlt
      generalize ls[k] = l at RA RB SA SB hnk
      have HCK := Lib.hid fun V hx hy => sameInts_yes l (.slice ao l.length oc) (.slice ao2 l.length oc2) V hx hy (by omega)
      clear hra hso hc hra2 hso2 hc2
      go_wp2
      refine region_still (S := fun w' => Below wr.heap.size wr w') 11 (by kernel_rfl) (Below.refl _ _).drew (fun hHeld => ?_)
      refine Still.takeBy (i := 0) [10, 4, 3, 2] (v := ?v11) (by kernel_rfl) (by kernel_rfl) rfl (by kernel_rfl) (by kernel_rfl) (by kernel_rfl) (fun _ _ _ h => h) (Or.inl ⟨by rfl, ?y11⟩) hHeld ?r11
      case y11 => (intro w' hSw; (try dsimp only at hSw); have q1 := bcl hSw hb1 RA.out; have q2 := bcl hSw hb2 RB.out; clear hSw; go_simp; try with_reducible rfl)
      simp only [Act.put, List.getElem_toArray, List.getElem_cons_zero, List.getElem_cons_succ, List.setIfInBounds_toArray, List.set_cons_zero, List.set_cons_succ]
      refine Still.takeBy (i := 1) [10, 4, 3, 2] (v := ?v12) (by kernel_rfl) (by kernel_rfl) rfl (by kernel_rfl) (by kernel_rfl) (by kernel_rfl) (fun _ _ _ h => h) (Or.inl ⟨by rfl, ?y12⟩) hHeld ?r12
      case y12 => (intro w' hSw; (try dsimp only at hSw); have q1 := bcl hSw hb1 RA.out; have q2 := bcl hSw hb2 RB.out; clear hSw; go_simp; try with_reducible rfl)
      simp only [Act.put, List.getElem_toArray, List.getElem_cons_zero, List.getElem_cons_succ, List.setIfInBounds_toArray, List.set_cons_zero, List.set_cons_succ]
      refine Still.takeBy (i := 2) [10, 4, 3] (v := ?v13) (by kernel_rfl) (by kernel_rfl) rfl (by kernel_rfl) (by kernel_rfl) (by kernel_rfl) (fun _ _ _ h => h) (Or.inl ⟨by rfl, ?y13⟩) hHeld ?r13
      case y13 => (intro w' hSw; (try dsimp only at hSw); have q1 := bcl hSw hb1 RA.out; have q2 := bcl hSw hb2 RB.out; clear hSw; go_simp; try with_reducible rfl)
      simp only [Act.put, List.getElem_toArray, List.getElem_cons_zero, List.getElem_cons_succ, List.setIfInBounds_toArray, List.set_cons_zero, List.set_cons_succ]
      refine Still.takeBy (i := 3) [10, 4] (v := ?v14) (by kernel_rfl) (by kernel_rfl) rfl (by kernel_rfl) (by kernel_rfl) (by kernel_rfl) (fun _ _ _ h => h) (Or.inl ⟨by rfl, ?y14⟩) hHeld ?r14
      case y14 => (intro w' hSw; (try dsimp only at hSw); have q1 := bcl hSw hb1 RA.out; have q2 := bcl hSw hb2 RB.out; clear hSw; go_simp; try with_reducible rfl)
      simp only [Act.put, List.getElem_toArray, List.getElem_cons_zero, List.getElem_cons_succ, List.setIfInBounds_toArray, List.set_cons_zero, List.set_cons_succ]
      refine Still.takeBy (i := 4) [10] (v := ?v15) (by kernel_rfl) (by kernel_rfl) rfl (by kernel_rfl) (by kernel_rfl) (by kernel_rfl) (fun _ _ _ h => h) (Or.inl ⟨by rfl, ?y15⟩) hHeld ?r15
      case y15 => (intro w' hSw; (try dsimp only at hSw); have q1 := bcl hSw hb1 RA.out; have q2 := bcl hSw hb2 RB.out; clear hSw; go_simp; try with_reducible rfl)
      simp only [Act.put, List.getElem_toArray, List.getElem_cons_zero, List.getElem_cons_succ, List.setIfInBounds_toArray, List.set_cons_zero, List.set_cons_succ]
      refine Still.takeBy (i := 5) [10, 9, 8, 7] (v := ?v16) (by kernel_rfl) (by kernel_rfl) rfl (by kernel_rfl) (by kernel_rfl) (by kernel_rfl) (fun _ _ _ h => h) (Or.inl ⟨by rfl, ?y16⟩) hHeld ?r16
      case y16 => (intro w' hSw; (try dsimp only at hSw); have q1 := bcl hSw hb1 RA.out; have q2 := bcl hSw hb2 RB.out; clear hSw; go_simp; try with_reducible rfl)
      simp only [Act.put, List.getElem_toArray, List.getElem_cons_zero, List.getElem_cons_succ, List.setIfInBounds_toArray, List.set_cons_zero, List.set_cons_succ]
      refine Still.takeBy (i := 6) [10, 9, 8, 7] (v := ?v17) (by kernel_rfl) (by kernel_rfl) rfl (by kernel_rfl) (by kernel_rfl) (by kernel_rfl) (fun _ _ _ h => h) (Or.inl ⟨by rfl, ?y17⟩) hHeld ?r17
      case y17 => (intro w' hSw; (try dsimp only at hSw); have q1 := bcl hSw hb1 RA.out; have q2 := bcl hSw hb2 RB.out; clear hSw; go_simp; try with_reducible rfl)
      simp only [Act.put, List.getElem_toArray, List.getElem_cons_zero, List.getElem_cons_succ, List.setIfInBounds_toArray, List.set_cons_zero, List.set_cons_succ]
      refine Still.takeBy (i := 7) [10, 9, 8] (v := ?v18) (by kernel_rfl) (by kernel_rfl) rfl (by kernel_rfl) (by kernel_rfl) (by kernel_rfl) (fun _ _ _ h => h) (Or.inl ⟨by rfl, ?y18⟩) hHeld ?r18
      case y18 => (intro w' hSw; (try dsimp only at hSw); have q1 := bcl hSw hb1 RA.out; have q2 := bcl hSw hb2 RB.out; clear hSw; go_simp; try with_reducible rfl)
      simp only [Act.put, List.getElem_toArray, List.getElem_cons_zero, List.getElem_cons_succ, List.setIfInBounds_toArray, List.set_cons_zero, List.set_cons_succ]
      refine Still.takeBy (i := 8) [10, 9] (v := ?v19) (by kernel_rfl) (by kernel_rfl) rfl (by kernel_rfl) (by kernel_rfl) (by kernel_rfl) (fun _ _ _ h => h) (Or.inl ⟨by rfl, ?y19⟩) hHeld ?r19
      case y19 => (intro w' hSw; (try dsimp only at hSw); have q1 := bcl hSw hb1 RA.out; have q2 := bcl hSw hb2 RB.out; clear hSw; go_simp; try with_reducible rfl)
      simp only [Act.put, List.getElem_toArray, List.getElem_cons_zero, List.getElem_cons_succ, List.setIfInBounds_toArray, List.set_cons_zero, List.set_cons_succ]
      refine Still.takeBy (i := 9) [10] (v := ?v20) (by kernel_rfl) (by kernel_rfl) rfl (by kernel_rfl) (by kernel_rfl) (by kernel_rfl) (fun _ _ _ h => h) (Or.inl ⟨by rfl, ?y20⟩) hHeld ?r20
      case y20 => (intro w' hSw; (try dsimp only at hSw); have q1 := bcl hSw hb1 RA.out; have q2 := bcl hSw hb2 RB.out; clear hSw; go_simp; try with_reducible rfl)
      simp only [Act.put, List.getElem_toArray, List.getElem_cons_zero, List.getElem_cons_succ, List.setIfInBounds_toArray, List.set_cons_zero, List.set_cons_succ]
      refine Still.all (rs := [10]) (by kernel_rfl) (by simp) (Still.one (i := 10) rfl rfl (fun K hK => ?_) (by simp))
      refine wp_call 41 _ _ rfl ent_sameInts #[.slice ao l.length oc, .slice ao2 l.length oc2] (by first | rfl | simp [Act.eval, Act.put]) ((HCK.out _ (SA.out.up hHeld) (SB.out.up hHeld)).mono ?_)
      rintro e V1 ⟨rfl, bb⟩
      refine ⟨_, rfl, hK _ _ (fun _ => hHeld.trans (bb.mono hHeld.size)) (fun hh => ?_)⟩
      have hHeld := hh (by decide)
      clear hK K hh
      try simp only [Act.put, List.getElem_toArray, List.getElem_cons_zero, List.getElem_cons_succ, List.setIfInBounds_toArray, List.set_cons_zero, List.set_cons_succ]
      clear bb
      refine Still.all (rs := [11]) (by kernel_rfl) (by simp) (Still.one (i := 11) rfl rfl (fun K hK => ?_) (by simp))
      go_simp
      refine hK _ _ (fun h => absurd rfl h) (fun _ => ?_)
      clear hK K
      refine Still.over (by kernel_rfl) ?_ _
      have HL2 := Lib.hid (HB.out.trans (hHeld.mono HB.out.size))
      clear hHeld
      go_wp2
      go_roundw
      case rel => exact ⟨k + 1, by go_num, by omega, HL2⟩
      case measure => simp [intOf]; omega
    · have hli : ¬ (k : Int) < ls.length := by omega
      go_wp2
      go_ret
      exact ⟨rfl, HB.out⟩
structure WSmall (D : WldD) : Prop where
  c : D.cells.length ≤ 1000
  l : D.lines.length ≤ 1000
  o : ∀ k (h : k < D.cells.length), D.cells[k].out.length ≤ 1000
  n : ∀ k (h : k < D.lines.length), D.lines[k].length ≤ 1000
end Go.Proofs.YtehhhiodfcdnmaaGreatDoor

namespace Go.Proofs.YtehhhiodfcdnmaaGreatDoor
set_option linter.unusedSimpArgs false
set_option linter.unusedVariables false
open Go.RowKit Go.Sort
theorem ownCell_lit (c : Cel) (xs : List Int) (hx : xs.length ≤ 1000) (v : Value) (w : World) (hS : Sl w 1 v xs.length (ints xs)) :
    Calls Tryz.prog 38 #[.agg (c.cs v)] w fun e w' => ∃ ao cap, e = .returned (.agg #[.int .i64 c.at_, .int .i64 c.r0, .int .i64 c.r1, .int .i64 c.r2, .int .i64 c.r3, .int .i64 c.m0, .int .i64 c.m1, .int .i64 c.m2, .int .i64 c.m3, .int .i64 c.m4, .int .i64 c.m5, .int .i64 c.m6, .int .i64 c.m7, .int .i64 c.read, .slice ao xs.length cap, .int .i64 c.en]) ∧ w'.ownsRow w.heap.size 3 1 (.slice ao xs.length cap) xs.length (ints xs) ∧ Below w.heap.size w w' := ownCell_agg c xs hx v w hS
set_option maxRecDepth 100000 in
set_option maxHeartbeats 8000000 in
theorem viewOfRef_any (S : SysD) (D : WldD) (pn : Nat) (hc : chkW S D = 0) (hp : pn < S.parts.length) (vp vc vs uc ul : Value) (w : World) (hS : Sys w vp vc vs S) (hW : Wld w uc ul D) (V : ViwD) (hV : viewR S D pn = V) :
    Calls Tryz.prog 12 #[.agg #[vp, vc, vs], .agg #[.int .i64 D.tick, uc, ul], .int .i64 (pn : Int)] w fun e w' => ∃ o vl, e = .returned (.agg (vwC V.d.c o vl)) ∧ VwR w.heap.size w' o vl V ∧ Below w.heap.size w w' := by
  obtain ⟨i0, hi0, hz0, hz1, hz2⟩ := info_parts infoInt
  obtain ⟨i2, hi2, hx0, hx1, hx2⟩ := info_parts infoLine
  obtain ⟨pa, pc, rfl⟩ := hS.p.form
  obtain ⟨ka, kc, rfl⟩ := hS.c.form
  obtain ⟨sa, sc, rfl⟩ := hS.s.form
  obtain ⟨ua, uc, rfl⟩ := hW.c.form
  obtain ⟨la, lc, rfl⟩ := hW.l.form
  have HS := Lib.hid hS
  have HW := Lib.hid hW
  have HVV := Lib.hid hV
  have HC0 := Lib.hid hc
  obtain ⟨hlc, hlc2, hll, hll2⟩ : D.cells.length ≤ S.parts.length ∧ S.parts.length ≤ D.cells.length ∧ D.lines.length ≤ S.chans.length ∧ S.chans.length ≤ D.lines.length := by
    obtain ⟨_, h2⟩ := chkW_zero HC0.out
    have h3 := cellsB_len h2.c
    have h4 := linesB_len h2.l
    omega
  have hc6 : S.chans.length ≤ 6 := (countsS (chkW_zero HC0.out).1).2
  have hpd : pn < D.cells.length := by omega
  have HVE : Hid (V = ⟨D.cells[pn], viewL S.chans D.lines pn⟩) := Lib.hid (by
    have hz : viewE S D pn = 0 := by unfold viewE; rw [if_neg (by rw [HC0.out]; simp), if_pos (by simp [isPB]; omega)]
    rw [← HVV.out]; unfold viewR; rw [if_pos hz]; simp [hpd])
  have hol : D.cells[pn].out.length ≤ 16 := ((fine_iff _ _).1 (celB_is (cellsB_at (chkW_zero HC0.out).2.c pn (by omega) hpd)).1).2.2.2.2.2.2
  have HLN : Hid (∀ k (h : k < D.lines.length), D.lines[k].length ≤ 3) := Lib.hid fun k h => by
    have := chkL_zero (linesB_at (chkW_zero HC0.out).2.l k (by omega) h)
    omega
  obtain ⟨b, off, cap, e1, hcap, hbw, hcc⟩ := HW.out.c.open (by omega)
  cases e1
  obtain ⟨ao, oc, hra, hso⟩ := hcc pn hpd
  have HRA := Lib.hid hra
  have HSO := Lib.hid hso
  have hpi : (pn : Int) < D.cells.length := by omega
  generalize D.cells[pn] = d at HVE hol HRA HSO
  obtain ⟨c, out⟩ := d
  simp only at HVE hol HRA HSO
  clear hS hW hV hc hcc hra hso
  go_enter Tryz.func12, Tryz.ntmps12
  go_upto_region 1 with fail
  generalize hX : World.alloc _ _ = X
  have hXX : X = ((w.alloc (.cells #[.slice pa S.parts.length pc, .slice ka S.chans.length kc, .slice sa S.slots.length sc] 26)).alloc (.cells #[.int .i64 D.tick, .slice (some ⟨b, off, none⟩) D.cells.length uc, .slice la D.lines.length lc] 30)).alloc (.cells (vwC celZ (.slice none 0 0) (.slice none 0 0)) 37) := by rw [← hX]; rfl
  have hzX : X.heap.size = w.heap.size + 3 := by rw [hXX]; simp
  have d0 : Below w.heap.size w X := by rw [hXX]; exact (by repeat (first | exact Below.refl _ _ | assumption | refine Below.drew ?_ | refine Below.alloc ?_ (by first | (simp; done) | (simp; omega)) _ | refine Below.setCell ?_ (by first | (simp; done) | (simp; omega)) _))
  have R30 : Hid (Rw X w.heap.size 26 #[.slice pa S.parts.length pc, .slice ka S.chans.length kc, .slice sa S.slots.length sc]) := Lib.hid (by rw [hXX]; exact (by repeat (first | exact Rw.new _ _ _ (by first | rfl | (simp; done) | omega | (simp; omega)) | refine Rw.alloc ?_ _)))
  have R40 : Hid (Rw X (w.heap.size + 1) 30 #[.int .i64 D.tick, .slice (some ⟨b, off, none⟩) D.cells.length uc, .slice la D.lines.length lc]) := Lib.hid (by rw [hXX]; exact (by repeat (first | exact Rw.new _ _ _ (by first | rfl | (simp; done) | omega | (simp; omega)) | refine Rw.alloc ?_ _)))
  have R60 : Hid (Rw X (w.heap.size + 1 + 1) 37 (vwC celZ (.slice none 0 0) (.slice none 0 0))) := Lib.hid (by rw [hXX]; exact (by repeat (first | exact Rw.new _ _ _ (by first | rfl | (simp; done) | omega | (simp; omega)) | refine Rw.alloc ?_ _)))
  have RA := Lib.hid (range_up HRA.out d0 hbw)
  have SO := Lib.hid (HSO.out.up d0)
  have D0 := Lib.hid d0
  have t1 := R40.out.cell (j := 1) (v := .slice (some ⟨b, off, none⟩) D.cells.length uc) rfl
  clear hX hXX d0 HRA HSO
  go_wp2_with (refine wpList_load_midA rfl 35 (.tmp 12) rfl b (off + pn * 16) rfl (c.cs (.slice ao out.length oc)) _ RA.out Tryz.underlying35 rfl sizeCell ?_)
  refine (ownCell_lit c out (by omega) _ _ SO.out).mono ?_
  rintro e w1 ⟨a4, c4, rfl, ho4, b4⟩
  have hob := own_block ho4
  have hol4 := own_lt ho4
  have z1 := b4.size
  have R31 := Lib.hid (R30.out.up b4 (by omega))
  have R41 := Lib.hid (R40.out.up b4 (by omega))
  have R61 := Lib.hid (R60.out.up b4 (by omega))
  have SO4 := Lib.hid (own_sl ho4)
  have HB1 := Lib.hid (D0.out.trans (b4.mono (by omega)))
  clear b4 ho4 t1 RA SO D0 R30 R40 R60
  go_wp2_with (refine wpList_store_rowW rfl 37 (.tmp 7) (.tmp 15) rfl w1.heap.size (vwC c (.slice a4 out.length c4) (.slice none 0 0)) rfl rfl 37 (vwC celZ (.slice none 0 0) (.slice none 0 0)) (by repeat (first | exact Rw.new _ _ _ (by first | rfl | (simp; done) | omega | (simp; omega)) | refine Rw.alloc ?_ _)) sizeView rfl (vwC_one _ _ _ rfl rfl) ?_)
  intro W5 HW5
  have HC : Hid (Vo w W5 w1.heap.size #[.slice pa S.parts.length pc, .slice ka S.chans.length kc, .slice sa S.slots.length sc] #[.int .i64 D.tick, .slice (some ⟨b, off, none⟩) D.cells.length uc, .slice la D.lines.length lc] c (.slice a4 out.length c4) out (.slice none 0 0) []) := Lib.hid (by
    have hd : Below w1.heap.size w1 W5 := by rw [HW5.out]; exact below_row ((Below.refl _ _).alloc (Nat.le_refl _) _) (Nat.le_refl _) _
    have hs : W5.heap.size = w1.heap.size + 1 := by rw [HW5.out]; simp
    refine ⟨HB1.out.trans (hd.mono (by omega)), R31.out.up hd (by omega), R41.out.up hd (by omega), R61.out.up hd (by omega), ?_, NewV.nil _ _ _, SO4.out.up hd, fun x e => ?_, by omega⟩
    · rw [HW5.out]; exact Rw.row (cs := (vwC celZ (.slice none 0 0) (.slice none 0 0))) (by repeat (first | exact Rw.new _ _ _ (by first | rfl | (simp; done) | omega | (simp; omega)) | refine Rw.alloc ?_ _)) _
    · have h1 := hob x e
      have h2 := hol4 x e
      exact ⟨by omega, by omega, by omega, fun e' => by cases e'⟩)
  obtain ⟨B9, hB9⟩ : ∃ B9, w1.heap.size = B9 := ⟨_, rfl⟩
  rw [hB9] at HC
  clear HW5 R31 R41 R61 SO4 HB1 hob hol4
  simp only [hB9]
  clear hB9
  go_wp2
  go_loopw [8] (fun i wr => ∃ k : Nat, i = .int .i64 k ∧ k ≤ S.chans.length ∧ Hid (∃ vl, Vo w wr B9 #[.slice pa S.parts.length pc, .slice ka S.chans.length kc, .slice sa S.slots.length sc] #[.int .i64 D.tick, .slice (some ⟨b, off, none⟩) D.cells.length uc, .slice la D.lines.length lc] c (.slice a4 out.length c4) out vl (viewL (S.chans.take k) (D.lines.take k) pn))) (fun i _ => S.chans.length - (intOf i).toNat)
  case atStart => exact ⟨0, rfl, Nat.zero_le _, Lib.hid ⟨_, HC.out⟩⟩
  case round =>
    clear HC
    obtain ⟨k, rfl, hk, HC⟩ := hrel
    obtain ⟨vl, hC⟩ := HC.out
    clear HC
    have hvl := viewL_len (pn : Int) (S.chans.take k) (D.lines.take k)
    generalize hlk : viewL (S.chans.take k) (D.lines.take k) pn = ls at hC hvl
    have HLL : Hid (ls.length ≤ 6) := Lib.hid (by rw [List.length_take] at hvl; omega)
    have HLK := Lib.hid hlk
    obtain ⟨a3, c3, rfl⟩ := hC.n.formL
    have CP := Lib.hid hC
    have k1 := hC.r3.cell (j := 1) (v := .slice ka S.chans.length kc) rfl
    clear hlk hC hvl
    by_cases hlt : k < S.chans.length
    · have hli : (k : Int) < S.chans.length := by omega
      have hltD : k < D.lines.length := by omega
      have hliD : (k : Int) < D.lines.length := by omega
      obtain ⟨kb, ko, kcap, e1, _, hkb, hkc⟩ := HS.out.c.open (by omega)
      cases e1
      obtain ⟨-, x1, x2⟩ := chan_cells hkc k hlt
      have x1 := bcl CP.out.d hkb x1
      have x2 := bcl CP.out.d hkb x2
      have HST := Lib.hid (viewL_step hlt hltD (pn : Int))
      rw [HLK.out] at HST
      obtain ⟨lb, lo, lcap, e2, _, hlb, hlcc⟩ := HW.out.l.open (by omega)
      cases e2
      obtain ⟨na, nc, hn1, hn2⟩ := hlcc k hltD
      have HN1 := Lib.hid (bcl CP.out.d hlb hn1)
      have HN2 := Lib.hid (hn2.up CP.out.d)
      have hln := HLN.out k hltD
      generalize S.chans[k] = ch at x1 x2 HST
      generalize D.lines[k] = ln at HST HN1 HN2 hln
      obtain ⟨kd, fr, tt⟩ := ch
      simp only at x1 x2 HST
      have hz := CP.out.z
      have hlb3 := CP.out.lb
      clear hkc hlcc hn1 hn2
      cases h1b : (fr == (pn : Int)) with
      | true =>
        rw [h1b] at HST
        simp only [Bool.true_or, if_true] at HST
        go_wp2
        clear h1b
        have HVL := Lib.hid CP.out.n.ltL
        clear k1 x1 x2
        refine region_still (S := fun w' => Below (B9 + 1) wr w') 14 (by kernel_rfl) (Below.refl _ _).drew (fun hHeld => ?_)
        refine Still.takeBy (i := 0) [] (v := ?v11) (by kernel_rfl) (by kernel_rfl) rfl (by kernel_rfl) (by kernel_rfl) (by kernel_rfl) (fun _ _ _ h => h) (Or.inl ⟨by rfl, ?y11⟩) hHeld ?r11
        case y11 => (intro w' hSw; (try dsimp only at hSw); have y1 := (CP.out.r9.up hSw (by omega)).cell (j := 16) (v := .slice a3 ls.length c3) rfl; have y2 := (CP.out.r4.up hSw (by omega)).cell (j := 2) (v := .slice (some ⟨lb, lo, none⟩) D.lines.length lc) rfl; have y3 := bcl hSw (by have := CP.out.d.size; omega) HN1.out; clear hSw; go_simp; try with_reducible rfl)
        simp only [Act.put, List.getElem_toArray, List.getElem_cons_zero, List.getElem_cons_succ, List.setIfInBounds_toArray, List.set_cons_zero, List.set_cons_succ]
        refine Still.takeBy (i := 1) [] (v := ?v12) (by kernel_rfl) (by kernel_rfl) rfl (by kernel_rfl) (by kernel_rfl) (by kernel_rfl) (fun _ _ _ h => h) (Or.inl ⟨by rfl, ?y12⟩) hHeld ?r12
        case y12 => (intro w' hSw; (try dsimp only at hSw); have y1 := (CP.out.r9.up hSw (by omega)).cell (j := 16) (v := .slice a3 ls.length c3) rfl; have y2 := (CP.out.r4.up hSw (by omega)).cell (j := 2) (v := .slice (some ⟨lb, lo, none⟩) D.lines.length lc) rfl; have y3 := bcl hSw (by have := CP.out.d.size; omega) HN1.out; clear hSw; go_simp; try with_reducible rfl)
        simp only [Act.put, List.getElem_toArray, List.getElem_cons_zero, List.getElem_cons_succ, List.setIfInBounds_toArray, List.set_cons_zero, List.set_cons_succ]
        refine Still.takeBy (i := 3) [] (v := ?v13) (by kernel_rfl) (by kernel_rfl) rfl (by kernel_rfl) (by kernel_rfl) (by kernel_rfl) (fun _ _ _ h => h) (Or.inl ⟨by rfl, ?y13⟩) hHeld ?r13
        case y13 => (intro w' hSw; (try dsimp only at hSw); have y1 := (CP.out.r9.up hSw (by omega)).cell (j := 16) (v := .slice a3 ls.length c3) rfl; have y2 := (CP.out.r4.up hSw (by omega)).cell (j := 2) (v := .slice (some ⟨lb, lo, none⟩) D.lines.length lc) rfl; have y3 := bcl hSw (by have := CP.out.d.size; omega) HN1.out; clear hSw; go_simp; try with_reducible rfl)
        simp only [Act.put, List.getElem_toArray, List.getElem_cons_zero, List.getElem_cons_succ, List.setIfInBounds_toArray, List.set_cons_zero, List.set_cons_succ]
        refine Still.takeBy (i := 4) [] (v := ?v14) (by kernel_rfl) (by kernel_rfl) rfl (by kernel_rfl) (by kernel_rfl) (by kernel_rfl) (fun _ _ _ h => h) (Or.inl ⟨by rfl, ?y14⟩) hHeld ?r14
        case y14 => (intro w' hSw; (try dsimp only at hSw); have y1 := (CP.out.r9.up hSw (by omega)).cell (j := 16) (v := .slice a3 ls.length c3) rfl; have y2 := (CP.out.r4.up hSw (by omega)).cell (j := 2) (v := .slice (some ⟨lb, lo, none⟩) D.lines.length lc) rfl; have y3 := bcl hSw (by have := CP.out.d.size; omega) HN1.out; clear hSw; go_simp; try with_reducible rfl)
        simp only [Act.put, List.getElem_toArray, List.getElem_cons_zero, List.getElem_cons_succ, List.setIfInBounds_toArray, List.set_cons_zero, List.set_cons_succ]
        refine Still.takeBy (i := 5) [] (v := ?v15) (by kernel_rfl) (by kernel_rfl) rfl (by kernel_rfl) (by kernel_rfl) (by kernel_rfl) (fun _ _ _ h => h) (Or.inl ⟨by rfl, ?y15⟩) hHeld ?r15
        case y15 => (intro w' hSw; (try dsimp only at hSw); have y1 := (CP.out.r9.up hSw (by omega)).cell (j := 16) (v := .slice a3 ls.length c3) rfl; have y2 := (CP.out.r4.up hSw (by omega)).cell (j := 2) (v := .slice (some ⟨lb, lo, none⟩) D.lines.length lc) rfl; have y3 := bcl hSw (by have := CP.out.d.size; omega) HN1.out; clear hSw; go_simp; try with_reducible rfl)
        simp only [Act.put, List.getElem_toArray, List.getElem_cons_zero, List.getElem_cons_succ, List.setIfInBounds_toArray, List.set_cons_zero, List.set_cons_succ]
        refine Still.takeBy (i := 6) [] (v := ?v16) (by kernel_rfl) (by kernel_rfl) rfl (by kernel_rfl) (by kernel_rfl) (by kernel_rfl) (fun _ _ _ h => h) (Or.inl ⟨by rfl, ?y16⟩) hHeld ?r16
        case y16 => (intro w' hSw; (try dsimp only at hSw); have y1 := (CP.out.r9.up hSw (by omega)).cell (j := 16) (v := .slice a3 ls.length c3) rfl; have y2 := (CP.out.r4.up hSw (by omega)).cell (j := 2) (v := .slice (some ⟨lb, lo, none⟩) D.lines.length lc) rfl; have y3 := bcl hSw (by have := CP.out.d.size; omega) HN1.out; clear hSw; go_simp; try with_reducible rfl)
        simp only [Act.put, List.getElem_toArray, List.getElem_cons_zero, List.getElem_cons_succ, List.setIfInBounds_toArray, List.set_cons_zero, List.set_cons_succ]
        refine Still.takeBy (i := 7) [] (v := ?v17) (by kernel_rfl) (by kernel_rfl) rfl (by kernel_rfl) (by kernel_rfl) (by kernel_rfl) (fun _ _ _ h => h) (Or.inl ⟨by rfl, ?y17⟩) hHeld ?r17
        case y17 => (intro w' hSw; (try dsimp only at hSw); have y1 := (CP.out.r9.up hSw (by omega)).cell (j := 16) (v := .slice a3 ls.length c3) rfl; have y2 := (CP.out.r4.up hSw (by omega)).cell (j := 2) (v := .slice (some ⟨lb, lo, none⟩) D.lines.length lc) rfl; have y3 := bcl hSw (by have := CP.out.d.size; omega) HN1.out; clear hSw; go_simp; try with_reducible rfl)
        simp only [Act.put, List.getElem_toArray, List.getElem_cons_zero, List.getElem_cons_succ, List.setIfInBounds_toArray, List.set_cons_zero, List.set_cons_succ]
        refine Still.takeBy (i := 8) [] (v := ?v18) (by kernel_rfl) (by kernel_rfl) rfl (by kernel_rfl) (by kernel_rfl) (by kernel_rfl) (fun _ _ _ h => h) (Or.inl ⟨by rfl, ?y18⟩) hHeld ?r18
        case y18 => (intro w' hSw; (try dsimp only at hSw); have y1 := (CP.out.r9.up hSw (by omega)).cell (j := 16) (v := .slice a3 ls.length c3) rfl; have y2 := (CP.out.r4.up hSw (by omega)).cell (j := 2) (v := .slice (some ⟨lb, lo, none⟩) D.lines.length lc) rfl; have y3 := bcl hSw (by have := CP.out.d.size; omega) HN1.out; clear hSw; go_simp; try with_reducible rfl)
        simp only [Act.put, List.getElem_toArray, List.getElem_cons_zero, List.getElem_cons_succ, List.setIfInBounds_toArray, List.set_cons_zero, List.set_cons_succ]
        refine Still.all (rs := [2]) (by kernel_rfl) (by simp) (Still.one (i := 2) rfl rfl (fun K hK => ?_) (by simp))
        go_simp
        refine hK _ _ (fun _ => Below.alloc (Below.refl _ _).drew (by simpa using hz) _) (fun hh => ?_)
        have hHeld := hh (by decide)
        clear hK K hh
        try simp only [Act.put, List.getElem_toArray, List.getElem_cons_zero, List.getElem_cons_succ, List.setIfInBounds_toArray, List.set_cons_zero, List.set_cons_succ]
        refine Still.all (rs := [9]) (by kernel_rfl) (by simp) (Still.one (i := 9) rfl rfl (fun K hK => ?_) (by simp))
        refine wp_append_lit (.tmp 43) (.tmp 49) 33 rfl wr.heap.size 3 i0 _ 1 8 Tryz.underlying33 hi0 hz0 hz1 hz2 rfl (by decide) wr.heap.size (by first | rfl | simp [Act.eval, Act.put]) (Rw.new _ 3 _ rfl) (Nat.le_refl _) (.slice na ln.length nc) ln.length (ints ln) (by first | rfl | simp [Act.eval, Act.put]) (HN2.out.up ((Below.refl _ _).drew.alloc (Nat.le_refl _) _)) (ints_cell ln) (by unfold maxLen; omega) (by omega) ?_
        intro v' W2 hown hb2 hat2
        obtain ⟨a2, c2, rfl⟩ := own_form hown
        have hob := own_block hown
        have hol2 := own_lt hown
        have bW : Below wr.heap.size wr W2 := Below.trans ((Below.refl _ _).drew.alloc (Nat.le_refl _) _) (hb2.mono (by simp))
        have z2 := bW.size
        have CP3 := Lib.hid (CP.out.up bW)
        have S2 := Lib.hid (own_sl hown)
        refine hK _ _ (fun _ => bW.mono (by omega)) (fun hh => ?_)
        have hHeld := hh (by decide)
        clear hK K hh
        try simp only [Act.put, List.getElem_toArray, List.getElem_cons_zero, List.getElem_cons_succ, List.setIfInBounds_toArray, List.set_cons_zero, List.set_cons_succ]
        clear hown hb2 hat2
        refine Still.takeBy (i := 10) [] (v := ?v19) (by kernel_rfl) (by kernel_rfl) rfl (by kernel_rfl) (by kernel_rfl) (by kernel_rfl) (fun _ _ _ h => h) (Or.inl ⟨by rfl, ?y19⟩) hHeld ?r19
        case y19 => (intro w' hSw; (try dsimp only at hSw); clear hSw; go_simp; try with_reducible rfl)
        simp only [Act.put, List.getElem_toArray, List.getElem_cons_zero, List.getElem_cons_succ, List.setIfInBounds_toArray, List.set_cons_zero, List.set_cons_succ]
        refine Still.all (rs := [11]) (by kernel_rfl) (by simp) (Still.one (i := 11) rfl rfl (fun K hK => ?_) (by simp))
        go_simp
        refine hK _ _ (fun _ => Below.alloc (bW.mono (by omega)) (by omega) _) (fun hh => ?_)
        have hHeld := hh (by decide)
        clear hK K hh
        try simp only [Act.put, List.getElem_toArray, List.getElem_cons_zero, List.getElem_cons_succ, List.setIfInBounds_toArray, List.set_cons_zero, List.set_cons_succ]
        have IN : In (B9 + 1) 0 (W2.alloc (.cells #[.slice a2 ln.length c2] 81)) (.slice none 0 0) (.slice a3 ls.length c3) (.slice a2 ln.length c2) := fun x e => by
          have h1 := hob x e
          have h2 := hol2 x e
          refine ⟨by omega, by simp; omega, fun e' => (by cases e'), fun e' => ?_⟩
          have := (HVL.out x e').2; omega
        obtain ⟨vs, hvs, hadd⟩ := (CP3.out.n.alloc (.cells #[.slice a2 ln.length c2] 81)).addL ln (.slice a2 ln.length c2) (S2.out.up ((Below.refl _ _).alloc (Nat.le_refl _) _)) IN
        refine Still.all (rs := [12]) (by kernel_rfl) (by simp) (Still.one (i := 12) rfl rfl (fun K hK => ?_) (by simp))
        refine wp_append_lies _ (.tmp 42) (.tmp 52) 28 rfl (B9 + 1) 81 i2 _ 1 24 Tryz.underlying28 hi2 hx0 hx1 hx2 rfl (by decide) (.slice a3 ls.length c3) ls.length vs (by first | rfl | simp [Act.eval, Act.put]) hvs ⟨W2.heap.size, 0, none⟩ 1 1 [.slice a2 ln.length c2] (by first | rfl | simp [Act.eval, Act.put]) rfl (new_range _ _ #[.slice a2 ln.length c2] _ rfl) (fun u hu => by simp at hu; subst hu; rfl) (by decide) (by have := HLL.out; unfold maxLen; omega) (by have := HLL.out; omega) (by simp; omega) _ rfl ?_
        intro g4 cap4 W4 hown hgrow hat hg4
        have hatt : (Value.slice a3 ls.length c3).ownBlock = (Value.slice (some ⟨g4, 0, none⟩) (ls.length + 1) cap4).ownBlock ∨ ∃ g, (Value.slice (some ⟨g4, 0, none⟩) (ls.length + 1) cap4).ownBlock = some g ∧ (W2.alloc (.cells #[.slice a2 ln.length c2] 81)).heap.size ≤ g := hat.imp (fun e => e) (fun e => ⟨g4, rfl, by rw [e]; simp⟩)
        have hn4 := hadd _ W4 hown hgrow hatt
        have hltL := CP3.out.n.ltL
        obtain ⟨hC5, hr5⟩ := (CP3.out.up (wr' := W2.alloc (.cells #[.slice a2 ln.length c2] 81)) ((Below.refl _ _).alloc (Nat.le_refl _) _)).growL hgrow hatt hn4
        have C5 := Lib.hid hC5
        have bS : Below (B9 + 1) wr W4 := Below.grown (Below.alloc (bW.mono (by omega)) (by omega) _) hgrow (by simp; omega) (fun k e => (hltL k e).1)
        have q5 := hr5.cell (j := 16) (v := .slice a3 ls.length c3) rfl
        have f5 := hr5.fr 16
        clear hown hgrow hat hn4 hC5 hvs hadd IN hr5 hltL hatt
        refine hK _ _ (fun _ => bS) (fun hh => ?_)
        have hHeld := hh (by decide)
        clear hK K hh
        try simp only [Act.put, List.getElem_toArray, List.getElem_cons_zero, List.getElem_cons_succ, List.setIfInBounds_toArray, List.set_cons_zero, List.set_cons_succ]
        clear bS bW
        refine Still.takeBy (i := 13) [] (v := ?v20) (by kernel_rfl) (by kernel_rfl) rfl (by kernel_rfl) (by kernel_rfl) (by kernel_rfl) (fun _ _ _ h => h) (Or.inl ⟨by rfl, ?y20⟩) hHeld ?r20
        case y20 => (intro w' hSw; (try dsimp only at hSw); clear hSw; go_simp; try with_reducible rfl)
        simp only [Act.put, List.getElem_toArray, List.getElem_cons_zero, List.getElem_cons_succ, List.setIfInBounds_toArray, List.set_cons_zero, List.set_cons_succ]
        refine Still.all (rs := [14]) (by kernel_rfl) (by simp) (Still.one (i := 14) rfl rfl (fun K hK => ?_) (by simp))
        clear hHeld
        go_simp
        refine hK _ _ (fun h => absurd rfl h) (fun _ => ?_)
        clear hK K
        refine Still.over (by kernel_rfl) ?_ _
        clear q5 f5
        go_wp2
        go_roundw
        case rel => exact ⟨k + 1, by go_num, by omega, Lib.hid ⟨_, by rw [HST.out]; exact C5.out⟩⟩
        case measure => simp [intOf]; omega
      | false =>
        cases h2b : (tt == (pn : Int)) with
        | true =>
          rw [h1b, h2b] at HST
          simp only [Bool.false_or, if_true] at HST
          go_wp2
          clear h1b h2b
          have HVL := Lib.hid CP.out.n.ltL
          clear k1 x1 x2
          refine region_still (S := fun w' => Below (B9 + 1) wr w') 14 (by kernel_rfl) (Below.refl _ _).drew (fun hHeld => ?_)
          refine Still.takeBy (i := 0) [] (v := ?v51) (by kernel_rfl) (by kernel_rfl) rfl (by kernel_rfl) (by kernel_rfl) (by kernel_rfl) (fun _ _ _ h => h) (Or.inl ⟨by rfl, ?y51⟩) hHeld ?r51
          case y51 => (intro w' hSw; (try dsimp only at hSw); have y1 := (CP.out.r9.up hSw (by omega)).cell (j := 16) (v := .slice a3 ls.length c3) rfl; have y2 := (CP.out.r4.up hSw (by omega)).cell (j := 2) (v := .slice (some ⟨lb, lo, none⟩) D.lines.length lc) rfl; have y3 := bcl hSw (by have := CP.out.d.size; omega) HN1.out; clear hSw; go_simp; try with_reducible rfl)
          simp only [Act.put, List.getElem_toArray, List.getElem_cons_zero, List.getElem_cons_succ, List.setIfInBounds_toArray, List.set_cons_zero, List.set_cons_succ]
          refine Still.takeBy (i := 1) [] (v := ?v52) (by kernel_rfl) (by kernel_rfl) rfl (by kernel_rfl) (by kernel_rfl) (by kernel_rfl) (fun _ _ _ h => h) (Or.inl ⟨by rfl, ?y52⟩) hHeld ?r52
          case y52 => (intro w' hSw; (try dsimp only at hSw); have y1 := (CP.out.r9.up hSw (by omega)).cell (j := 16) (v := .slice a3 ls.length c3) rfl; have y2 := (CP.out.r4.up hSw (by omega)).cell (j := 2) (v := .slice (some ⟨lb, lo, none⟩) D.lines.length lc) rfl; have y3 := bcl hSw (by have := CP.out.d.size; omega) HN1.out; clear hSw; go_simp; try with_reducible rfl)
          simp only [Act.put, List.getElem_toArray, List.getElem_cons_zero, List.getElem_cons_succ, List.setIfInBounds_toArray, List.set_cons_zero, List.set_cons_succ]
          refine Still.takeBy (i := 3) [] (v := ?v53) (by kernel_rfl) (by kernel_rfl) rfl (by kernel_rfl) (by kernel_rfl) (by kernel_rfl) (fun _ _ _ h => h) (Or.inl ⟨by rfl, ?y53⟩) hHeld ?r53
          case y53 => (intro w' hSw; (try dsimp only at hSw); have y1 := (CP.out.r9.up hSw (by omega)).cell (j := 16) (v := .slice a3 ls.length c3) rfl; have y2 := (CP.out.r4.up hSw (by omega)).cell (j := 2) (v := .slice (some ⟨lb, lo, none⟩) D.lines.length lc) rfl; have y3 := bcl hSw (by have := CP.out.d.size; omega) HN1.out; clear hSw; go_simp; try with_reducible rfl)
          simp only [Act.put, List.getElem_toArray, List.getElem_cons_zero, List.getElem_cons_succ, List.setIfInBounds_toArray, List.set_cons_zero, List.set_cons_succ]
          refine Still.takeBy (i := 4) [] (v := ?v54) (by kernel_rfl) (by kernel_rfl) rfl (by kernel_rfl) (by kernel_rfl) (by kernel_rfl) (fun _ _ _ h => h) (Or.inl ⟨by rfl, ?y54⟩) hHeld ?r54
          case y54 => (intro w' hSw; (try dsimp only at hSw); have y1 := (CP.out.r9.up hSw (by omega)).cell (j := 16) (v := .slice a3 ls.length c3) rfl; have y2 := (CP.out.r4.up hSw (by omega)).cell (j := 2) (v := .slice (some ⟨lb, lo, none⟩) D.lines.length lc) rfl; have y3 := bcl hSw (by have := CP.out.d.size; omega) HN1.out; clear hSw; go_simp; try with_reducible rfl)
          simp only [Act.put, List.getElem_toArray, List.getElem_cons_zero, List.getElem_cons_succ, List.setIfInBounds_toArray, List.set_cons_zero, List.set_cons_succ]
          refine Still.takeBy (i := 5) [] (v := ?v55) (by kernel_rfl) (by kernel_rfl) rfl (by kernel_rfl) (by kernel_rfl) (by kernel_rfl) (fun _ _ _ h => h) (Or.inl ⟨by rfl, ?y55⟩) hHeld ?r55
          case y55 => (intro w' hSw; (try dsimp only at hSw); have y1 := (CP.out.r9.up hSw (by omega)).cell (j := 16) (v := .slice a3 ls.length c3) rfl; have y2 := (CP.out.r4.up hSw (by omega)).cell (j := 2) (v := .slice (some ⟨lb, lo, none⟩) D.lines.length lc) rfl; have y3 := bcl hSw (by have := CP.out.d.size; omega) HN1.out; clear hSw; go_simp; try with_reducible rfl)
          simp only [Act.put, List.getElem_toArray, List.getElem_cons_zero, List.getElem_cons_succ, List.setIfInBounds_toArray, List.set_cons_zero, List.set_cons_succ]
          refine Still.takeBy (i := 6) [] (v := ?v56) (by kernel_rfl) (by kernel_rfl) rfl (by kernel_rfl) (by kernel_rfl) (by kernel_rfl) (fun _ _ _ h => h) (Or.inl ⟨by rfl, ?y56⟩) hHeld ?r56
          case y56 => (intro w' hSw; (try dsimp only at hSw); have y1 := (CP.out.r9.up hSw (by omega)).cell (j := 16) (v := .slice a3 ls.length c3) rfl; have y2 := (CP.out.r4.up hSw (by omega)).cell (j := 2) (v := .slice (some ⟨lb, lo, none⟩) D.lines.length lc) rfl; have y3 := bcl hSw (by have := CP.out.d.size; omega) HN1.out; clear hSw; go_simp; try with_reducible rfl)
          simp only [Act.put, List.getElem_toArray, List.getElem_cons_zero, List.getElem_cons_succ, List.setIfInBounds_toArray, List.set_cons_zero, List.set_cons_succ]
          refine Still.takeBy (i := 7) [] (v := ?v57) (by kernel_rfl) (by kernel_rfl) rfl (by kernel_rfl) (by kernel_rfl) (by kernel_rfl) (fun _ _ _ h => h) (Or.inl ⟨by rfl, ?y57⟩) hHeld ?r57
          case y57 => (intro w' hSw; (try dsimp only at hSw); have y1 := (CP.out.r9.up hSw (by omega)).cell (j := 16) (v := .slice a3 ls.length c3) rfl; have y2 := (CP.out.r4.up hSw (by omega)).cell (j := 2) (v := .slice (some ⟨lb, lo, none⟩) D.lines.length lc) rfl; have y3 := bcl hSw (by have := CP.out.d.size; omega) HN1.out; clear hSw; go_simp; try with_reducible rfl)
          simp only [Act.put, List.getElem_toArray, List.getElem_cons_zero, List.getElem_cons_succ, List.setIfInBounds_toArray, List.set_cons_zero, List.set_cons_succ]
          refine Still.takeBy (i := 8) [] (v := ?v58) (by kernel_rfl) (by kernel_rfl) rfl (by kernel_rfl) (by kernel_rfl) (by kernel_rfl) (fun _ _ _ h => h) (Or.inl ⟨by rfl, ?y58⟩) hHeld ?r58
          case y58 => (intro w' hSw; (try dsimp only at hSw); have y1 := (CP.out.r9.up hSw (by omega)).cell (j := 16) (v := .slice a3 ls.length c3) rfl; have y2 := (CP.out.r4.up hSw (by omega)).cell (j := 2) (v := .slice (some ⟨lb, lo, none⟩) D.lines.length lc) rfl; have y3 := bcl hSw (by have := CP.out.d.size; omega) HN1.out; clear hSw; go_simp; try with_reducible rfl)
          simp only [Act.put, List.getElem_toArray, List.getElem_cons_zero, List.getElem_cons_succ, List.setIfInBounds_toArray, List.set_cons_zero, List.set_cons_succ]
          refine Still.all (rs := [2]) (by kernel_rfl) (by simp) (Still.one (i := 2) rfl rfl (fun K hK => ?_) (by simp))
          go_simp
          refine hK _ _ (fun _ => Below.alloc (Below.refl _ _).drew (by simpa using hz) _) (fun hh => ?_)
          have hHeld := hh (by decide)
          clear hK K hh
          try simp only [Act.put, List.getElem_toArray, List.getElem_cons_zero, List.getElem_cons_succ, List.setIfInBounds_toArray, List.set_cons_zero, List.set_cons_succ]
          refine Still.all (rs := [9]) (by kernel_rfl) (by simp) (Still.one (i := 9) rfl rfl (fun K hK => ?_) (by simp))
          refine wp_append_lit (.tmp 43) (.tmp 49) 33 rfl wr.heap.size 3 i0 _ 1 8 Tryz.underlying33 hi0 hz0 hz1 hz2 rfl (by decide) wr.heap.size (by first | rfl | simp [Act.eval, Act.put]) (Rw.new _ 3 _ rfl) (Nat.le_refl _) (.slice na ln.length nc) ln.length (ints ln) (by first | rfl | simp [Act.eval, Act.put]) (HN2.out.up ((Below.refl _ _).drew.alloc (Nat.le_refl _) _)) (ints_cell ln) (by unfold maxLen; omega) (by omega) ?_
          intro v' W2 hown hb2 hat2
          obtain ⟨a2, c2, rfl⟩ := own_form hown
          have hob := own_block hown
          have hol2 := own_lt hown
          have bW : Below wr.heap.size wr W2 := Below.trans ((Below.refl _ _).drew.alloc (Nat.le_refl _) _) (hb2.mono (by simp))
          have z2 := bW.size
          have CP3 := Lib.hid (CP.out.up bW)
          have S2 := Lib.hid (own_sl hown)
          refine hK _ _ (fun _ => bW.mono (by omega)) (fun hh => ?_)
          have hHeld := hh (by decide)
          clear hK K hh
          try simp only [Act.put, List.getElem_toArray, List.getElem_cons_zero, List.getElem_cons_succ, List.setIfInBounds_toArray, List.set_cons_zero, List.set_cons_succ]
          clear hown hb2 hat2
          refine Still.takeBy (i := 10) [] (v := ?v59) (by kernel_rfl) (by kernel_rfl) rfl (by kernel_rfl) (by kernel_rfl) (by kernel_rfl) (fun _ _ _ h => h) (Or.inl ⟨by rfl, ?y59⟩) hHeld ?r59
          case y59 => (intro w' hSw; (try dsimp only at hSw); clear hSw; go_simp; try with_reducible rfl)
          simp only [Act.put, List.getElem_toArray, List.getElem_cons_zero, List.getElem_cons_succ, List.setIfInBounds_toArray, List.set_cons_zero, List.set_cons_succ]
          refine Still.all (rs := [11]) (by kernel_rfl) (by simp) (Still.one (i := 11) rfl rfl (fun K hK => ?_) (by simp))
          go_simp
          refine hK _ _ (fun _ => Below.alloc (bW.mono (by omega)) (by omega) _) (fun hh => ?_)
          have hHeld := hh (by decide)
          clear hK K hh
          try simp only [Act.put, List.getElem_toArray, List.getElem_cons_zero, List.getElem_cons_succ, List.setIfInBounds_toArray, List.set_cons_zero, List.set_cons_succ]
          have IN : In (B9 + 1) 0 (W2.alloc (.cells #[.slice a2 ln.length c2] 81)) (.slice none 0 0) (.slice a3 ls.length c3) (.slice a2 ln.length c2) := fun x e => by
            have h1 := hob x e
            have h2 := hol2 x e
            refine ⟨by omega, by simp; omega, fun e' => (by cases e'), fun e' => ?_⟩
            have := (HVL.out x e').2; omega
          obtain ⟨vs, hvs, hadd⟩ := (CP3.out.n.alloc (.cells #[.slice a2 ln.length c2] 81)).addL ln (.slice a2 ln.length c2) (S2.out.up ((Below.refl _ _).alloc (Nat.le_refl _) _)) IN
          refine Still.all (rs := [12]) (by kernel_rfl) (by simp) (Still.one (i := 12) rfl rfl (fun K hK => ?_) (by simp))
          refine wp_append_lies _ (.tmp 42) (.tmp 52) 28 rfl (B9 + 1) 81 i2 _ 1 24 Tryz.underlying28 hi2 hx0 hx1 hx2 rfl (by decide) (.slice a3 ls.length c3) ls.length vs (by first | rfl | simp [Act.eval, Act.put]) hvs ⟨W2.heap.size, 0, none⟩ 1 1 [.slice a2 ln.length c2] (by first | rfl | simp [Act.eval, Act.put]) rfl (new_range _ _ #[.slice a2 ln.length c2] _ rfl) (fun u hu => by simp at hu; subst hu; rfl) (by decide) (by have := HLL.out; unfold maxLen; omega) (by have := HLL.out; omega) (by simp; omega) _ rfl ?_
          intro g4 cap4 W4 hown hgrow hat hg4
          have hatt : (Value.slice a3 ls.length c3).ownBlock = (Value.slice (some ⟨g4, 0, none⟩) (ls.length + 1) cap4).ownBlock ∨ ∃ g, (Value.slice (some ⟨g4, 0, none⟩) (ls.length + 1) cap4).ownBlock = some g ∧ (W2.alloc (.cells #[.slice a2 ln.length c2] 81)).heap.size ≤ g := hat.imp (fun e => e) (fun e => ⟨g4, rfl, by rw [e]; simp⟩)
          have hn4 := hadd _ W4 hown hgrow hatt
          have hltL := CP3.out.n.ltL
          obtain ⟨hC5, hr5⟩ := (CP3.out.up (wr' := W2.alloc (.cells #[.slice a2 ln.length c2] 81)) ((Below.refl _ _).alloc (Nat.le_refl _) _)).growL hgrow hatt hn4
          have C5 := Lib.hid hC5
          have bS : Below (B9 + 1) wr W4 := Below.grown (Below.alloc (bW.mono (by omega)) (by omega) _) hgrow (by simp; omega) (fun k e => (hltL k e).1)
          have q5 := hr5.cell (j := 16) (v := .slice a3 ls.length c3) rfl
          have f5 := hr5.fr 16
          clear hown hgrow hat hn4 hC5 hvs hadd IN hr5 hltL hatt
          refine hK _ _ (fun _ => bS) (fun hh => ?_)
          have hHeld := hh (by decide)
          clear hK K hh
          try simp only [Act.put, List.getElem_toArray, List.getElem_cons_zero, List.getElem_cons_succ, List.setIfInBounds_toArray, List.set_cons_zero, List.set_cons_succ]
          clear bS bW
          refine Still.takeBy (i := 13) [] (v := ?v60) (by kernel_rfl) (by kernel_rfl) rfl (by kernel_rfl) (by kernel_rfl) (by kernel_rfl) (fun _ _ _ h => h) (Or.inl ⟨by rfl, ?y60⟩) hHeld ?r60
          case y60 => (intro w' hSw; (try dsimp only at hSw); clear hSw; go_simp; try with_reducible rfl)
          simp only [Act.put, List.getElem_toArray, List.getElem_cons_zero, List.getElem_cons_succ, List.setIfInBounds_toArray, List.set_cons_zero, List.set_cons_succ]
          refine Still.all (rs := [14]) (by kernel_rfl) (by simp) (Still.one (i := 14) rfl rfl (fun K hK => ?_) (by simp))
          clear hHeld
          go_simp
          refine hK _ _ (fun h => absurd rfl h) (fun _ => ?_)
          clear hK K
          refine Still.over (by kernel_rfl) ?_ _
          clear q5 f5
          go_wp2
          go_roundw
          case rel => exact ⟨k + 1, by go_num, by omega, Lib.hid ⟨_, by rw [HST.out]; exact C5.out⟩⟩
          case measure => simp [intOf]; omega
        | false =>
          rw [h1b, h2b] at HST
          simp only [Bool.or_false, Bool.false_eq_true, if_false, List.append_nil] at HST
          go_wp2
          go_roundw
          case rel => exact ⟨k + 1, by go_num, by omega, Lib.hid ⟨_, by rw [HST.out]; exact CP.out⟩⟩
          case measure => simp [intOf]; omega
    · have hli : ¬ (k : Int) < S.chans.length := by omega
      have hle : viewL S.chans D.lines pn = ls := by rw [← HLK.out, List.take_of_length_le (by omega), List.take_of_length_le (by omega)]
      rw [hle] at HVE
      obtain rfl := HVE.out
      have hlb3 := CP.out.lb
      clear HLK
      go_wp2_with (first | (refine wpList_load_row rfl 37 (.tmp 7) rfl B9 rfl 37 _ (0, 0) _ CP.out.r9 Tryz.underlying37 rfl sizeView ?_) | (refine wpList_store_row rfl 37 (.tmp 6) (.tmp 55) rfl (w.heap.size + 1 + 1) (vwC c (.slice a4 out.length c4) (.slice a3 ls.length c3)) rfl rfl 37 _ CP.out.r6 sizeView rfl (vwC_one _ _ _ rfl rfl) ?_))
      exact bodyPost_ret (results_cell_row Tryz.results12 _ _ (w.heap.size + 1 + 1) 37 _ (0, 0) _ rfl (CP.out.r6.row _) Tryz.underlying37 rfl sizeView) rfl ⟨_, _, rfl, CP.out.done _, below_row CP.out.d (by omega) _⟩
theorem vw_range {w : World} {g : Nat} {c : Cel} {o l : Value} (h : Rw w g 37 (vwC c o l)) : w.rangeAt g 0 (c.cs o).toList := fun j v hj => by
  rw [Nat.zero_add]
  refine h.cell (j := j) (v := v) ?_
  have hj16 : j < 16 := by have := (List.getElem?_eq_some_iff.1 hj).1; simpa [Cel.cs] using this
  match j, hj16 with
  | 0, _ => exact hj
  | 1, _ => exact hj
  | 2, _ => exact hj
  | 3, _ => exact hj
  | 4, _ => exact hj
  | 5, _ => exact hj
  | 6, _ => exact hj
  | 7, _ => exact hj
  | 8, _ => exact hj
  | 9, _ => exact hj
  | 10, _ => exact hj
  | 11, _ => exact hj
  | 12, _ => exact hj
  | 13, _ => exact hj
  | 14, _ => exact hj
  | 15, _ => exact hj
set_option maxRecDepth 100000 in
set_option maxHeartbeats 4000000 in
theorem sameViews_yes (V : ViwD) (h1 : V.d.out.length ≤ 1000) (h2 : V.ls.length ≤ 1000) (h3 : ∀ k (h : k < V.ls.length), V.ls[k].length ≤ 1000) (n m : Nat) (o l o' l' : Value) (w : World) (hA : VwR n w o l V) (hB : VwR m w o' l' V) :
    Calls Tryz.prog 14 #[.agg (vwC V.d.c o l), .agg (vwC V.d.c o' l')] w fun e w' => e = .returned (.bool true) ∧ Below w.heap.size w w' := by
  obtain ⟨oa, oc, rfl⟩ := hA.so.form
  obtain ⟨pa, pc, rfl⟩ := hB.so.form
  obtain ⟨la, lc, rfl⟩ := hA.l.form
  obtain ⟨ma, mc, rfl⟩ := hB.l.form
  have HA := Lib.hid hA
  have HB := Lib.hid hB
  have H3 := Lib.hid h3
  clear hA hB h3
  go_enter Tryz.func14, Tryz.ntmps14
  go_upto_region 1 with fail
  generalize hX : World.alloc _ _ = X
  have hXX : X = (w.alloc (.cells (vwC V.d.c (.slice oa V.d.out.length oc) (.slice la V.ls.length lc)) 37)).alloc (.cells (vwC V.d.c (.slice pa V.d.out.length pc) (.slice ma V.ls.length mc)) 37) := by rw [← hX]
  have hzX : X.heap.size = w.heap.size + 2 := by rw [hXX]; simp
  have d0 : Below w.heap.size w X := by rw [hXX]; exact (by repeat (first | exact Below.refl _ _ | assumption | refine Below.drew ?_ | refine Below.alloc ?_ (by first | (simp; done) | (simp; omega)) _ | refine Below.setCell ?_ (by first | (simp; done) | (simp; omega)) _))
  have RA : Hid (Rw X w.heap.size 37 (vwC V.d.c (.slice oa V.d.out.length oc) (.slice la V.ls.length lc))) := Lib.hid (by rw [hXX]; exact (by repeat (first | exact Rw.new _ _ _ (by first | rfl | (simp; done) | omega | (simp; omega)) | refine Rw.alloc ?_ _)))
  have RB : Hid (Rw X (w.heap.size + 1) 37 (vwC V.d.c (.slice pa V.d.out.length pc) (.slice ma V.ls.length mc))) := Lib.hid (by rw [hXX]; exact (by repeat (first | exact Rw.new _ _ _ (by first | rfl | (simp; done) | omega | (simp; omega)) | refine Rw.alloc ?_ _)))
  have D0 := Lib.hid d0
  clear hX hXX d0
  go_wp2_with (first | (refine wpList_load_midA rfl 35 (.tmp 5) rfl w.heap.size 0 rfl (V.d.c.cs (.slice oa V.d.out.length oc)) _ (vw_range RA.out) Tryz.underlying35 rfl sizeCell ?_) | (refine wpList_load_midA rfl 35 (.tmp 7) rfl (w.heap.size + 1) 0 rfl (V.d.c.cs (.slice pa V.d.out.length pc)) _ (vw_range RB.out) Tryz.underlying35 rfl sizeCell ?_))
  refine (sameCells_agg V.d.c V.d.out _ _ _ (HA.out.so.up D0.out) (HB.out.so.up D0.out) (by omega)).mono ?_
  rintro e w1 ⟨rfl, b1⟩
  have z1 := b1.size
  have k0 := (RA.out.up b1 (by omega)).cell (j := 16) (v := .slice la V.ls.length lc) rfl
  have k1 := (RB.out.up b1 (by omega)).cell (j := 16) (v := .slice ma V.ls.length mc) rfl
  have D1 := Lib.hid (D0.out.trans (b1.mono (by omega)))
  clear b1 RA RB D0
  go_wp2_with fail
  refine (sameLines_yes V.ls _ _ h2 H3.out _ (HA.out.l.up D1.out) (HB.out.l.up D1.out)).mono ?_
  rintro e w2 ⟨rfl, b2⟩
  have D2 := Lib.hid (D1.out.trans (b2.mono D1.out.size))
  clear b2 k0 k1
  go_wp2
  go_ret
  exact ⟨rfl, D2.out⟩
end Go.Proofs.YtehhhiodfcdnmaaGreatDoor

namespace Go.Proofs.YtehhhiodfcdnmaaGreatDoor
set_option linter.unusedSimpArgs false
set_option linter.unusedVariables false
open Go.RowKit Go.Sort
def runE (S : SysD) (n : Int) : Int := if chkS S ≠ 0 then chkS S else if withinB n 0 300 then 0 else 3
def runR (S : SysD) (n : Int) : WldD := if runE S n = 0 then runN S n.toNat (beginC S) else wldZ
theorem runE_zero {S : SysD} {n : Int} (h : runE S n = 0) : chkS S = 0 ∧ 0 ≤ n ∧ n ≤ 300 := by
  unfold runE at h
  split at h
  · exact absurd h (by assumption)
  · rename_i h1
    split at h
    · rename_i h2
      unfold withinB at h2
      rw [Bool.and_eq_true, decide_eq_true_eq, decide_eq_true_eq] at h2
      exact ⟨by simpa using h1, h2⟩
    · omega
theorem runE_right {S : SysD} {n : Int} (hk : chkS S = 0) (h0 : 0 ≤ n) (h1 : n ≤ 300) : runE S n = 0 := by
  unfold runE
  rw [if_neg (by simpa using hk), if_pos]
  unfold withinB
  rw [Bool.and_eq_true, decide_eq_true_eq, decide_eq_true_eq]
  exact ⟨h0, h1⟩
structure RnS (w W : World) (g : Nat) (vp vc vs : Value) (D : WldD) : Prop where
  d : Below w.heap.size w W
  r0 : Rw W w.heap.size 26 #[vp, vc, vs]
  rb : Rw W (w.heap.size + 1) 30 #[.int .i64 0, .slice none 0 0, .slice none 0 0]
  r1 : ∃ ua uc la lc, Rw W g 30 #[.int .i64 D.tick, .slice ua D.cells.length uc, .slice la D.lines.length lc] ∧ WldF (w.heap.size + 2) W (.slice ua D.cells.length uc) (.slice la D.lines.length lc) D
  g0 : w.heap.size + 2 ≤ g
set_option maxRecDepth 100000 in
set_option maxHeartbeats 8000000 in
theorem kernRun_any (S : SysD) (n : Int) (vp vc vs : Value) (w : World) (he : Env w) (hS : Sys w vp vc vs S) (e0 : Int) (hk : runE S n = e0) (D' : WldD) (hD : runR S n = D') :
    Calls Tryz.prog 39 #[.agg #[vp, vc, vs], .int .i64 n] w fun e w' => ∃ xc xl, e = .returned (.tuple #[.agg #[.int .i64 D'.tick, xc, xl], .int .i64 e0]) ∧ WldF w.heap.size w' xc xl D' ∧ Below w.heap.size w w' := by
  obtain ⟨pa, pc, rfl⟩ := hS.p.form
  obtain ⟨ka, kc, rfl⟩ := hS.c.form
  obtain ⟨sa, sc, rfl⟩ := hS.s.form
  obtain ⟨c0, hc0⟩ : ∃ c0, chkS S = c0 := ⟨_, rfl⟩
  obtain ⟨B, hB⟩ : ∃ B, beginR S = B := ⟨_, rfl⟩
  have HC := Lib.hid fun w he hS => kernBegin_any S (.slice pa S.parts.length pc) (.slice ka S.chans.length kc) (.slice sa S.slots.length sc) w he hS c0 hc0 B hB
  have HE := Lib.hid he
  have HS := Lib.hid hS
  clear he hS
  by_cases h0 : c0 = 0
  · subst h0
    obtain rfl : beginC S = B := by rw [← hB, beginR, if_pos hc0]
    have HI := Lib.hid fun V => isRun_any n V
    have HRT := Lib.hid (begin_right hc0)
    cases hn : withinB n 0 300
    · have hw3 : runE S n = 3 := by unfold runE; rw [hc0, if_neg (by simp), hn]; rfl
      obtain rfl : e0 = 3 := by rw [← hk, hw3]
      have HD : Hid (wldZ = D') := by
        show _ = _
        rw [← hD, runR, if_neg (by rw [hw3]; decide)]
      rw [hn] at HI
      clear hk hD hw3 hc0 hn hB HRT
      go_enter Tryz.func39, Tryz.ntmps39
      go_wp2_with fail
      refine (HC.out _ (HE.out.up (by repeat (first | exact Below.refl _ _ | assumption | refine Below.drew ?_ | refine Below.alloc ?_ (by first | (simp; done) | (simp; omega)) _ | refine Below.setCell ?_ (by first | (simp; done) | (simp; omega)) _))) (HS.out.up (by repeat (first | exact Below.refl _ _ | assumption | refine Below.drew ?_ | refine Below.alloc ?_ (by first | (simp; done) | (simp; omega)) _ | refine Below.setCell ?_ (by first | (simp; done) | (simp; omega)) _)))).mono ?_
      rintro e w1 ⟨xc, xl, rfl, hN, b1⟩
      obtain ⟨a5, c5, rfl⟩ := hN.wld.c.form
      obtain ⟨a6, c6, rfl⟩ := hN.wld.l.form
      have z1 := b1.size
      simp at z1
      have RB : Hid (Rw w1 (w.heap.size + 1) 30 #[.int .i64 0, .slice none 0 0, .slice none 0 0]) := Rw.up (by repeat (first | exact Rw.new _ _ _ (by first | rfl | (simp; done) | omega | (simp; omega)) | refine Rw.alloc ?_ _)) b1 (by first | omega | (simp; done) | (simp; omega))
      have HB : Hid (Below w.heap.size w w1) := by
        refine Below.trans ?_ (b1.mono (by first | omega | (simp; done) | (simp; omega)))
        exact (by repeat (first | exact Below.refl _ _ | assumption | refine Below.drew ?_ | refine Below.alloc ?_ (by first | (simp; done) | (simp; omega)) _ | refine Below.setCell ?_ (by first | (simp; done) | (simp; omega)) _))
      clear b1 HC hN
      go_wp2_with (refine wpList_store_rowW rfl 30 (.tmp 6) (.tmp 11) rfl w1.heap.size #[.int .i64 (beginC S).tick, .slice a5 (beginC S).cells.length c5, .slice a6 (beginC S).lines.length c6] rfl rfl 30 #[.int .i64 0, .slice none 0 0, .slice none 0 0] (by repeat (first | exact Rw.new _ _ _ (by first | rfl | (simp; done) | omega | (simp; omega)) | refine Rw.alloc ?_ _)) sizeWld rfl (world_one _ _ _ _ _ _ _) ?_)
      intro W HW1
      have RB2 : Hid (Rw W (w.heap.size + 1) 30 #[.int .i64 0, .slice none 0 0, .slice none 0 0]) := by
        show Rw _ _ _ _
        rw [HW1.out]
        exact (RB.out.up ((Below.refl _ _).alloc (Nat.le_refl _) _) (by omega)).row_other _ (by omega)
      have HB2 : Hid (Below w.heap.size w W) := by
        show Below _ _ _
        rw [HW1.out]
        exact below_row (HB.out.alloc (by omega) _) (by omega) _
      clear HW1 RB HB
      go_wp2_with (first | (go_at_call 73; refine (HI.out _).mono ?_; rintro e w2 ⟨rfl, rfl⟩) | (refine wpList_store_row rfl 30 (.tmp 4) (.tmp 20) rfl (w.heap.size + 1) #[.int .i64 0, .slice none 0 0, .slice none 0 0] rfl rfl 30 #[.int .i64 0, .slice none 0 0, .slice none 0 0] RB2.out sizeWld rfl (world_one _ _ _ _ _ _ _) ?_))
      refine bodyPost_ret (results_row_tmp Tryz.results39 _ _ (w.heap.size + 1) _ _ rfl rfl (run_loadVar_row _ _ 30 _ #[.int .i64 0, .slice none 0 0, .slice none 0 0] (0, 0) _ (RB2.out.row _) Tryz.underlying30 rfl sizeWld)) rfl ⟨.slice none 0 0, .slice none 0 0, by rw [← HD.out]; rfl, by rw [← HD.out]; exact WldF.nil _ _, below_row HB2.out (by omega) _⟩
    · have hw3 : runE S n = 0 := by unfold runE; rw [hc0, if_neg (by simp), hn]; rfl
      obtain rfl : e0 = 0 := by rw [← hk, hw3]
      have HD : Hid (runN S n.toNat (beginC S) = D') := by
        show _ = _
        rw [← hD, runR, if_pos hw3]
      obtain ⟨-, hn0, hn1⟩ := runE_zero hw3
      obtain ⟨m, rfl⟩ := Int.eq_ofNat_of_zero_le hn0
      rw [hn] at HI
      have HNX := Lib.hid fun D uc ul w he hS hW hR ht => next_any S D (.slice pa S.parts.length pc) (.slice ka S.chans.length kc) (.slice sa S.slots.length sc) uc ul w he hS hW hc0 (Right.t0 (S := S) hR) ht (Right.c hR) (Right.l hR)
      have HKS := Lib.hid hc0
      clear hk hD hw3 hc0 hn hB
      go_enter Tryz.func39, Tryz.ntmps39
      go_wp2_with fail
      refine (HC.out _ (HE.out.up (by repeat (first | exact Below.refl _ _ | assumption | refine Below.drew ?_ | refine Below.alloc ?_ (by first | (simp; done) | (simp; omega)) _ | refine Below.setCell ?_ (by first | (simp; done) | (simp; omega)) _))) (HS.out.up (by repeat (first | exact Below.refl _ _ | assumption | refine Below.drew ?_ | refine Below.alloc ?_ (by first | (simp; done) | (simp; omega)) _ | refine Below.setCell ?_ (by first | (simp; done) | (simp; omega)) _)))).mono ?_
      rintro e w1 ⟨xc, xl, rfl, hN, b1⟩
      obtain ⟨a5, c5, rfl⟩ := hN.wld.c.form
      obtain ⟨a6, c6, rfl⟩ := hN.wld.l.form
      have z1 := b1.size
      simp at z1
      have R0 : Hid (Rw w1 w.heap.size 26 #[.slice pa S.parts.length pc, .slice ka S.chans.length kc, .slice sa S.slots.length sc]) := Rw.up (by repeat (first | exact Rw.new _ _ _ (by first | rfl | (simp; done) | omega | (simp; omega)) | refine Rw.alloc ?_ _)) b1 (by first | omega | (simp; done) | (simp; omega))
      have RB : Hid (Rw w1 (w.heap.size + 1) 30 #[.int .i64 0, .slice none 0 0, .slice none 0 0]) := Rw.up (by repeat (first | exact Rw.new _ _ _ (by first | rfl | (simp; done) | omega | (simp; omega)) | refine Rw.alloc ?_ _)) b1 (by first | omega | (simp; done) | (simp; omega))
      have HB : Hid (Below w.heap.size w w1) := by
        refine Below.trans ?_ (b1.mono (by first | omega | (simp; done) | (simp; omega)))
        exact (by repeat (first | exact Below.refl _ _ | assumption | refine Below.drew ?_ | refine Below.alloc ?_ (by first | (simp; done) | (simp; omega)) _ | refine Below.setCell ?_ (by first | (simp; done) | (simp; omega)) _))
      have HN := Lib.hid (hN.low (B' := w.heap.size + 2) (by simp))
      clear b1 HC hN
      go_wp2_with (refine wpList_store_rowW rfl 30 (.tmp 6) (.tmp 11) rfl w1.heap.size #[.int .i64 (beginC S).tick, .slice a5 (beginC S).cells.length c5, .slice a6 (beginC S).lines.length c6] rfl rfl 30 #[.int .i64 0, .slice none 0 0, .slice none 0 0] (by repeat (first | exact Rw.new _ _ _ (by first | rfl | (simp; done) | omega | (simp; omega)) | refine Rw.alloc ?_ _)) sizeWld rfl (world_one _ _ _ _ _ _ _) ?_)
      intro W HW1
      have hRn : RnS w W w1.heap.size (.slice pa S.parts.length pc) (.slice ka S.chans.length kc) (.slice sa S.slots.length sc) (beginC S) := by
        rw [HW1.out]
        have hb0 : Below w1.heap.size w1 (w1.alloc (.cells #[.int .i64 0, .slice none 0 0, .slice none 0 0] 30)) := (Below.refl _ _).alloc (Nat.le_refl _) _
        refine ⟨below_row (HB.out.alloc (by omega) _) (by omega) _, (R0.out.up hb0 (by omega)).row_other _ (by omega), (RB.out.up hb0 (by omega)).row_other _ (by omega), ⟨a5, c5, a6, c6, Rw.row (cs := #[.int .i64 0, .slice none 0 0, .slice none 0 0]) (by repeat (first | exact Rw.new _ _ _ (by first | rfl | (simp; done) | omega | (simp; omega)) | refine Rw.alloc ?_ _)) _, HN.out.fresh _ _⟩, by omega⟩
      have RN := Lib.hid hRn
      clear HW1 RB HB R0 hRn HN
      go_wp2_with (go_at_call 73; refine (HI.out _).mono ?_; rintro e w2 ⟨rfl, rfl⟩)
      go_loopw [22] (fun i wr => ∃ k : Nat, i = .int .i64 k ∧ k ≤ m ∧ Hid (RnS w wr w1.heap.size (.slice pa S.parts.length pc) (.slice ka S.chans.length kc) (.slice sa S.slots.length sc) (runN S k (beginC S)))) (fun i _ => m - (intOf i).toNat)
      case atStart => exact ⟨0, rfl, Nat.zero_le _, RN⟩
      case round =>
        obtain ⟨k, rfl, hk, HR⟩ := hrel
        have hR := HR.out
        clear HR RN
        by_cases hlt : k < m
        · have hli : (k : Int) < m := by omega
          obtain ⟨hrt, htk⟩ := runN_right HKS.out k HRT.out (by show (0 : Int) + k ≤ 300; omega)
          have hnr := (next_right HKS.out hrt (by rw [htk]; show (0 : Int) + k < 300; omega)).2
          have hrn := runN_last S k (beginC S)
          have ht : (runN S k (beginC S)).tick < 300 := by rw [htk]; show (0 : Int) + k < 300; omega
          generalize runN S k (beginC S) = D at hR hrt hnr hrn ht
          obtain ⟨ua, uc, la, lc, r1, hwf⟩ := hR.r1
          have q0 := r1.cell (j := 0) (v := .int .i64 D.tick) rfl
          have q1 := r1.cell (j := 1) (v := .slice ua D.cells.length uc) rfl
          have q2 := r1.cell (j := 2) (v := .slice la D.lines.length lc) rfl
          have s0 := hR.r0.cell (j := 0) (v := .slice pa S.parts.length pc) rfl
          have s1 := hR.r0.cell (j := 1) (v := .slice ka S.chans.length kc) rfl
          have s2 := hR.r0.cell (j := 2) (v := .slice sa S.slots.length sc) rfl
          have HR := Lib.hid hR
          have HWF := Lib.hid hwf
          have R1 := Lib.hid r1
          have HRT2 := Lib.hid hrt
          have HNR := Lib.hid hnr
          have HRN := Lib.hid hrn
          clear hR hwf r1 hrt hnr hrn htk
          go_wp2_with fail
          refine (HNX.out D _ _ _ (HE.out.up HR.out.d) (HS.out.up HR.out.d) HWF.out.wld HRT2.out ht).mono ?_
          rintro e w3 ⟨xc, xl, rfl, hN, b3⟩
          obtain ⟨a7, c7, rfl⟩ := hN.wld.c.form
          obtain ⟨a8, c8, rfl⟩ := hN.wld.l.form
          have HN := Lib.hid hN
          have B3 := Lib.hid b3
          clear b3 hN q0 q1 q2 s0 s1 s2
          go_wp2_with (refine wpList_store_rowW rfl 30 (.tmp 6) (.tmp 26) rfl w1.heap.size #[.int .i64 (D.tick + 1), .slice a7 (nextC S D).cells.length c7, .slice a8 (nextC S D).lines.length c8] rfl rfl 30 _ (R1.out.up B3.out R1.out.lt) sizeWld rfl (world_one _ _ _ _ _ _ _) ?_)
          intro W4 HW4
          have RN4 : Hid (RnS w W4 w1.heap.size (.slice pa S.parts.length pc) (.slice ka S.chans.length kc) (.slice sa S.slots.length sc) (nextC S D)) := by
            show RnS _ _ _ _ _ _ _
            rw [HW4.out]
            have hg := HR.out.g0
            have hl1 := R1.out.lt
            have hsz := HR.out.d.size
            refine ⟨below_row (HR.out.d.trans (B3.out.mono hsz)) (by omega) _, (HR.out.r0.up B3.out HR.out.r0.lt).row_other _ (by omega), (HR.out.rb.up B3.out HR.out.rb.lt).row_other _ (by omega), ⟨a7, c7, a8, c8, ?_, (HN.out.row (by omega) _).low (by omega)⟩, hg⟩
            rw [HNR.out]
            exact (R1.out.up B3.out R1.out.lt).row _
          clear HW4 HN B3 HR HWF R1 HRT2 HNR
          go_wp2
          go_roundw
          case rel => exact ⟨k + 1, by go_num, by omega, by rw [HRN.out]; exact RN4⟩
          case measure => simp [intOf]; omega
        · obtain rfl : k = m := by omega
          have hli : ¬ (k : Int) < k := by omega
          obtain ⟨hrt, htk⟩ := runN_right HKS.out k HRT.out (by show (0 : Int) + k ≤ 300; omega)
          have HDD := Lib.hid (show runN S k (beginC S) = D' by rw [← HD.out, Int.toNat_natCast])
          rw [HDD.out] at hR
          obtain ⟨ua, uc, la, lc, r1, hwf⟩ := hR.r1
          have HR := Lib.hid hR
          have HWF := Lib.hid hwf
          have R1 := Lib.hid r1
          have hsz := hR.d.size
          have hlb := hR.rb.lt
          clear hR hwf r1 hrt htk HDD HD
          go_wp2_with (first | (refine wpList_load_row rfl 30 (.tmp 6) rfl w1.heap.size rfl 30 _ (0, 0) _ R1.out Tryz.underlying30 rfl sizeWld ?_) | (refine wpList_store_row rfl 30 (.tmp 4) (.tmp 28) rfl (w.heap.size + 1) #[.int .i64 D'.tick, .slice ua D'.cells.length uc, .slice la D'.lines.length lc] rfl rfl 30 _ HR.out.rb sizeWld rfl (world_one _ _ _ _ _ _ _) ?_))
          refine bodyPost_ret (results_row_tmp Tryz.results39 _ _ (w.heap.size + 1) _ _ rfl rfl (run_loadVar_row _ _ 30 _ #[.int .i64 D'.tick, .slice ua D'.cells.length uc, .slice la D'.lines.length lc] (0, 0) _ (HR.out.rb.row _) Tryz.underlying30 rfl sizeWld)) rfl ⟨_, _, rfl, (HWF.out.row (by omega) _).low (by omega), below_row HR.out.d (by omega) _⟩
  · have h0' : (c0 != 0) = true := by simpa using h0
    have hw3 : runE S n = c0 := by unfold runE; rw [hc0, if_pos h0]
    obtain rfl : e0 = c0 := by rw [← hk, hw3]
    have HD : Hid (wldZ = D') := by
      show _ = _
      rw [← hD, runR, if_neg (by rw [hw3]; exact h0)]
    clear hk hD hw3 hc0 h0 hB
    go_enter Tryz.func39, Tryz.ntmps39
    go_wp2_with fail
    refine (HC.out _ (HE.out.up (by repeat (first | exact Below.refl _ _ | assumption | refine Below.drew ?_ | refine Below.alloc ?_ (by first | (simp; done) | (simp; omega)) _ | refine Below.setCell ?_ (by first | (simp; done) | (simp; omega)) _))) (HS.out.up (by repeat (first | exact Below.refl _ _ | assumption | refine Below.drew ?_ | refine Below.alloc ?_ (by first | (simp; done) | (simp; omega)) _ | refine Below.setCell ?_ (by first | (simp; done) | (simp; omega)) _)))).mono ?_
    rintro e w1 ⟨xc, xl, rfl, hN, b1⟩
    obtain ⟨a5, c5, rfl⟩ := hN.wld.c.form
    obtain ⟨a6, c6, rfl⟩ := hN.wld.l.form
    have z1 := b1.size
    simp at z1
    have RB : Hid (Rw w1 (w.heap.size + 1) 30 #[.int .i64 0, .slice none 0 0, .slice none 0 0]) := Rw.up (by repeat (first | exact Rw.new _ _ _ (by first | rfl | (simp; done) | omega | (simp; omega)) | refine Rw.alloc ?_ _)) b1 (by first | omega | (simp; done) | (simp; omega))
    have HB : Hid (Below w.heap.size w w1) := by
      refine Below.trans ?_ (b1.mono (by first | omega | (simp; done) | (simp; omega)))
      exact (by repeat (first | exact Below.refl _ _ | assumption | refine Below.drew ?_ | refine Below.alloc ?_ (by first | (simp; done) | (simp; omega)) _ | refine Below.setCell ?_ (by first | (simp; done) | (simp; omega)) _))
    clear b1 HC hN
    go_wp2_with (refine wpList_store_rowW rfl 30 (.tmp 6) (.tmp 11) rfl w1.heap.size #[.int .i64 B.tick, .slice a5 B.cells.length c5, .slice a6 B.lines.length c6] rfl rfl 30 #[.int .i64 0, .slice none 0 0, .slice none 0 0] (by repeat (first | exact Rw.new _ _ _ (by first | rfl | (simp; done) | omega | (simp; omega)) | refine Rw.alloc ?_ _)) sizeWld rfl (world_one _ _ _ _ _ _ _) ?_)
    intro W HW1
    have RB2 : Hid (Rw W (w.heap.size + 1) 30 #[.int .i64 0, .slice none 0 0, .slice none 0 0]) := by
      show Rw _ _ _ _
      rw [HW1.out]
      exact (RB.out.up ((Below.refl _ _).alloc (Nat.le_refl _) _) (by omega)).row_other _ (by omega)
    have HB2 : Hid (Below w.heap.size w W) := by
      show Below _ _ _
      rw [HW1.out]
      exact below_row (HB.out.alloc (by omega) _) (by omega) _
    clear HW1 RB HB
    go_wp2_with (refine wpList_store_row rfl 30 (.tmp 4) (.tmp 15) rfl (w.heap.size + 1) #[.int .i64 0, .slice none 0 0, .slice none 0 0] rfl rfl 30 #[.int .i64 0, .slice none 0 0, .slice none 0 0] RB2.out sizeWld rfl (world_one _ _ _ _ _ _ _) ?_)
    refine bodyPost_ret (results_row_tmp Tryz.results39 _ _ (w.heap.size + 1) _ _ rfl rfl (run_loadVar_row _ _ 30 _ #[.int .i64 0, .slice none 0 0, .slice none 0 0] (0, 0) _ (RB2.out.row _) Tryz.underlying30 rfl sizeWld)) rfl ⟨.slice none 0 0, .slice none 0 0, by rw [← HD.out]; rfl, by rw [← HD.out]; exact WldF.nil _ _, below_row HB2.out (by omega) _⟩
end Go.Proofs.YtehhhiodfcdnmaaGreatDoor

namespace Go.Proofs.YtehhhiodfcdnmaaGreatDoor
set_option linter.unusedSimpArgs false
set_option linter.unusedVariables false
open Go.RowKit Go.Sort
theorem small_right {S : SysD} {D : WldD} (hk : chkS S = 0) (hR : Right S D) : WSmall D := by
  obtain ⟨h1, h2⟩ := countsS hk
  have hlc := cellsB_len hR.c
  have hll := linesB_len hR.l
  refine ⟨by omega, by omega, fun k h => ?_, fun k h => ?_⟩
  · have := ((fine_iff _ _).1 (celB_is (cellsB_at hR.c k (by omega) h)).1).2.2.2.2.2.2
    omega
  · have := chkL_zero (linesB_at hR.l k (by omega) h)
    omega
end Go.Proofs.YtehhhiodfcdnmaaGreatDoor

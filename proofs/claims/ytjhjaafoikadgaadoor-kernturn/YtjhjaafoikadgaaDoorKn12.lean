/- The same worlds are the same to the document, too. -/
import Derived.Test.YtjhjaafoikadgaaDoorKn8
namespace Go.Proofs.YtjhjaafoikadgaaDoor
set_option linter.unusedSimpArgs false
set_option linter.unusedVariables false
open Go.RowKit Go.Sort

theorem ent_sameInts : Enters 23 := enters Tryd.func23 (by kernel_rfl) (by kernel_rfl)
theorem ent_sameCells : Enters 22 := enters Tryd.func22 (by kernel_rfl) (by kernel_rfl)
theorem sameInts_yes (xs : List Int) (v u : Value) (w : World) (hx : Sl w 1 v xs.length (ints xs)) (hy : Sl w 1 u xs.length (ints xs)) (hm : xs.length < 4294967281) :
    Calls Tryd.prog 23 #[v, u] w fun e w' => e = .returned (.bool true) ∧ Below w.heap.size w w' := sameInts_any xs xs v u w hx hy hm true (by simp)
theorem sameCells_agg (c : Cel) (xs : List Int) (v u : Value) (w : World) (hx : Sl w 1 v xs.length (ints xs)) (hy : Sl w 1 u xs.length (ints xs)) (hm : xs.length < 4294967281) :
    Calls Tryd.prog 22 #[.agg (c.cs v), .agg (c.cs u)] w fun e w' => e = .returned (.bool true) ∧ Below w.heap.size w w' := by
  have h := sameCells_yes c xs v u w hx hy hm
  rw [Cel.v_cs, Cel.v_cs] at h
  exact h
set_option maxRecDepth 100000 in
set_option maxHeartbeats 8000000 in
theorem sameLines_yes (ls : List (List Int)) (v u : Value) (hl : ls.length ≤ 1000) (hn : ∀ k (h : k < ls.length), ls[k].length ≤ 1000) (w : World) (hV : LinesR w v ls) (hU : LinesR w u ls) :
    Calls Tryd.prog 36 #[v, u] w fun e w' => e = .returned (.bool true) ∧ Below w.heap.size w w' := by
  obtain ⟨pa, pc, rfl⟩ := hV.form
  obtain ⟨ca, cc, rfl⟩ := hU.form
  have HV := Lib.hid hV
  have HU := Lib.hid hU
  have HN := Lib.hid hn
  clear hV hU hn
  have he' : ((ls.length : Int) != ls.length) = false := by simp
  go_enter Tryd.func36, Tryd.ntmps36
  go_wp2
  go_loopw [5] (fun i wr => ∃ k : Nat, i = .int .i64 k ∧ k ≤ ls.length ∧ Hid (Below w.heap.size w wr)) (fun i _ => ls.length - (intOf i).toNat)
  case atStart => exact ⟨0, rfl, Nat.zero_le _, Lib.hid (Below.refl _ _)⟩
  case round =>
    obtain ⟨k, rfl, hk, HB⟩ := hrel
    by_cases hlt : k < ls.length
    · have hli : (k : Int) < ls.length := by omega
      have h0i : (0 : Int) ≤ k := by omega
      obtain ⟨b, off, cap, e1, hcap, hbw, hc⟩ := HV.out.open (by omega)
      cases e1
      obtain ⟨ao, oc, hra, hso⟩ := hc k hlt
      obtain ⟨b2, off2, cap2, e2, hcap2, hbw2, hc2⟩ := HU.out.open (by omega)
      cases e2
      obtain ⟨ao2, oc2, hra2, hso2⟩ := hc2 k hlt
      have RA := Lib.hid (bcl HB.out hbw hra)
      have RB := Lib.hid (bcl HB.out hbw2 hra2)
      have SA := Lib.hid (hso.up HB.out)
      have SB := Lib.hid (hso2.up HB.out)
      have hws := HB.out.size
      have hb1 : b < wr.heap.size := by omega
      have hb2 : b2 < wr.heap.size := by omega
      have hnk := HN.out k hlt
      generalize ls[k] = l at RA RB SA SB hnk
      have HCK := Lib.hid fun V hx hy => sameInts_yes l (.slice ao l.length oc) (.slice ao2 l.length oc2) V hx hy (by omega)
      clear hra hso hc hra2 hso2 hc2
      go_wp2
      refine region_still (S := fun w' => Below wr.heap.size wr w') 11 (by kernel_rfl) (Below.refl _ _).drew (fun hHeld => ?_)
      refine Still.takeBy (i := 0) [10, 4, 3, 2] (v := ?v11) (by kernel_rfl) (by kernel_rfl) rfl (by kernel_rfl) (by kernel_rfl) (by kernel_rfl) (fun _ _ _ h => h) (Or.inl ⟨by rfl, ?y11⟩) hHeld ?r11
      case y11 => (intro w' hSw; (try dsimp only at hSw); have q1 := bcl hSw hb1 RA.out; have q2 := bcl hSw hb2 RB.out; clear hSw; go_simp; try with_reducible rfl)
      simp only [Act.put, List.getElem_toArray, List.getElem_cons_zero, List.getElem_cons_succ, List.setIfInBounds_toArray, List.set_cons_zero, List.set_cons_succ]
      refine Still.takeBy (i := 1) [10, 4, 3, 2] (v := ?v12) (by kernel_rfl) (by kernel_rfl) rfl (by kernel_rfl) (by kernel_rfl) (by kernel_rfl) (fun _ _ _ h => h) (Or.inl ⟨by rfl, ?y12⟩) hHeld ?r12
      case y12 => (intro w' hSw; (try dsimp only at hSw); have q1 := bcl hSw hb1 RA.out; have q2 := bcl hSw hb2 RB.out; clear hSw; go_simp; try with_reducible rfl)
      simp only [Act.put, List.getElem_toArray, List.getElem_cons_zero, List.getElem_cons_succ, List.setIfInBounds_toArray, List.set_cons_zero, List.set_cons_succ]
      refine Still.takeBy (i := 2) [10, 4, 3] (v := ?v13) (by kernel_rfl) (by kernel_rfl) rfl (by kernel_rfl) (by kernel_rfl) (by kernel_rfl) (fun _ _ _ h => h) (Or.inl ⟨by rfl, ?y13⟩) hHeld ?r13
      case y13 => (intro w' hSw; (try dsimp only at hSw); have q1 := bcl hSw hb1 RA.out; have q2 := bcl hSw hb2 RB.out; clear hSw; go_simp; try with_reducible rfl)
      simp only [Act.put, List.getElem_toArray, List.getElem_cons_zero, List.getElem_cons_succ, List.setIfInBounds_toArray, List.set_cons_zero, List.set_cons_succ]
      refine Still.takeBy (i := 3) [10, 4] (v := ?v14) (by kernel_rfl) (by kernel_rfl) rfl (by kernel_rfl) (by kernel_rfl) (by kernel_rfl) (fun _ _ _ h => h) (Or.inl ⟨by rfl, ?y14⟩) hHeld ?r14
      case y14 => (intro w' hSw; (try dsimp only at hSw); have q1 := bcl hSw hb1 RA.out; have q2 := bcl hSw hb2 RB.out; clear hSw; go_simp; try with_reducible rfl)
      simp only [Act.put, List.getElem_toArray, List.getElem_cons_zero, List.getElem_cons_succ, List.setIfInBounds_toArray, List.set_cons_zero, List.set_cons_succ]
      refine Still.takeBy (i := 4) [10] (v := ?v15) (by kernel_rfl) (by kernel_rfl) rfl (by kernel_rfl) (by kernel_rfl) (by kernel_rfl) (fun _ _ _ h => h) (Or.inl ⟨by rfl, ?y15⟩) hHeld ?r15
      case y15 => (intro w' hSw; (try dsimp only at hSw); have q1 := bcl hSw hb1 RA.out; have q2 := bcl hSw hb2 RB.out; clear hSw; go_simp; try with_reducible rfl)
      simp only [Act.put, List.getElem_toArray, List.getElem_cons_zero, List.getElem_cons_succ, List.setIfInBounds_toArray, List.set_cons_zero, List.set_cons_succ]
      refine Still.takeBy (i := 5) [10, 9, 8, 7] (v := ?v16) (by kernel_rfl) (by kernel_rfl) rfl (by kernel_rfl) (by kernel_rfl) (by kernel_rfl) (fun _ _ _ h => h) (Or.inl ⟨by rfl, ?y16⟩) hHeld ?r16
      case y16 => (intro w' hSw; (try dsimp only at hSw); have q1 := bcl hSw hb1 RA.out; have q2 := bcl hSw hb2 RB.out; clear hSw; go_simp; try with_reducible rfl)
      simp only [Act.put, List.getElem_toArray, List.getElem_cons_zero, List.getElem_cons_succ, List.setIfInBounds_toArray, List.set_cons_zero, List.set_cons_succ]
      refine Still.takeBy (i := 6) [10, 9, 8, 7] (v := ?v17) (by kernel_rfl) (by kernel_rfl) rfl (by kernel_rfl) (by kernel_rfl) (by kernel_rfl) (fun _ _ _ h => h) (Or.inl ⟨by rfl, ?y17⟩) hHeld ?r17
      case y17 => (intro w' hSw; (try dsimp only at hSw); have q1 := bcl hSw hb1 RA.out; have q2 := bcl hSw hb2 RB.out; clear hSw; go_simp; try with_reducible rfl)
      simp only [Act.put, List.getElem_toArray, List.getElem_cons_zero, List.getElem_cons_succ, List.setIfInBounds_toArray, List.set_cons_zero, List.set_cons_succ]
      refine Still.takeBy (i := 7) [10, 9, 8] (v := ?v18) (by kernel_rfl) (by kernel_rfl) rfl (by kernel_rfl) (by kernel_rfl) (by kernel_rfl) (fun _ _ _ h => h) (Or.inl ⟨by rfl, ?y18⟩) hHeld ?r18
      case y18 => (intro w' hSw; (try dsimp only at hSw); have q1 := bcl hSw hb1 RA.out; have q2 := bcl hSw hb2 RB.out; clear hSw; go_simp; try with_reducible rfl)
      simp only [Act.put, List.getElem_toArray, List.getElem_cons_zero, List.getElem_cons_succ, List.setIfInBounds_toArray, List.set_cons_zero, List.set_cons_succ]
      refine Still.takeBy (i := 8) [10, 9] (v := ?v19) (by kernel_rfl) (by kernel_rfl) rfl (by kernel_rfl) (by kernel_rfl) (by kernel_rfl) (fun _ _ _ h => h) (Or.inl ⟨by rfl, ?y19⟩) hHeld ?r19
      case y19 => (intro w' hSw; (try dsimp only at hSw); have q1 := bcl hSw hb1 RA.out; have q2 := bcl hSw hb2 RB.out; clear hSw; go_simp; try with_reducible rfl)
      simp only [Act.put, List.getElem_toArray, List.getElem_cons_zero, List.getElem_cons_succ, List.setIfInBounds_toArray, List.set_cons_zero, List.set_cons_succ]
      refine Still.takeBy (i := 9) [10] (v := ?v20) (by kernel_rfl) (by kernel_rfl) rfl (by kernel_rfl) (by kernel_rfl) (by kernel_rfl) (fun _ _ _ h => h) (Or.inl ⟨by rfl, ?y20⟩) hHeld ?r20
      case y20 => (intro w' hSw; (try dsimp only at hSw); have q1 := bcl hSw hb1 RA.out; have q2 := bcl hSw hb2 RB.out; clear hSw; go_simp; try with_reducible rfl)
      simp only [Act.put, List.getElem_toArray, List.getElem_cons_zero, List.getElem_cons_succ, List.setIfInBounds_toArray, List.set_cons_zero, List.set_cons_succ]
      refine Still.all (rs := [10]) (by kernel_rfl) (by simp) (Still.one (i := 10) rfl rfl (fun K hK => ?_) (by simp))
      refine wp_call 23 _ _ rfl ent_sameInts #[.slice ao l.length oc, .slice ao2 l.length oc2] (by first | rfl | simp [Act.eval, Act.put]) ((HCK.out _ (SA.out.up hHeld) (SB.out.up hHeld)).mono ?_)
      rintro e V1 ⟨rfl, bb⟩
      refine ⟨_, rfl, hK _ _ (fun _ => hHeld.trans (bb.mono hHeld.size)) (fun hh => ?_)⟩
      have hHeld := hh (by decide)
      clear hK K hh
      try simp only [Act.put, List.getElem_toArray, List.getElem_cons_zero, List.getElem_cons_succ, List.setIfInBounds_toArray, List.set_cons_zero, List.set_cons_succ]
      clear bb
      refine Still.all (rs := [11]) (by kernel_rfl) (by simp) (Still.one (i := 11) rfl rfl (fun K hK => ?_) (by simp))
      go_simp
      refine hK _ _ (fun h => absurd rfl h) (fun _ => ?_)
      clear hK K
      refine Still.over (by kernel_rfl) ?_ _
      have HL2 := Lib.hid (HB.out.trans (hHeld.mono HB.out.size))
      clear hHeld
      go_wp2
      go_roundw
      case rel => exact ⟨k + 1, by go_num, by omega, HL2⟩
      case measure => simp [intOf]; omega
    · have hli : ¬ (k : Int) < ls.length := by omega
      go_wp2
      go_ret
      exact ⟨rfl, HB.out⟩
/-- Bounds that a right world keeps. -/
structure WSmall (D : WldD) : Prop where
  c : D.cells.length ≤ 1000
  l : D.lines.length ≤ 1000
  o : ∀ k (h : k < D.cells.length), D.cells[k].out.length ≤ 1000
  n : ∀ k (h : k < D.lines.length), D.lines[k].length ≤ 1000
set_option maxRecDepth 100000 in
set_option maxHeartbeats 8000000 in
theorem sameWorlds_yes (D : WldD) (hs : WSmall D) (vc vl uc ul : Value) (w : World) (hV : Wld w vc vl D) (hU : Wld w uc ul D) :
    Calls Tryd.prog 15 #[.agg #[.int .i64 D.tick, vc, vl], .agg #[.int .i64 D.tick, uc, ul]] w fun e w' => e = .returned (.bool true) ∧ Below w.heap.size w w' := by
  obtain ⟨pa, pc, rfl⟩ := hV.c.form
  obtain ⟨la, lc, rfl⟩ := hV.l.form
  obtain ⟨pa', pc', rfl⟩ := hU.c.form
  obtain ⟨la', lc', rfl⟩ := hU.l.form
  have HCK := Lib.hid fun V h1 h2 => sameLines_yes D.lines (.slice la D.lines.length lc) (.slice la' D.lines.length lc') hs.l hs.n V h1 h2
  have HV := Lib.hid hV
  have HU := Lib.hid hU
  have HN := Lib.hid hs.o
  have hcl := hs.c
  clear hV hU hs
  have he1 : ((D.tick : Int) != D.tick) = false := by simp
  have he2 : ((D.cells.length : Int) != D.cells.length) = false := by simp
  go_enter Tryd.func15, Tryd.ntmps15
  go_wp2_with fail
  refine (HCK.out _ (HV.out.l.up (by repeat (first | exact Below.refl _ _ | assumption | refine Below.drew ?_ | refine Below.alloc ?_ (by first | (simp; done) | (simp; omega)) _ | refine Below.setCell ?_ (by first | (simp; done) | (simp; omega)) _))) (HU.out.l.up (by repeat (first | exact Below.refl _ _ | assumption | refine Below.drew ?_ | refine Below.alloc ?_ (by first | (simp; done) | (simp; omega)) _ | refine Below.setCell ?_ (by first | (simp; done) | (simp; omega)) _)))).mono ?_
  rintro e w1 ⟨rfl, b1⟩
  have z1 := b1.size
  simp at z1
  have R0 : Hid (Rw w1 w.heap.size 30 #[.int .i64 D.tick, .slice pa D.cells.length pc, .slice la D.lines.length lc]) := Rw.up (by repeat (first | exact Rw.new _ _ _ (by first | rfl | (simp; done) | omega | (simp; omega)) | refine Rw.alloc ?_ _)) b1 (by first | omega | (simp; done) | (simp; omega))
  have R1 : Hid (Rw w1 (w.heap.size + 1) 30 #[.int .i64 D.tick, .slice pa' D.cells.length pc', .slice la' D.lines.length lc']) := Rw.up (by repeat (first | exact Rw.new _ _ _ (by first | rfl | (simp; done) | omega | (simp; omega)) | refine Rw.alloc ?_ _)) b1 (by first | omega | (simp; done) | (simp; omega))
  have HB1 : Hid (Below w.heap.size w w1) := by
    refine Below.trans ?_ (b1.mono (by first | omega | (simp; done) | (simp; omega)))
    exact (by repeat (first | exact Below.refl _ _ | assumption | refine Below.drew ?_ | refine Below.alloc ?_ (by first | (simp; done) | (simp; omega)) _ | refine Below.setCell ?_ (by first | (simp; done) | (simp; omega)) _))
  clear b1 HCK
  go_wp2
  go_loopw [5] (fun i wr => ∃ k : Nat, i = .int .i64 k ∧ k ≤ D.cells.length ∧ Hid (Below w1.heap.size w1 wr)) (fun i _ => D.cells.length - (intOf i).toNat)
  case atStart => exact ⟨0, rfl, Nat.zero_le _, Lib.hid (Below.refl _ _)⟩
  case round =>
    obtain ⟨k, rfl, hk, HB⟩ := hrel
    have hws := HB.out.size
    have r0 := R0.out.up HB.out (by omega)
    have r1 := R1.out.up HB.out (by omega)
    have q0 := r0.cell (j := 1) (v := .slice pa D.cells.length pc) rfl
    have q1 := r1.cell (j := 1) (v := .slice pa' D.cells.length pc') rfl
    have Q0 := Lib.hid q0
    have Q1 := Lib.hid q1
    clear r0 r1
    by_cases hlt : k < D.cells.length
    · have hli : (k : Int) < D.cells.length := by omega
      have h0i : (0 : Int) ≤ k := by omega
      obtain ⟨b, off, cap, e1, hcap, hbw, hc⟩ := HV.out.c.open (by omega)
      cases e1
      obtain ⟨ao, oc, hra, hso⟩ := hc k hlt
      obtain ⟨b2, off2, cap2, e2, hcap2, hbw2, hc2⟩ := HU.out.c.open (by omega)
      cases e2
      obtain ⟨ao2, oc2, hra2, hso2⟩ := hc2 k hlt
      have HBB := HB1.out.trans (HB.out.mono (by omega))
      have RA := Lib.hid (range_up hra HBB hbw)
      have RB := Lib.hid (range_up hra2 HBB hbw2)
      have SA := Lib.hid (hso.up HBB)
      have SB := Lib.hid (hso2.up HBB)
      have hb1 : b < wr.heap.size := by omega
      have hb2 : b2 < wr.heap.size := by omega
      have hg0 : w.heap.size < wr.heap.size := by omega
      have hg1 : w.heap.size + 1 < wr.heap.size := by omega
      have hnk := HN.out k hlt
      generalize D.cells[k] = d at RA RB SA SB hnk
      obtain ⟨c, out⟩ := d
      simp only at RA RB SA SB hnk
      have HCK := Lib.hid fun V hx hy => sameCells_agg c out (.slice ao out.length oc) (.slice ao2 out.length oc2) V hx hy (by omega)
      clear hra hso hc hra2 hso2 hc2 HBB
      go_wp2
      clear q0 q1
      refine region_still (S := fun w' => Below wr.heap.size wr w') 11 (by kernel_rfl) (Below.refl _ _).drew (fun hHeld => ?_)
      refine Still.takeBy (i := 0) [10, 4, 3, 1] (v := ?v51) (by kernel_rfl) (by kernel_rfl) rfl (by kernel_rfl) (by kernel_rfl) (by kernel_rfl) (fun _ _ _ h => h) (Or.inl ⟨by rfl, ?y51⟩) hHeld ?r51
      case y51 => (intro w' hSw; (try dsimp only at hSw); have q1 := bcl hSw hg0 Q0.out; have q2 := bcl hSw hg1 Q1.out; clear hSw; go_simp; try with_reducible rfl)
      simp only [Act.put, List.getElem_toArray, List.getElem_cons_zero, List.getElem_cons_succ, List.setIfInBounds_toArray, List.set_cons_zero, List.set_cons_succ]
      refine Still.takeBy (i := 1) [10, 4, 3] (v := ?v52) (by kernel_rfl) (by kernel_rfl) rfl (by kernel_rfl) (by kernel_rfl) (by kernel_rfl) (fun _ _ _ h => h) (Or.inl ⟨by rfl, ?y52⟩) hHeld ?r52
      case y52 => (intro w' hSw; (try dsimp only at hSw); have q1 := bcl hSw hg0 Q0.out; have q2 := bcl hSw hg1 Q1.out; clear hSw; go_simp; try with_reducible rfl)
      simp only [Act.put, List.getElem_toArray, List.getElem_cons_zero, List.getElem_cons_succ, List.setIfInBounds_toArray, List.set_cons_zero, List.set_cons_succ]
      refine Still.takeBy (i := 2) [10, 4, 3] (v := ?v53) (by kernel_rfl) (by kernel_rfl) rfl (by kernel_rfl) (by kernel_rfl) (by kernel_rfl) (fun _ _ _ h => h) (Or.inl ⟨by rfl, ?y53⟩) hHeld ?r53
      case y53 => (intro w' hSw; (try dsimp only at hSw); have q1 := bcl hSw hg0 Q0.out; have q2 := bcl hSw hg1 Q1.out; clear hSw; go_simp; try with_reducible rfl)
      simp only [Act.put, List.getElem_toArray, List.getElem_cons_zero, List.getElem_cons_succ, List.setIfInBounds_toArray, List.set_cons_zero, List.set_cons_succ]
      refine Still.takeBy (i := 3) [10, 4] (v := ?v54) (by kernel_rfl) (by kernel_rfl) rfl (by kernel_rfl) (by kernel_rfl) (by kernel_rfl) (fun _ _ _ h => h) (Or.inl ⟨by rfl, ?y54⟩) hHeld ?r54
      case y54 => (intro w' hSw; (try dsimp only at hSw); have q1 := bcl hSw hg0 Q0.out; have q2 := bcl hSw hg1 Q1.out; clear hSw; go_simp; try with_reducible rfl)
      simp only [Act.put, List.getElem_toArray, List.getElem_cons_zero, List.getElem_cons_succ, List.setIfInBounds_toArray, List.set_cons_zero, List.set_cons_succ]
      refine Still.takeBy (i := 4) [10] (by kernel_rfl) (by kernel_rfl) rfl (by kernel_rfl) (by kernel_rfl) (by kernel_rfl) (fun _ _ _ h => h) (yields_load_midA (by rfl) _ _ rfl b (off + k * 16) (by first | rfl | simp [Act.eval, Act.put]) (c.cs (.slice ao out.length oc)) _ (fun w' hSw => range_up RA.out hSw hb1) Tryd.underlying54 rfl sizeCell) hHeld ?r55
      simp only [Act.put, List.getElem_toArray, List.getElem_cons_zero, List.getElem_cons_succ, List.setIfInBounds_toArray, List.set_cons_zero, List.set_cons_succ]
      refine Still.takeBy (i := 5) [10, 9, 8, 6] (v := ?v56) (by kernel_rfl) (by kernel_rfl) rfl (by kernel_rfl) (by kernel_rfl) (by kernel_rfl) (fun _ _ _ h => h) (Or.inl ⟨by rfl, ?y56⟩) hHeld ?r56
      case y56 => (intro w' hSw; (try dsimp only at hSw); have q1 := bcl hSw hg0 Q0.out; have q2 := bcl hSw hg1 Q1.out; clear hSw; go_simp; try with_reducible rfl)
      simp only [Act.put, List.getElem_toArray, List.getElem_cons_zero, List.getElem_cons_succ, List.setIfInBounds_toArray, List.set_cons_zero, List.set_cons_succ]
      refine Still.takeBy (i := 6) [10, 9, 8] (v := ?v57) (by kernel_rfl) (by kernel_rfl) rfl (by kernel_rfl) (by kernel_rfl) (by kernel_rfl) (fun _ _ _ h => h) (Or.inl ⟨by rfl, ?y57⟩) hHeld ?r57
      case y57 => (intro w' hSw; (try dsimp only at hSw); have q1 := bcl hSw hg0 Q0.out; have q2 := bcl hSw hg1 Q1.out; clear hSw; go_simp; try with_reducible rfl)
      simp only [Act.put, List.getElem_toArray, List.getElem_cons_zero, List.getElem_cons_succ, List.setIfInBounds_toArray, List.set_cons_zero, List.set_cons_succ]
      refine Still.takeBy (i := 7) [10, 9, 8] (v := ?v58) (by kernel_rfl) (by kernel_rfl) rfl (by kernel_rfl) (by kernel_rfl) (by kernel_rfl) (fun _ _ _ h => h) (Or.inl ⟨by rfl, ?y58⟩) hHeld ?r58
      case y58 => (intro w' hSw; (try dsimp only at hSw); have q1 := bcl hSw hg0 Q0.out; have q2 := bcl hSw hg1 Q1.out; clear hSw; go_simp; try with_reducible rfl)
      simp only [Act.put, List.getElem_toArray, List.getElem_cons_zero, List.getElem_cons_succ, List.setIfInBounds_toArray, List.set_cons_zero, List.set_cons_succ]
      refine Still.takeBy (i := 8) [10, 9] (v := ?v59) (by kernel_rfl) (by kernel_rfl) rfl (by kernel_rfl) (by kernel_rfl) (by kernel_rfl) (fun _ _ _ h => h) (Or.inl ⟨by rfl, ?y59⟩) hHeld ?r59
      case y59 => (intro w' hSw; (try dsimp only at hSw); have q1 := bcl hSw hg0 Q0.out; have q2 := bcl hSw hg1 Q1.out; clear hSw; go_simp; try with_reducible rfl)
      simp only [Act.put, List.getElem_toArray, List.getElem_cons_zero, List.getElem_cons_succ, List.setIfInBounds_toArray, List.set_cons_zero, List.set_cons_succ]
      refine Still.takeBy (i := 9) [10] (by kernel_rfl) (by kernel_rfl) rfl (by kernel_rfl) (by kernel_rfl) (by kernel_rfl) (fun _ _ _ h => h) (yields_load_midA (by rfl) _ _ rfl b2 (off2 + k * 16) (by first | rfl | simp [Act.eval, Act.put]) (c.cs (.slice ao2 out.length oc2)) _ (fun w' hSw => range_up RB.out hSw hb2) Tryd.underlying54 rfl sizeCell) hHeld ?r60
      simp only [Act.put, List.getElem_toArray, List.getElem_cons_zero, List.getElem_cons_succ, List.setIfInBounds_toArray, List.set_cons_zero, List.set_cons_succ]
      refine Still.all (rs := [10]) (by kernel_rfl) (by simp) (Still.one (i := 10) rfl rfl (fun K hK => ?_) (by simp))
      refine wp_call 22 _ _ rfl ent_sameCells #[.agg (c.cs (.slice ao out.length oc)), .agg (c.cs (.slice ao2 out.length oc2))] (by first | rfl | simp [Act.eval, Act.put]) ((HCK.out _ (SA.out.up hHeld) (SB.out.up hHeld)).mono ?_)
      rintro e V1 ⟨rfl, bb⟩
      refine ⟨_, rfl, hK _ _ (fun _ => hHeld.trans (bb.mono hHeld.size)) (fun hh => ?_)⟩
      have hHeld := hh (by decide)
      clear hK K hh
      try simp only [Act.put, List.getElem_toArray, List.getElem_cons_zero, List.getElem_cons_succ, List.setIfInBounds_toArray, List.set_cons_zero, List.set_cons_succ]
      clear bb
      refine Still.all (rs := [11]) (by kernel_rfl) (by simp) (Still.one (i := 11) rfl rfl (fun K hK => ?_) (by simp))
      go_simp
      refine hK _ _ (fun h => absurd rfl h) (fun _ => ?_)
      clear hK K
      refine Still.over (by kernel_rfl) ?_ _
      have HL2 := Lib.hid (HB.out.trans (hHeld.mono HB.out.size))
      clear hHeld
      go_wp2
      go_roundw
      case rel => exact ⟨k + 1, by go_num, by omega, HL2⟩
      case measure => simp [intOf]; omega
    · have hli : ¬ (k : Int) < D.cells.length := by omega
      go_wp2
      go_ret
      exact ⟨rfl, HB1.out.trans (HB.out.mono (by omega))⟩
end Go.Proofs.YtjhjaafoikadgaaDoor

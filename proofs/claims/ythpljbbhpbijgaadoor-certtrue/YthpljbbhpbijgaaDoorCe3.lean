/- The reference's CheckPolicy. -/
import Derived.Test.YthpljbbhpbijgaaDoorCe2
namespace Go.Proofs.YthpljbbhpbijgaaDoor
set_option linter.unusedSimpArgs false
set_option linter.unusedVariables false
open Go.RowKit Go.Sort Go.Shelf Go.Lib Go.Maps

theorem ent_within : Enters 32 := enters Tryd.func32 (by kernel_rfl) (by kernel_rfl)
theorem ent_behind : Enters 46 := enters Tryd.func46 (by kernel_rfl) (by kernel_rfl)
theorem polE_one {S : SysD} {L : List Edg} (h0 : chkS S = 0) (h : polB S.parts.length L = false) : polE S L = 1 := by unfold polE; rw [if_pos h0, h]; rfl
theorem polE_zero {S : SysD} {L : List Edg} (h0 : chkS S = 0) (h : polB S.parts.length L = true) : polE S L = 0 := by unfold polE; rw [if_pos h0, h]; rfl
theorem polE_bad {S : SysD} {L : List Edg} (h0 : chkS S ≠ 0) : polE S L = chkS S := by unfold polE; rw [if_neg h0]
set_option maxRecDepth 100000 in
set_option maxHeartbeats 8000000 in
theorem checkPolicy_any (S : SysD) (hok : S.ok) (L : List Edg) (vp vc vs vL : Value) (w : World) (hS : Sys w vp vc vs S) (hL : Sl w 2 vL L.length (rowC Edg.cells L)) :
    Calls Tryd.prog 21 #[.agg #[vp, vc, vs], .agg #[vL]] w fun e w' => e = .returned (.int .i64 (polE S L)) ∧ RowKit.Below w.heap.size w w' := by
  generalize hc : polE S L = c
  have HC := Lib.hid hc
  obtain ⟨pa, pc, rfl⟩ := hS.p.form
  obtain ⟨ca, cc, rfl⟩ := hS.c.form
  obtain ⟨sa, sc, rfl⟩ := hS.s.form
  obtain ⟨la, lc, rfl⟩ := hL.form
  generalize hr : chkS S = r
  have HS := Lib.hid hS
  have HR := Lib.hid hr
  have HL := Lib.hid hL
  clear hS hr hL hc
  go_enter Tryd.func21, Tryd.ntmps21
  go_wp2_with fail
  refine (sysRef_any S hok _ _ _ _ (HS.out.up (by repeat (first | exact Below.refl _ _ | assumption | refine Below.drew ?_ | refine Below.alloc ?_ (by first | (simp; done) | (simp; omega)) _ | refine Below.setCell ?_ (by first | (simp; done) | (simp; omega)) _)))).mono ?_
  rw [HR.out]
  rintro e w1 ⟨rfl, bb⟩
  have HB := Lib.hid (((box_new w (.slice pa S.parts.length pc) (.slice ca S.chans.length cc) (.slice sa S.slots.length sc) 26 _ rfl).up ((RowKit.Below.refl _ _).alloc (Nat.le_refl _) (.cells #[.slice la L.length lc] 52))).up bb)
  have k1 : w1.cell? ⟨w.heap.size + 1, 0, none⟩ = some (.slice la L.length lc) := bcl bb (by simp) (by simp)
  have hw1 : w.heap.size + 1 < w1.heap.size := by have := bb.size; simp at this; omega
  have D := Lib.hid (RowKit.Below.trans (show RowKit.Below w.heap.size w _ from (by repeat (first | exact Below.refl _ _ | assumption | refine Below.drew ?_ | refine Below.alloc ?_ (by first | (simp; done) | (simp; omega)) _ | refine Below.setCell ?_ (by first | (simp; done) | (simp; omega)) _))) (bb.mono (by simp; omega)))
  clear bb
  by_cases h0 : r = 0
  · subst h0
    have hn := (chk_flow HR.out).1
    have k0 := HB.out.p
    go_wp2
    clear k0
    go_loopw [7] (fun i wr => ∃ k : Nat, i = .int .i64 k ∧ k ≤ L.length ∧ Hid (PolUp S.parts.length L k) ∧ wr.cell? ⟨w.heap.size + 1, 0, none⟩ = some (.slice la L.length lc) ∧ w.heap.size + 1 < wr.heap.size ∧ Hid (RowKit.Below w.heap.size w wr)) (fun i _ => L.length - (intOf i).toNat)
    case atStart => exact ⟨0, rfl, Nat.zero_le _, Lib.hid (polUp_zero _ _), k1, hw1, D⟩
    case round =>
      clear k1 hw1 HB
      obtain ⟨k, rfl, hk, HP, hb1, hws, HT⟩ := hrel
      by_cases hlt : k < L.length
      · have hli : (k : Int) < L.length := by omega
        have hk16 := polUp_len hn HP.out hk
        obtain ⟨pb, po, pc', e1, hpc, hpb, hpx⟩ := (HL.out.up HT.out).open (by omega)
        cases e1
        obtain ⟨c0, c1⟩ := edge_cells hpx k hlt
        have HB1 := Lib.hid (polUp_bad1 (n := S.parts.length) hlt)
        have HB2 := Lib.hid (polUp_bad2 (n := S.parts.length) hlt)
        have HST := Lib.hid (fun h1 h2 => polUp_step HP.out hlt h1 h2)
        have HPX := Lib.hid hpx
        clear hpx
        generalize L[k] = ed at c0 c1 HB1 HB2 HST
        obtain ⟨ef, et⟩ := ed
        simp only at c0 c1
        unfold edIn at HB1 HST
        simp only at HB1 HST
        cases hA : withinB ef 0 ((S.parts.length : Int) - 1) with
        | false =>
          have HBAD := Lib.hid (HC.out.symm.trans (polE_one HR.out (HB1.out (by rw [hA]; simp))))
          clear HB1 HB2 HST
          go_upto_region 9 with fail
          have HX : Hid (RowKit.Below wr.heap.size wr (wr.alloc (.cells #[.int .i64 ef, .int .i64 et] 37))) := Lib.hid ((RowKit.Below.refl _ _).alloc (Nat.le_refl _) _)
          have x0 : (wr.alloc (.cells #[.int .i64 ef, .int .i64 et] 37)).cell? ⟨wr.heap.size, 0, none⟩ = some (.int .i64 ef) := by simp
          have x1 : (wr.alloc (.cells #[.int .i64 ef, .int .i64 et] 37)).cell? ⟨wr.heap.size, 1, none⟩ = some (.int .i64 et) := by simp
          have hxs : wr.heap.size < (wr.alloc (.cells #[.int .i64 ef, .int .i64 et] 37)).heap.size := by simp
          have y0 := bcl HX.out (by omega) hb1
          generalize wr.alloc (.cells #[.int .i64 ef, .int .i64 et] 37) = X at HX x0 x1 hxs y0 ⊢
          refine region_still (S := fun w' => w'.cell? ⟨wr.heap.size, 0, none⟩ = some (.int .i64 ef) ∧ w'.cell? ⟨wr.heap.size, 1, none⟩ = some (.int .i64 et) ∧ w'.cell? ⟨w.heap.size + 1, 0, none⟩ = some (.slice (some ⟨pb, po, none⟩) L.length lc)) 33 (by kernel_rfl) ⟨x0, x1, y0⟩ (fun hHeld => ?_)
          refine Still.takeBy (i := 0) [19, 12, 11, 5, 3, 1] (v := ?v1) (by kernel_rfl) (by kernel_rfl) rfl (by kernel_rfl) (by kernel_rfl) (by kernel_rfl) (fun _ _ _ h => h) (Or.inl ⟨by rfl, ?y1⟩) hHeld ?r1
          case y1 => (intro w' hSw; (try dsimp only at hSw); obtain ⟨q0, q1, q2⟩ := hSw; go_simp; try with_reducible rfl)
          simp only [Act.put, List.getElem_toArray, List.getElem_cons_zero, List.getElem_cons_succ, List.setIfInBounds_toArray, List.set_cons_zero, List.set_cons_succ]
          refine Still.takeBy (i := 1) [19, 12, 11, 5, 3] (v := ?v2) (by kernel_rfl) (by kernel_rfl) rfl (by kernel_rfl) (by kernel_rfl) (by kernel_rfl) (fun _ _ _ h => h) (Or.inl ⟨by rfl, ?y2⟩) hHeld ?r2
          case y2 => (intro w' hSw; (try dsimp only at hSw); obtain ⟨q0, q1, q2⟩ := hSw; go_simp; try with_reducible rfl)
          simp only [Act.put, List.getElem_toArray, List.getElem_cons_zero, List.getElem_cons_succ, List.setIfInBounds_toArray, List.set_cons_zero, List.set_cons_succ]
          refine Still.takeBy (i := 2) [19, 12, 11, 5, 3] (v := ?v3) (by kernel_rfl) (by kernel_rfl) rfl (by kernel_rfl) (by kernel_rfl) (by kernel_rfl) (fun _ _ _ h => h) (Or.inl ⟨by rfl, ?y3⟩) hHeld ?r3
          case y3 => (intro w' hSw; (try dsimp only at hSw); obtain ⟨q0, q1, q2⟩ := hSw; go_simp; try with_reducible rfl)
          simp only [Act.put, List.getElem_toArray, List.getElem_cons_zero, List.getElem_cons_succ, List.setIfInBounds_toArray, List.set_cons_zero, List.set_cons_succ]
          refine Still.all (rs := [3]) (by kernel_rfl) (by simp) (Still.one (i := 3) rfl rfl (fun K hK => ?_) (by simp))
          refine wp_call 32 _ _ rfl ent_within #[.int .i64 ef, .int .i64 0, .int .i64 ((S.parts.length : Int) - 1)] (by first | rfl | simp [Act.eval, Act.put, Edg.v]) ((within_any _ _ _ _).mono ?_)
          rintro e V ⟨rfl, rfl⟩
          refine ⟨_, rfl, hK _ _ (fun _ => hHeld) (fun hh => ?_)⟩
          clear hK K hh
          try simp only [Act.put, List.getElem_toArray, List.getElem_cons_zero, List.getElem_cons_succ, List.setIfInBounds_toArray, List.set_cons_zero, List.set_cons_succ]
          rw [hA]
          refine Still.takeBy (i := 4) [19, 12, 11, 5] (v := ?v4) (by kernel_rfl) (by kernel_rfl) rfl (by kernel_rfl) (by kernel_rfl) (by kernel_rfl) (fun _ _ _ h => h) (Or.inl ⟨by rfl, ?y4⟩) hHeld ?r4
          case y4 => (intro w' hSw; (try dsimp only at hSw); obtain ⟨q0, q1, q2⟩ := hSw; go_simp; try with_reducible rfl)
          simp only [Act.put, List.getElem_toArray, List.getElem_cons_zero, List.getElem_cons_succ, List.setIfInBounds_toArray, List.set_cons_zero, List.set_cons_succ]
          refine Still.takeBy (i := 5) [19, 12, 11] (v := ?v5) (by kernel_rfl) (by kernel_rfl) rfl (by kernel_rfl) (by kernel_rfl) (by kernel_rfl) (fun _ _ _ h => h) (Or.inl ⟨by rfl, ?y5⟩) hHeld ?r5
          case y5 => (intro w' hSw; (try dsimp only at hSw); obtain ⟨q0, q1, q2⟩ := hSw; go_simp; try with_reducible rfl)
          simp only [Act.put, List.getElem_toArray, List.getElem_cons_zero, List.getElem_cons_succ, List.setIfInBounds_toArray, List.set_cons_zero, List.set_cons_succ]
          refine Still.takeBy (i := 6) [19, 12, 9, 7] (by kernel_rfl) (by kernel_rfl) rfl (by kernel_rfl) (by kernel_rfl) (by kernel_rfl) (fun _ _ _ h => h) (Or.inr ⟨by rfl, rfl⟩) hHeld ?r6
          simp only [Act.put, List.getElem_toArray, List.getElem_cons_zero, List.getElem_cons_succ, List.setIfInBounds_toArray, List.set_cons_zero, List.set_cons_succ]
          refine Still.takeBy (i := 7) [19, 12, 9] (by kernel_rfl) (by kernel_rfl) rfl (by kernel_rfl) (by kernel_rfl) (by kernel_rfl) (fun _ _ _ h => h) (Or.inr ⟨by rfl, rfl⟩) hHeld ?r7
          simp only [Act.put, List.getElem_toArray, List.getElem_cons_zero, List.getElem_cons_succ, List.setIfInBounds_toArray, List.set_cons_zero, List.set_cons_succ]
          refine Still.takeBy (i := 8) [19, 12, 9] (by kernel_rfl) (by kernel_rfl) rfl (by kernel_rfl) (by kernel_rfl) (by kernel_rfl) (fun _ _ _ h => h) (Or.inr ⟨by rfl, rfl⟩) hHeld ?r8
          simp only [Act.put, List.getElem_toArray, List.getElem_cons_zero, List.getElem_cons_succ, List.setIfInBounds_toArray, List.set_cons_zero, List.set_cons_succ]
          refine Still.takeBy (i := 9) [19, 12] (by kernel_rfl) (by kernel_rfl) rfl (by kernel_rfl) (by kernel_rfl) (by kernel_rfl) (fun _ _ _ h => h) (Or.inr ⟨by rfl, rfl⟩) hHeld ?r9
          simp only [Act.put, List.getElem_toArray, List.getElem_cons_zero, List.getElem_cons_succ, List.setIfInBounds_toArray, List.set_cons_zero, List.set_cons_succ]
          refine Still.takeBy (i := 10) [19, 12, 11] (by kernel_rfl) (by kernel_rfl) rfl (by kernel_rfl) (by kernel_rfl) (by kernel_rfl) (fun _ _ _ h => h) (Or.inr ⟨by rfl, rfl⟩) hHeld ?r10
          simp only [Act.put, List.getElem_toArray, List.getElem_cons_zero, List.getElem_cons_succ, List.setIfInBounds_toArray, List.set_cons_zero, List.set_cons_succ]
          refine Still.takeBy (i := 11) [19, 12] (v := ?v11) (by kernel_rfl) (by kernel_rfl) rfl (by kernel_rfl) (by kernel_rfl) (by kernel_rfl) (fun _ _ _ h => h) (Or.inl ⟨by rfl, ?y11⟩) hHeld ?r11
          case y11 => (intro w' hSw; (try dsimp only at hSw); obtain ⟨q0, q1, q2⟩ := hSw; go_simp; try with_reducible rfl)
          simp only [Act.put, List.getElem_toArray, List.getElem_cons_zero, List.getElem_cons_succ, List.setIfInBounds_toArray, List.set_cons_zero, List.set_cons_succ]
          refine Still.takeBy (i := 12) [19] (v := ?v12) (by kernel_rfl) (by kernel_rfl) rfl (by kernel_rfl) (by kernel_rfl) (by kernel_rfl) (fun _ _ _ h => h) (Or.inl ⟨by rfl, ?y12⟩) hHeld ?r12
          case y12 => (intro w' hSw; (try dsimp only at hSw); obtain ⟨q0, q1, q2⟩ := hSw; go_simp; try with_reducible rfl)
          simp only [Act.put, List.getElem_toArray, List.getElem_cons_zero, List.getElem_cons_succ, List.setIfInBounds_toArray, List.set_cons_zero, List.set_cons_succ]
          refine Still.takeBy (i := 13) [19, 18, 17, 14] (by kernel_rfl) (by kernel_rfl) rfl (by kernel_rfl) (by kernel_rfl) (by kernel_rfl) (fun _ _ _ h => h) (Or.inr ⟨by rfl, rfl⟩) hHeld ?r13
          simp only [Act.put, List.getElem_toArray, List.getElem_cons_zero, List.getElem_cons_succ, List.setIfInBounds_toArray, List.set_cons_zero, List.set_cons_succ]
          refine Still.takeBy (i := 14) [19, 18, 17] (by kernel_rfl) (by kernel_rfl) rfl (by kernel_rfl) (by kernel_rfl) (by kernel_rfl) (fun _ _ _ h => h) (Or.inr ⟨by rfl, rfl⟩) hHeld ?r14
          simp only [Act.put, List.getElem_toArray, List.getElem_cons_zero, List.getElem_cons_succ, List.setIfInBounds_toArray, List.set_cons_zero, List.set_cons_succ]
          refine Still.takeBy (i := 15) [19, 18, 17, 16] (by kernel_rfl) (by kernel_rfl) rfl (by kernel_rfl) (by kernel_rfl) (by kernel_rfl) (fun _ _ _ h => h) (Or.inr ⟨by rfl, rfl⟩) hHeld ?r15
          simp only [Act.put, List.getElem_toArray, List.getElem_cons_zero, List.getElem_cons_succ, List.setIfInBounds_toArray, List.set_cons_zero, List.set_cons_succ]
          refine Still.takeBy (i := 16) [19, 18, 17] (by kernel_rfl) (by kernel_rfl) rfl (by kernel_rfl) (by kernel_rfl) (by kernel_rfl) (fun _ _ _ h => h) (Or.inr ⟨by rfl, rfl⟩) hHeld ?r16
          simp only [Act.put, List.getElem_toArray, List.getElem_cons_zero, List.getElem_cons_succ, List.setIfInBounds_toArray, List.set_cons_zero, List.set_cons_succ]
          refine Still.takeBy (i := 17) [19, 18] (by kernel_rfl) (by kernel_rfl) rfl (by kernel_rfl) (by kernel_rfl) (by kernel_rfl) (fun _ _ _ h => h) (Or.inr ⟨by rfl, rfl⟩) hHeld ?r17
          simp only [Act.put, List.getElem_toArray, List.getElem_cons_zero, List.getElem_cons_succ, List.setIfInBounds_toArray, List.set_cons_zero, List.set_cons_succ]
          refine Still.takeBy (i := 18) [19] (v := ?v18) (by kernel_rfl) (by kernel_rfl) rfl (by kernel_rfl) (by kernel_rfl) (by kernel_rfl) (fun _ _ _ h => h) (Or.inl ⟨by rfl, ?y18⟩) hHeld ?r18
          case y18 => (intro w' hSw; (try dsimp only at hSw); obtain ⟨q0, q1, q2⟩ := hSw; go_simp; try with_reducible rfl)
          simp only [Act.put, List.getElem_toArray, List.getElem_cons_zero, List.getElem_cons_succ, List.setIfInBounds_toArray, List.set_cons_zero, List.set_cons_succ]
          refine Still.takeBy (i := 19) [] (v := ?v19) (by kernel_rfl) (by kernel_rfl) rfl (by kernel_rfl) (by kernel_rfl) (by kernel_rfl) (fun _ _ _ h => h) (Or.inl ⟨by rfl, ?y19⟩) hHeld ?r19
          case y19 => (intro w' hSw; (try dsimp only at hSw); obtain ⟨q0, q1, q2⟩ := hSw; go_simp; try with_reducible rfl)
          simp only [Act.put, List.getElem_toArray, List.getElem_cons_zero, List.getElem_cons_succ, List.setIfInBounds_toArray, List.set_cons_zero, List.set_cons_succ]
          refine Still.takeBy (i := 20) [32, 22, 21] (by kernel_rfl) (by kernel_rfl) rfl (by kernel_rfl) (by kernel_rfl) (by kernel_rfl) (fun _ _ _ h => h) (Or.inr ⟨by rfl, rfl⟩) hHeld ?r20
          simp only [Act.put, List.getElem_toArray, List.getElem_cons_zero, List.getElem_cons_succ, List.setIfInBounds_toArray, List.set_cons_zero, List.set_cons_succ]
          refine Still.takeBy (i := 21) [32, 22] (by kernel_rfl) (by kernel_rfl) rfl (by kernel_rfl) (by kernel_rfl) (by kernel_rfl) (fun _ _ _ h => h) (Or.inr ⟨by rfl, rfl⟩) hHeld ?r21
          simp only [Act.put, List.getElem_toArray, List.getElem_cons_zero, List.getElem_cons_succ, List.setIfInBounds_toArray, List.set_cons_zero, List.set_cons_succ]
          refine Still.takeBy (i := 22) [32] (by kernel_rfl) (by kernel_rfl) rfl (by kernel_rfl) (by kernel_rfl) (by kernel_rfl) (fun _ _ _ h => h) (Or.inr ⟨by rfl, rfl⟩) hHeld ?r22
          simp only [Act.put, List.getElem_toArray, List.getElem_cons_zero, List.getElem_cons_succ, List.setIfInBounds_toArray, List.set_cons_zero, List.set_cons_succ]
          refine Still.takeBy (i := 23) [32, 31, 30] (by kernel_rfl) (by kernel_rfl) rfl (by kernel_rfl) (by kernel_rfl) (by kernel_rfl) (fun _ _ _ h => h) (Or.inr ⟨by rfl, rfl⟩) hHeld ?r23
          simp only [Act.put, List.getElem_toArray, List.getElem_cons_zero, List.getElem_cons_succ, List.setIfInBounds_toArray, List.set_cons_zero, List.set_cons_succ]
          refine Still.takeBy (i := 24) [32, 31, 30, 29, 28, 25] (by kernel_rfl) (by kernel_rfl) rfl (by kernel_rfl) (by kernel_rfl) (by kernel_rfl) (fun _ _ _ h => h) (Or.inr ⟨by rfl, rfl⟩) hHeld ?r24
          simp only [Act.put, List.getElem_toArray, List.getElem_cons_zero, List.getElem_cons_succ, List.setIfInBounds_toArray, List.set_cons_zero, List.set_cons_succ]
          refine Still.takeBy (i := 25) [32, 31, 30, 29, 28] (by kernel_rfl) (by kernel_rfl) rfl (by kernel_rfl) (by kernel_rfl) (by kernel_rfl) (fun _ _ _ h => h) (Or.inr ⟨by rfl, rfl⟩) hHeld ?r25
          simp only [Act.put, List.getElem_toArray, List.getElem_cons_zero, List.getElem_cons_succ, List.setIfInBounds_toArray, List.set_cons_zero, List.set_cons_succ]
          refine Still.takeBy (i := 26) [32, 31, 30, 29, 28, 27] (by kernel_rfl) (by kernel_rfl) rfl (by kernel_rfl) (by kernel_rfl) (by kernel_rfl) (fun _ _ _ h => h) (Or.inr ⟨by rfl, rfl⟩) hHeld ?r26
          simp only [Act.put, List.getElem_toArray, List.getElem_cons_zero, List.getElem_cons_succ, List.setIfInBounds_toArray, List.set_cons_zero, List.set_cons_succ]
          refine Still.takeBy (i := 27) [32, 31, 30, 29, 28] (by kernel_rfl) (by kernel_rfl) rfl (by kernel_rfl) (by kernel_rfl) (by kernel_rfl) (fun _ _ _ h => h) (Or.inr ⟨by rfl, rfl⟩) hHeld ?r27
          simp only [Act.put, List.getElem_toArray, List.getElem_cons_zero, List.getElem_cons_succ, List.setIfInBounds_toArray, List.set_cons_zero, List.set_cons_succ]
          refine Still.takeBy (i := 28) [32, 31, 30, 29] (by kernel_rfl) (by kernel_rfl) rfl (by kernel_rfl) (by kernel_rfl) (by kernel_rfl) (fun _ _ _ h => h) (Or.inr ⟨by rfl, rfl⟩) hHeld ?r28
          simp only [Act.put, List.getElem_toArray, List.getElem_cons_zero, List.getElem_cons_succ, List.setIfInBounds_toArray, List.set_cons_zero, List.set_cons_succ]
          refine Still.takeBy (i := 29) [32, 31, 30] (by kernel_rfl) (by kernel_rfl) rfl (by kernel_rfl) (by kernel_rfl) (by kernel_rfl) (fun _ _ _ h => h) (Or.inr ⟨by rfl, rfl⟩) hHeld ?r29
          simp only [Act.put, List.getElem_toArray, List.getElem_cons_zero, List.getElem_cons_succ, List.setIfInBounds_toArray, List.set_cons_zero, List.set_cons_succ]
          refine Still.takeBy (i := 30) [32, 31] (by kernel_rfl) (by kernel_rfl) rfl (by kernel_rfl) (by kernel_rfl) (by kernel_rfl) (fun _ _ _ h => h) (Or.inr ⟨by rfl, rfl⟩) hHeld ?r30
          simp only [Act.put, List.getElem_toArray, List.getElem_cons_zero, List.getElem_cons_succ, List.setIfInBounds_toArray, List.set_cons_zero, List.set_cons_succ]
          refine Still.takeBy (i := 31) [32] (by kernel_rfl) (by kernel_rfl) rfl (by kernel_rfl) (by kernel_rfl) (by kernel_rfl) (fun _ _ _ h => h) (Or.inr ⟨by rfl, rfl⟩) hHeld ?r31
          simp only [Act.put, List.getElem_toArray, List.getElem_cons_zero, List.getElem_cons_succ, List.setIfInBounds_toArray, List.set_cons_zero, List.set_cons_succ]
          refine Still.takeBy (i := 32) [] (by kernel_rfl) (by kernel_rfl) rfl (by kernel_rfl) (by kernel_rfl) (by kernel_rfl) (fun _ _ _ h => h) (Or.inr ⟨by rfl, rfl⟩) hHeld ?r32
          simp only [Act.put, List.getElem_toArray, List.getElem_cons_zero, List.getElem_cons_succ, List.setIfInBounds_toArray, List.set_cons_zero, List.set_cons_succ]
          refine Still.all (rs := [33]) (by kernel_rfl) (by simp) (Still.one (i := 33) rfl rfl (fun K hK => ?_) (by simp))
          go_simp
          refine hK _ _ (fun h => absurd rfl h) (fun _ => ?_)
          clear hK K
          refine Still.over (by kernel_rfl) ?_ _
          clear hHeld
          have HV : Hid (RowKit.Below wr.heap.size wr X.drew) := Lib.hid (HX.out.trans (RowKit.Below.refl _ _).drew)
          go_wp2
          go_ret
          exact ⟨ret_int HBAD.out.symm, HT.out.trans (HV.out.mono HT.out.size)⟩
        | true =>
          cases hB : withinB et 0 ((S.parts.length : Int) - 1) with
          | false =>
            have HBAD := Lib.hid (HC.out.symm.trans (polE_one HR.out (HB1.out (by rw [hB]; simp))))
            clear HB1 HB2 HST
            go_upto_region 9 with fail
            have HX : Hid (RowKit.Below wr.heap.size wr (wr.alloc (.cells #[.int .i64 ef, .int .i64 et] 37))) := Lib.hid ((RowKit.Below.refl _ _).alloc (Nat.le_refl _) _)
            have x0 : (wr.alloc (.cells #[.int .i64 ef, .int .i64 et] 37)).cell? ⟨wr.heap.size, 0, none⟩ = some (.int .i64 ef) := by simp
            have x1 : (wr.alloc (.cells #[.int .i64 ef, .int .i64 et] 37)).cell? ⟨wr.heap.size, 1, none⟩ = some (.int .i64 et) := by simp
            have hxs : wr.heap.size < (wr.alloc (.cells #[.int .i64 ef, .int .i64 et] 37)).heap.size := by simp
            have y0 := bcl HX.out (by omega) hb1
            generalize wr.alloc (.cells #[.int .i64 ef, .int .i64 et] 37) = X at HX x0 x1 hxs y0 ⊢
            refine region_still (S := fun w' => w'.cell? ⟨wr.heap.size, 0, none⟩ = some (.int .i64 ef) ∧ w'.cell? ⟨wr.heap.size, 1, none⟩ = some (.int .i64 et) ∧ w'.cell? ⟨w.heap.size + 1, 0, none⟩ = some (.slice (some ⟨pb, po, none⟩) L.length lc)) 33 (by kernel_rfl) ⟨x0, x1, y0⟩ (fun hHeld => ?_)
            refine Still.takeBy (i := 0) [19, 12, 11, 5, 3, 1] (v := ?v101) (by kernel_rfl) (by kernel_rfl) rfl (by kernel_rfl) (by kernel_rfl) (by kernel_rfl) (fun _ _ _ h => h) (Or.inl ⟨by rfl, ?y101⟩) hHeld ?r101
            case y101 => (intro w' hSw; (try dsimp only at hSw); obtain ⟨q0, q1, q2⟩ := hSw; go_simp; try with_reducible rfl)
            simp only [Act.put, List.getElem_toArray, List.getElem_cons_zero, List.getElem_cons_succ, List.setIfInBounds_toArray, List.set_cons_zero, List.set_cons_succ]
            refine Still.takeBy (i := 1) [19, 12, 11, 5, 3] (v := ?v102) (by kernel_rfl) (by kernel_rfl) rfl (by kernel_rfl) (by kernel_rfl) (by kernel_rfl) (fun _ _ _ h => h) (Or.inl ⟨by rfl, ?y102⟩) hHeld ?r102
            case y102 => (intro w' hSw; (try dsimp only at hSw); obtain ⟨q0, q1, q2⟩ := hSw; go_simp; try with_reducible rfl)
            simp only [Act.put, List.getElem_toArray, List.getElem_cons_zero, List.getElem_cons_succ, List.setIfInBounds_toArray, List.set_cons_zero, List.set_cons_succ]
            refine Still.takeBy (i := 2) [19, 12, 11, 5, 3] (v := ?v103) (by kernel_rfl) (by kernel_rfl) rfl (by kernel_rfl) (by kernel_rfl) (by kernel_rfl) (fun _ _ _ h => h) (Or.inl ⟨by rfl, ?y103⟩) hHeld ?r103
            case y103 => (intro w' hSw; (try dsimp only at hSw); obtain ⟨q0, q1, q2⟩ := hSw; go_simp; try with_reducible rfl)
            simp only [Act.put, List.getElem_toArray, List.getElem_cons_zero, List.getElem_cons_succ, List.setIfInBounds_toArray, List.set_cons_zero, List.set_cons_succ]
            refine Still.all (rs := [3]) (by kernel_rfl) (by simp) (Still.one (i := 3) rfl rfl (fun K hK => ?_) (by simp))
            refine wp_call 32 _ _ rfl ent_within #[.int .i64 ef, .int .i64 0, .int .i64 ((S.parts.length : Int) - 1)] (by first | rfl | simp [Act.eval, Act.put, Edg.v]) ((within_any _ _ _ _).mono ?_)
            rintro e V ⟨rfl, rfl⟩
            refine ⟨_, rfl, hK _ _ (fun _ => hHeld) (fun hh => ?_)⟩
            clear hK K hh
            try simp only [Act.put, List.getElem_toArray, List.getElem_cons_zero, List.getElem_cons_succ, List.setIfInBounds_toArray, List.set_cons_zero, List.set_cons_succ]
            rw [hA]
            refine Still.takeBy (i := 4) [19, 12, 11, 5] (v := ?v104) (by kernel_rfl) (by kernel_rfl) rfl (by kernel_rfl) (by kernel_rfl) (by kernel_rfl) (fun _ _ _ h => h) (Or.inl ⟨by rfl, ?y104⟩) hHeld ?r104
            case y104 => (intro w' hSw; (try dsimp only at hSw); obtain ⟨q0, q1, q2⟩ := hSw; go_simp; try with_reducible rfl)
            simp only [Act.put, List.getElem_toArray, List.getElem_cons_zero, List.getElem_cons_succ, List.setIfInBounds_toArray, List.set_cons_zero, List.set_cons_succ]
            refine Still.takeBy (i := 5) [19, 12, 11] (v := ?v105) (by kernel_rfl) (by kernel_rfl) rfl (by kernel_rfl) (by kernel_rfl) (by kernel_rfl) (fun _ _ _ h => h) (Or.inl ⟨by rfl, ?y105⟩) hHeld ?r105
            case y105 => (intro w' hSw; (try dsimp only at hSw); obtain ⟨q0, q1, q2⟩ := hSw; go_simp; try with_reducible rfl)
            simp only [Act.put, List.getElem_toArray, List.getElem_cons_zero, List.getElem_cons_succ, List.setIfInBounds_toArray, List.set_cons_zero, List.set_cons_succ]
            refine Still.takeBy (i := 6) [19, 12, 9, 7] (v := ?v106) (by kernel_rfl) (by kernel_rfl) rfl (by kernel_rfl) (by kernel_rfl) (by kernel_rfl) (fun _ _ _ h => h) (Or.inl ⟨by rfl, ?y106⟩) hHeld ?r106
            case y106 => (intro w' hSw; (try dsimp only at hSw); obtain ⟨q0, q1, q2⟩ := hSw; go_simp; try with_reducible rfl)
            simp only [Act.put, List.getElem_toArray, List.getElem_cons_zero, List.getElem_cons_succ, List.setIfInBounds_toArray, List.set_cons_zero, List.set_cons_succ]
            refine Still.takeBy (i := 7) [19, 12, 9] (v := ?v107) (by kernel_rfl) (by kernel_rfl) rfl (by kernel_rfl) (by kernel_rfl) (by kernel_rfl) (fun _ _ _ h => h) (Or.inl ⟨by rfl, ?y107⟩) hHeld ?r107
            case y107 => (intro w' hSw; (try dsimp only at hSw); obtain ⟨q0, q1, q2⟩ := hSw; go_simp; try with_reducible rfl)
            simp only [Act.put, List.getElem_toArray, List.getElem_cons_zero, List.getElem_cons_succ, List.setIfInBounds_toArray, List.set_cons_zero, List.set_cons_succ]
            refine Still.takeBy (i := 8) [19, 12, 9] (v := ?v108) (by kernel_rfl) (by kernel_rfl) rfl (by kernel_rfl) (by kernel_rfl) (by kernel_rfl) (fun _ _ _ h => h) (Or.inl ⟨by rfl, ?y108⟩) hHeld ?r108
            case y108 => (intro w' hSw; (try dsimp only at hSw); obtain ⟨q0, q1, q2⟩ := hSw; go_simp; try with_reducible rfl)
            simp only [Act.put, List.getElem_toArray, List.getElem_cons_zero, List.getElem_cons_succ, List.setIfInBounds_toArray, List.set_cons_zero, List.set_cons_succ]
            refine Still.all (rs := [9]) (by kernel_rfl) (by simp) (Still.oneG (i := 9) rfl (by rfl) (fun K hK => ?_) (by simp))
            refine wp_call 32 _ _ rfl ent_within #[.int .i64 et, .int .i64 0, .int .i64 ((S.parts.length : Int) - 1)] (by first | rfl | simp [Act.eval, Act.put, Edg.v]) ((within_any _ _ _ _).mono ?_)
            rintro e V ⟨rfl, rfl⟩
            refine ⟨_, rfl, hK _ _ (fun _ => hHeld) (fun hh => ?_)⟩
            clear hK K hh
            try simp only [Act.put, List.getElem_toArray, List.getElem_cons_zero, List.getElem_cons_succ, List.setIfInBounds_toArray, List.set_cons_zero, List.set_cons_succ]
            rw [hB]
            refine Still.takeBy (i := 10) [19, 12, 11] (v := ?v109) (by kernel_rfl) (by kernel_rfl) rfl (by kernel_rfl) (by kernel_rfl) (by kernel_rfl) (fun _ _ _ h => h) (Or.inl ⟨by rfl, ?y109⟩) hHeld ?r109
            case y109 => (intro w' hSw; (try dsimp only at hSw); obtain ⟨q0, q1, q2⟩ := hSw; go_simp; try with_reducible rfl)
            simp only [Act.put, List.getElem_toArray, List.getElem_cons_zero, List.getElem_cons_succ, List.setIfInBounds_toArray, List.set_cons_zero, List.set_cons_succ]
            refine Still.takeBy (i := 11) [19, 12] (v := ?v110) (by kernel_rfl) (by kernel_rfl) rfl (by kernel_rfl) (by kernel_rfl) (by kernel_rfl) (fun _ _ _ h => h) (Or.inl ⟨by rfl, ?y110⟩) hHeld ?r110
            case y110 => (intro w' hSw; (try dsimp only at hSw); obtain ⟨q0, q1, q2⟩ := hSw; go_simp; try with_reducible rfl)
            simp only [Act.put, List.getElem_toArray, List.getElem_cons_zero, List.getElem_cons_succ, List.setIfInBounds_toArray, List.set_cons_zero, List.set_cons_succ]
            refine Still.takeBy (i := 12) [19] (v := ?v111) (by kernel_rfl) (by kernel_rfl) rfl (by kernel_rfl) (by kernel_rfl) (by kernel_rfl) (fun _ _ _ h => h) (Or.inl ⟨by rfl, ?y111⟩) hHeld ?r111
            case y111 => (intro w' hSw; (try dsimp only at hSw); obtain ⟨q0, q1, q2⟩ := hSw; go_simp; try with_reducible rfl)
            simp only [Act.put, List.getElem_toArray, List.getElem_cons_zero, List.getElem_cons_succ, List.setIfInBounds_toArray, List.set_cons_zero, List.set_cons_succ]
            refine Still.takeBy (i := 13) [19, 18, 17, 14] (by kernel_rfl) (by kernel_rfl) rfl (by kernel_rfl) (by kernel_rfl) (by kernel_rfl) (fun _ _ _ h => h) (Or.inr ⟨by rfl, rfl⟩) hHeld ?r112
            simp only [Act.put, List.getElem_toArray, List.getElem_cons_zero, List.getElem_cons_succ, List.setIfInBounds_toArray, List.set_cons_zero, List.set_cons_succ]
            refine Still.takeBy (i := 14) [19, 18, 17] (by kernel_rfl) (by kernel_rfl) rfl (by kernel_rfl) (by kernel_rfl) (by kernel_rfl) (fun _ _ _ h => h) (Or.inr ⟨by rfl, rfl⟩) hHeld ?r113
            simp only [Act.put, List.getElem_toArray, List.getElem_cons_zero, List.getElem_cons_succ, List.setIfInBounds_toArray, List.set_cons_zero, List.set_cons_succ]
            refine Still.takeBy (i := 15) [19, 18, 17, 16] (by kernel_rfl) (by kernel_rfl) rfl (by kernel_rfl) (by kernel_rfl) (by kernel_rfl) (fun _ _ _ h => h) (Or.inr ⟨by rfl, rfl⟩) hHeld ?r114
            simp only [Act.put, List.getElem_toArray, List.getElem_cons_zero, List.getElem_cons_succ, List.setIfInBounds_toArray, List.set_cons_zero, List.set_cons_succ]
            refine Still.takeBy (i := 16) [19, 18, 17] (by kernel_rfl) (by kernel_rfl) rfl (by kernel_rfl) (by kernel_rfl) (by kernel_rfl) (fun _ _ _ h => h) (Or.inr ⟨by rfl, rfl⟩) hHeld ?r115
            simp only [Act.put, List.getElem_toArray, List.getElem_cons_zero, List.getElem_cons_succ, List.setIfInBounds_toArray, List.set_cons_zero, List.set_cons_succ]
            refine Still.takeBy (i := 17) [19, 18] (by kernel_rfl) (by kernel_rfl) rfl (by kernel_rfl) (by kernel_rfl) (by kernel_rfl) (fun _ _ _ h => h) (Or.inr ⟨by rfl, rfl⟩) hHeld ?r116
            simp only [Act.put, List.getElem_toArray, List.getElem_cons_zero, List.getElem_cons_succ, List.setIfInBounds_toArray, List.set_cons_zero, List.set_cons_succ]
            refine Still.takeBy (i := 18) [19] (v := ?v117) (by kernel_rfl) (by kernel_rfl) rfl (by kernel_rfl) (by kernel_rfl) (by kernel_rfl) (fun _ _ _ h => h) (Or.inl ⟨by rfl, ?y117⟩) hHeld ?r117
            case y117 => (intro w' hSw; (try dsimp only at hSw); obtain ⟨q0, q1, q2⟩ := hSw; go_simp; try with_reducible rfl)
            simp only [Act.put, List.getElem_toArray, List.getElem_cons_zero, List.getElem_cons_succ, List.setIfInBounds_toArray, List.set_cons_zero, List.set_cons_succ]
            refine Still.takeBy (i := 19) [] (v := ?v118) (by kernel_rfl) (by kernel_rfl) rfl (by kernel_rfl) (by kernel_rfl) (by kernel_rfl) (fun _ _ _ h => h) (Or.inl ⟨by rfl, ?y118⟩) hHeld ?r118
            case y118 => (intro w' hSw; (try dsimp only at hSw); obtain ⟨q0, q1, q2⟩ := hSw; go_simp; try with_reducible rfl)
            simp only [Act.put, List.getElem_toArray, List.getElem_cons_zero, List.getElem_cons_succ, List.setIfInBounds_toArray, List.set_cons_zero, List.set_cons_succ]
            refine Still.takeBy (i := 20) [32, 22, 21] (by kernel_rfl) (by kernel_rfl) rfl (by kernel_rfl) (by kernel_rfl) (by kernel_rfl) (fun _ _ _ h => h) (Or.inr ⟨by rfl, rfl⟩) hHeld ?r119
            simp only [Act.put, List.getElem_toArray, List.getElem_cons_zero, List.getElem_cons_succ, List.setIfInBounds_toArray, List.set_cons_zero, List.set_cons_succ]
            refine Still.takeBy (i := 21) [32, 22] (by kernel_rfl) (by kernel_rfl) rfl (by kernel_rfl) (by kernel_rfl) (by kernel_rfl) (fun _ _ _ h => h) (Or.inr ⟨by rfl, rfl⟩) hHeld ?r120
            simp only [Act.put, List.getElem_toArray, List.getElem_cons_zero, List.getElem_cons_succ, List.setIfInBounds_toArray, List.set_cons_zero, List.set_cons_succ]
            refine Still.takeBy (i := 22) [32] (by kernel_rfl) (by kernel_rfl) rfl (by kernel_rfl) (by kernel_rfl) (by kernel_rfl) (fun _ _ _ h => h) (Or.inr ⟨by rfl, rfl⟩) hHeld ?r121
            simp only [Act.put, List.getElem_toArray, List.getElem_cons_zero, List.getElem_cons_succ, List.setIfInBounds_toArray, List.set_cons_zero, List.set_cons_succ]
            refine Still.takeBy (i := 23) [32, 31, 30] (by kernel_rfl) (by kernel_rfl) rfl (by kernel_rfl) (by kernel_rfl) (by kernel_rfl) (fun _ _ _ h => h) (Or.inr ⟨by rfl, rfl⟩) hHeld ?r122
            simp only [Act.put, List.getElem_toArray, List.getElem_cons_zero, List.getElem_cons_succ, List.setIfInBounds_toArray, List.set_cons_zero, List.set_cons_succ]
            refine Still.takeBy (i := 24) [32, 31, 30, 29, 28, 25] (by kernel_rfl) (by kernel_rfl) rfl (by kernel_rfl) (by kernel_rfl) (by kernel_rfl) (fun _ _ _ h => h) (Or.inr ⟨by rfl, rfl⟩) hHeld ?r123
            simp only [Act.put, List.getElem_toArray, List.getElem_cons_zero, List.getElem_cons_succ, List.setIfInBounds_toArray, List.set_cons_zero, List.set_cons_succ]
            refine Still.takeBy (i := 25) [32, 31, 30, 29, 28] (by kernel_rfl) (by kernel_rfl) rfl (by kernel_rfl) (by kernel_rfl) (by kernel_rfl) (fun _ _ _ h => h) (Or.inr ⟨by rfl, rfl⟩) hHeld ?r124
            simp only [Act.put, List.getElem_toArray, List.getElem_cons_zero, List.getElem_cons_succ, List.setIfInBounds_toArray, List.set_cons_zero, List.set_cons_succ]
            refine Still.takeBy (i := 26) [32, 31, 30, 29, 28, 27] (by kernel_rfl) (by kernel_rfl) rfl (by kernel_rfl) (by kernel_rfl) (by kernel_rfl) (fun _ _ _ h => h) (Or.inr ⟨by rfl, rfl⟩) hHeld ?r125
            simp only [Act.put, List.getElem_toArray, List.getElem_cons_zero, List.getElem_cons_succ, List.setIfInBounds_toArray, List.set_cons_zero, List.set_cons_succ]
            refine Still.takeBy (i := 27) [32, 31, 30, 29, 28] (by kernel_rfl) (by kernel_rfl) rfl (by kernel_rfl) (by kernel_rfl) (by kernel_rfl) (fun _ _ _ h => h) (Or.inr ⟨by rfl, rfl⟩) hHeld ?r126
            simp only [Act.put, List.getElem_toArray, List.getElem_cons_zero, List.getElem_cons_succ, List.setIfInBounds_toArray, List.set_cons_zero, List.set_cons_succ]
            refine Still.takeBy (i := 28) [32, 31, 30, 29] (by kernel_rfl) (by kernel_rfl) rfl (by kernel_rfl) (by kernel_rfl) (by kernel_rfl) (fun _ _ _ h => h) (Or.inr ⟨by rfl, rfl⟩) hHeld ?r127
            simp only [Act.put, List.getElem_toArray, List.getElem_cons_zero, List.getElem_cons_succ, List.setIfInBounds_toArray, List.set_cons_zero, List.set_cons_succ]
            refine Still.takeBy (i := 29) [32, 31, 30] (by kernel_rfl) (by kernel_rfl) rfl (by kernel_rfl) (by kernel_rfl) (by kernel_rfl) (fun _ _ _ h => h) (Or.inr ⟨by rfl, rfl⟩) hHeld ?r128
            simp only [Act.put, List.getElem_toArray, List.getElem_cons_zero, List.getElem_cons_succ, List.setIfInBounds_toArray, List.set_cons_zero, List.set_cons_succ]
            refine Still.takeBy (i := 30) [32, 31] (by kernel_rfl) (by kernel_rfl) rfl (by kernel_rfl) (by kernel_rfl) (by kernel_rfl) (fun _ _ _ h => h) (Or.inr ⟨by rfl, rfl⟩) hHeld ?r129
            simp only [Act.put, List.getElem_toArray, List.getElem_cons_zero, List.getElem_cons_succ, List.setIfInBounds_toArray, List.set_cons_zero, List.set_cons_succ]
            refine Still.takeBy (i := 31) [32] (by kernel_rfl) (by kernel_rfl) rfl (by kernel_rfl) (by kernel_rfl) (by kernel_rfl) (fun _ _ _ h => h) (Or.inr ⟨by rfl, rfl⟩) hHeld ?r130
            simp only [Act.put, List.getElem_toArray, List.getElem_cons_zero, List.getElem_cons_succ, List.setIfInBounds_toArray, List.set_cons_zero, List.set_cons_succ]
            refine Still.takeBy (i := 32) [] (by kernel_rfl) (by kernel_rfl) rfl (by kernel_rfl) (by kernel_rfl) (by kernel_rfl) (fun _ _ _ h => h) (Or.inr ⟨by rfl, rfl⟩) hHeld ?r131
            simp only [Act.put, List.getElem_toArray, List.getElem_cons_zero, List.getElem_cons_succ, List.setIfInBounds_toArray, List.set_cons_zero, List.set_cons_succ]
            refine Still.all (rs := [33]) (by kernel_rfl) (by simp) (Still.one (i := 33) rfl rfl (fun K hK => ?_) (by simp))
            go_simp
            refine hK _ _ (fun h => absurd rfl h) (fun _ => ?_)
            clear hK K
            refine Still.over (by kernel_rfl) ?_ _
            clear hHeld
            have HV : Hid (RowKit.Below wr.heap.size wr X.drew) := Lib.hid (HX.out.trans (RowKit.Below.refl _ _).drew)
            go_wp2
            go_ret
            exact ⟨ret_int HBAD.out.symm, HT.out.trans (HV.out.mono HT.out.size)⟩
          | true =>
            by_cases hC : ef = et
            · have HBAD := Lib.hid (HC.out.symm.trans (polE_one HR.out (HB1.out (by simp [hC]))))
              subst hC
              clear HB1 HB2 HST
              go_upto_region 9 with fail
              have HX : Hid (RowKit.Below wr.heap.size wr (wr.alloc (.cells #[.int .i64 ef, .int .i64 ef] 37))) := Lib.hid ((RowKit.Below.refl _ _).alloc (Nat.le_refl _) _)
              have x0 : (wr.alloc (.cells #[.int .i64 ef, .int .i64 ef] 37)).cell? ⟨wr.heap.size, 0, none⟩ = some (.int .i64 ef) := by simp
              have x1 : (wr.alloc (.cells #[.int .i64 ef, .int .i64 ef] 37)).cell? ⟨wr.heap.size, 1, none⟩ = some (.int .i64 ef) := by simp
              have hxs : wr.heap.size < (wr.alloc (.cells #[.int .i64 ef, .int .i64 ef] 37)).heap.size := by simp
              have y0 := bcl HX.out (by omega) hb1
              generalize wr.alloc (.cells #[.int .i64 ef, .int .i64 ef] 37) = X at HX x0 x1 hxs y0 ⊢
              refine region_still (S := fun w' => w'.cell? ⟨wr.heap.size, 0, none⟩ = some (.int .i64 ef) ∧ w'.cell? ⟨wr.heap.size, 1, none⟩ = some (.int .i64 ef) ∧ w'.cell? ⟨w.heap.size + 1, 0, none⟩ = some (.slice (some ⟨pb, po, none⟩) L.length lc)) 33 (by kernel_rfl) ⟨x0, x1, y0⟩ (fun hHeld => ?_)
              refine Still.takeBy (i := 0) [19, 12, 11, 5, 3, 1] (v := ?v201) (by kernel_rfl) (by kernel_rfl) rfl (by kernel_rfl) (by kernel_rfl) (by kernel_rfl) (fun _ _ _ h => h) (Or.inl ⟨by rfl, ?y201⟩) hHeld ?r201
              case y201 => (intro w' hSw; (try dsimp only at hSw); obtain ⟨q0, q1, q2⟩ := hSw; go_simp; try with_reducible rfl)
              simp only [Act.put, List.getElem_toArray, List.getElem_cons_zero, List.getElem_cons_succ, List.setIfInBounds_toArray, List.set_cons_zero, List.set_cons_succ]
              refine Still.takeBy (i := 1) [19, 12, 11, 5, 3] (v := ?v202) (by kernel_rfl) (by kernel_rfl) rfl (by kernel_rfl) (by kernel_rfl) (by kernel_rfl) (fun _ _ _ h => h) (Or.inl ⟨by rfl, ?y202⟩) hHeld ?r202
              case y202 => (intro w' hSw; (try dsimp only at hSw); obtain ⟨q0, q1, q2⟩ := hSw; go_simp; try with_reducible rfl)
              simp only [Act.put, List.getElem_toArray, List.getElem_cons_zero, List.getElem_cons_succ, List.setIfInBounds_toArray, List.set_cons_zero, List.set_cons_succ]
              refine Still.takeBy (i := 2) [19, 12, 11, 5, 3] (v := ?v203) (by kernel_rfl) (by kernel_rfl) rfl (by kernel_rfl) (by kernel_rfl) (by kernel_rfl) (fun _ _ _ h => h) (Or.inl ⟨by rfl, ?y203⟩) hHeld ?r203
              case y203 => (intro w' hSw; (try dsimp only at hSw); obtain ⟨q0, q1, q2⟩ := hSw; go_simp; try with_reducible rfl)
              simp only [Act.put, List.getElem_toArray, List.getElem_cons_zero, List.getElem_cons_succ, List.setIfInBounds_toArray, List.set_cons_zero, List.set_cons_succ]
              refine Still.all (rs := [3]) (by kernel_rfl) (by simp) (Still.one (i := 3) rfl rfl (fun K hK => ?_) (by simp))
              refine wp_call 32 _ _ rfl ent_within #[.int .i64 ef, .int .i64 0, .int .i64 ((S.parts.length : Int) - 1)] (by first | rfl | simp [Act.eval, Act.put, Edg.v]) ((within_any _ _ _ _).mono ?_)
              rintro e V ⟨rfl, rfl⟩
              refine ⟨_, rfl, hK _ _ (fun _ => hHeld) (fun hh => ?_)⟩
              clear hK K hh
              try simp only [Act.put, List.getElem_toArray, List.getElem_cons_zero, List.getElem_cons_succ, List.setIfInBounds_toArray, List.set_cons_zero, List.set_cons_succ]
              rw [hA]
              refine Still.takeBy (i := 4) [19, 12, 11, 5] (v := ?v204) (by kernel_rfl) (by kernel_rfl) rfl (by kernel_rfl) (by kernel_rfl) (by kernel_rfl) (fun _ _ _ h => h) (Or.inl ⟨by rfl, ?y204⟩) hHeld ?r204
              case y204 => (intro w' hSw; (try dsimp only at hSw); obtain ⟨q0, q1, q2⟩ := hSw; go_simp; try with_reducible rfl)
              simp only [Act.put, List.getElem_toArray, List.getElem_cons_zero, List.getElem_cons_succ, List.setIfInBounds_toArray, List.set_cons_zero, List.set_cons_succ]
              refine Still.takeBy (i := 5) [19, 12, 11] (v := ?v205) (by kernel_rfl) (by kernel_rfl) rfl (by kernel_rfl) (by kernel_rfl) (by kernel_rfl) (fun _ _ _ h => h) (Or.inl ⟨by rfl, ?y205⟩) hHeld ?r205
              case y205 => (intro w' hSw; (try dsimp only at hSw); obtain ⟨q0, q1, q2⟩ := hSw; go_simp; try with_reducible rfl)
              simp only [Act.put, List.getElem_toArray, List.getElem_cons_zero, List.getElem_cons_succ, List.setIfInBounds_toArray, List.set_cons_zero, List.set_cons_succ]
              refine Still.takeBy (i := 6) [19, 12, 9, 7] (v := ?v206) (by kernel_rfl) (by kernel_rfl) rfl (by kernel_rfl) (by kernel_rfl) (by kernel_rfl) (fun _ _ _ h => h) (Or.inl ⟨by rfl, ?y206⟩) hHeld ?r206
              case y206 => (intro w' hSw; (try dsimp only at hSw); obtain ⟨q0, q1, q2⟩ := hSw; go_simp; try with_reducible rfl)
              simp only [Act.put, List.getElem_toArray, List.getElem_cons_zero, List.getElem_cons_succ, List.setIfInBounds_toArray, List.set_cons_zero, List.set_cons_succ]
              refine Still.takeBy (i := 7) [19, 12, 9] (v := ?v207) (by kernel_rfl) (by kernel_rfl) rfl (by kernel_rfl) (by kernel_rfl) (by kernel_rfl) (fun _ _ _ h => h) (Or.inl ⟨by rfl, ?y207⟩) hHeld ?r207
              case y207 => (intro w' hSw; (try dsimp only at hSw); obtain ⟨q0, q1, q2⟩ := hSw; go_simp; try with_reducible rfl)
              simp only [Act.put, List.getElem_toArray, List.getElem_cons_zero, List.getElem_cons_succ, List.setIfInBounds_toArray, List.set_cons_zero, List.set_cons_succ]
              refine Still.takeBy (i := 8) [19, 12, 9] (v := ?v208) (by kernel_rfl) (by kernel_rfl) rfl (by kernel_rfl) (by kernel_rfl) (by kernel_rfl) (fun _ _ _ h => h) (Or.inl ⟨by rfl, ?y208⟩) hHeld ?r208
              case y208 => (intro w' hSw; (try dsimp only at hSw); obtain ⟨q0, q1, q2⟩ := hSw; go_simp; try with_reducible rfl)
              simp only [Act.put, List.getElem_toArray, List.getElem_cons_zero, List.getElem_cons_succ, List.setIfInBounds_toArray, List.set_cons_zero, List.set_cons_succ]
              refine Still.all (rs := [9]) (by kernel_rfl) (by simp) (Still.oneG (i := 9) rfl (by rfl) (fun K hK => ?_) (by simp))
              refine wp_call 32 _ _ rfl ent_within #[.int .i64 ef, .int .i64 0, .int .i64 ((S.parts.length : Int) - 1)] (by first | rfl | simp [Act.eval, Act.put, Edg.v]) ((within_any _ _ _ _).mono ?_)
              rintro e V ⟨rfl, rfl⟩
              refine ⟨_, rfl, hK _ _ (fun _ => hHeld) (fun hh => ?_)⟩
              clear hK K hh
              try simp only [Act.put, List.getElem_toArray, List.getElem_cons_zero, List.getElem_cons_succ, List.setIfInBounds_toArray, List.set_cons_zero, List.set_cons_succ]
              rw [hB]
              refine Still.takeBy (i := 10) [19, 12, 11] (v := ?v209) (by kernel_rfl) (by kernel_rfl) rfl (by kernel_rfl) (by kernel_rfl) (by kernel_rfl) (fun _ _ _ h => h) (Or.inl ⟨by rfl, ?y209⟩) hHeld ?r209
              case y209 => (intro w' hSw; (try dsimp only at hSw); obtain ⟨q0, q1, q2⟩ := hSw; go_simp; try with_reducible rfl)
              simp only [Act.put, List.getElem_toArray, List.getElem_cons_zero, List.getElem_cons_succ, List.setIfInBounds_toArray, List.set_cons_zero, List.set_cons_succ]
              refine Still.takeBy (i := 11) [19, 12] (v := ?v210) (by kernel_rfl) (by kernel_rfl) rfl (by kernel_rfl) (by kernel_rfl) (by kernel_rfl) (fun _ _ _ h => h) (Or.inl ⟨by rfl, ?y210⟩) hHeld ?r210
              case y210 => (intro w' hSw; (try dsimp only at hSw); obtain ⟨q0, q1, q2⟩ := hSw; go_simp; try with_reducible rfl)
              simp only [Act.put, List.getElem_toArray, List.getElem_cons_zero, List.getElem_cons_succ, List.setIfInBounds_toArray, List.set_cons_zero, List.set_cons_succ]
              refine Still.takeBy (i := 12) [19] (v := ?v211) (by kernel_rfl) (by kernel_rfl) rfl (by kernel_rfl) (by kernel_rfl) (by kernel_rfl) (fun _ _ _ h => h) (Or.inl ⟨by rfl, ?y211⟩) hHeld ?r211
              case y211 => (intro w' hSw; (try dsimp only at hSw); obtain ⟨q0, q1, q2⟩ := hSw; go_simp; try with_reducible rfl)
              simp only [Act.put, List.getElem_toArray, List.getElem_cons_zero, List.getElem_cons_succ, List.setIfInBounds_toArray, List.set_cons_zero, List.set_cons_succ]
              refine Still.takeBy (i := 13) [19, 18, 17, 14] (v := ?v212) (by kernel_rfl) (by kernel_rfl) rfl (by kernel_rfl) (by kernel_rfl) (by kernel_rfl) (fun _ _ _ h => h) (Or.inl ⟨by rfl, ?y212⟩) hHeld ?r212
              case y212 => (intro w' hSw; (try dsimp only at hSw); obtain ⟨q0, q1, q2⟩ := hSw; go_simp; try with_reducible rfl)
              simp only [Act.put, List.getElem_toArray, List.getElem_cons_zero, List.getElem_cons_succ, List.setIfInBounds_toArray, List.set_cons_zero, List.set_cons_succ]
              refine Still.takeBy (i := 14) [19, 18, 17] (v := ?v213) (by kernel_rfl) (by kernel_rfl) rfl (by kernel_rfl) (by kernel_rfl) (by kernel_rfl) (fun _ _ _ h => h) (Or.inl ⟨by rfl, ?y213⟩) hHeld ?r213
              case y213 => (intro w' hSw; (try dsimp only at hSw); obtain ⟨q0, q1, q2⟩ := hSw; go_simp; try with_reducible rfl)
              simp only [Act.put, List.getElem_toArray, List.getElem_cons_zero, List.getElem_cons_succ, List.setIfInBounds_toArray, List.set_cons_zero, List.set_cons_succ]
              refine Still.takeBy (i := 15) [19, 18, 17, 16] (v := ?v214) (by kernel_rfl) (by kernel_rfl) rfl (by kernel_rfl) (by kernel_rfl) (by kernel_rfl) (fun _ _ _ h => h) (Or.inl ⟨by rfl, ?y214⟩) hHeld ?r214
              case y214 => (intro w' hSw; (try dsimp only at hSw); obtain ⟨q0, q1, q2⟩ := hSw; go_simp; try with_reducible rfl)
              simp only [Act.put, List.getElem_toArray, List.getElem_cons_zero, List.getElem_cons_succ, List.setIfInBounds_toArray, List.set_cons_zero, List.set_cons_succ]
              refine Still.takeBy (i := 16) [19, 18, 17] (v := ?v215) (by kernel_rfl) (by kernel_rfl) rfl (by kernel_rfl) (by kernel_rfl) (by kernel_rfl) (fun _ _ _ h => h) (Or.inl ⟨by rfl, ?y215⟩) hHeld ?r215
              case y215 => (intro w' hSw; (try dsimp only at hSw); obtain ⟨q0, q1, q2⟩ := hSw; go_simp; try with_reducible rfl)
              simp only [Act.put, List.getElem_toArray, List.getElem_cons_zero, List.getElem_cons_succ, List.setIfInBounds_toArray, List.set_cons_zero, List.set_cons_succ]
              refine Still.takeBy (i := 17) [19, 18] (v := ?v216) (by kernel_rfl) (by kernel_rfl) rfl (by kernel_rfl) (by kernel_rfl) (by kernel_rfl) (fun _ _ _ h => h) (Or.inl ⟨by rfl, ?y216⟩) hHeld ?r216
              case y216 => (intro w' hSw; (try dsimp only at hSw); obtain ⟨q0, q1, q2⟩ := hSw; go_simp; try with_reducible rfl)
              simp only [Act.put, List.getElem_toArray, List.getElem_cons_zero, List.getElem_cons_succ, List.setIfInBounds_toArray, List.set_cons_zero, List.set_cons_succ]
              refine Still.takeBy (i := 18) [19] (v := ?v217) (by kernel_rfl) (by kernel_rfl) rfl (by kernel_rfl) (by kernel_rfl) (by kernel_rfl) (fun _ _ _ h => h) (Or.inl ⟨by rfl, ?y217⟩) hHeld ?r217
              case y217 => (intro w' hSw; (try dsimp only at hSw); obtain ⟨q0, q1, q2⟩ := hSw; go_simp; try with_reducible rfl)
              simp only [Act.put, List.getElem_toArray, List.getElem_cons_zero, List.getElem_cons_succ, List.setIfInBounds_toArray, List.set_cons_zero, List.set_cons_succ]
              refine Still.takeBy (i := 19) [] (v := ?v218) (by kernel_rfl) (by kernel_rfl) rfl (by kernel_rfl) (by kernel_rfl) (by kernel_rfl) (fun _ _ _ h => h) (Or.inl ⟨by rfl, ?y218⟩) hHeld ?r218
              case y218 => (intro w' hSw; (try dsimp only at hSw); obtain ⟨q0, q1, q2⟩ := hSw; go_simp; try with_reducible rfl)
              simp only [Act.put, List.getElem_toArray, List.getElem_cons_zero, List.getElem_cons_succ, List.setIfInBounds_toArray, List.set_cons_zero, List.set_cons_succ]
              refine Still.takeBy (i := 20) [32, 22, 21] (by kernel_rfl) (by kernel_rfl) rfl (by kernel_rfl) (by kernel_rfl) (by kernel_rfl) (fun _ _ _ h => h) (Or.inr ⟨by rfl, rfl⟩) hHeld ?r219
              simp only [Act.put, List.getElem_toArray, List.getElem_cons_zero, List.getElem_cons_succ, List.setIfInBounds_toArray, List.set_cons_zero, List.set_cons_succ]
              refine Still.takeBy (i := 21) [32, 22] (by kernel_rfl) (by kernel_rfl) rfl (by kernel_rfl) (by kernel_rfl) (by kernel_rfl) (fun _ _ _ h => h) (Or.inr ⟨by rfl, rfl⟩) hHeld ?r220
              simp only [Act.put, List.getElem_toArray, List.getElem_cons_zero, List.getElem_cons_succ, List.setIfInBounds_toArray, List.set_cons_zero, List.set_cons_succ]
              refine Still.takeBy (i := 22) [32] (by kernel_rfl) (by kernel_rfl) rfl (by kernel_rfl) (by kernel_rfl) (by kernel_rfl) (fun _ _ _ h => h) (Or.inr ⟨by rfl, rfl⟩) hHeld ?r221
              simp only [Act.put, List.getElem_toArray, List.getElem_cons_zero, List.getElem_cons_succ, List.setIfInBounds_toArray, List.set_cons_zero, List.set_cons_succ]
              refine Still.takeBy (i := 23) [32, 31, 30] (by kernel_rfl) (by kernel_rfl) rfl (by kernel_rfl) (by kernel_rfl) (by kernel_rfl) (fun _ _ _ h => h) (Or.inr ⟨by rfl, rfl⟩) hHeld ?r222
              simp only [Act.put, List.getElem_toArray, List.getElem_cons_zero, List.getElem_cons_succ, List.setIfInBounds_toArray, List.set_cons_zero, List.set_cons_succ]
              refine Still.takeBy (i := 24) [32, 31, 30, 29, 28, 25] (by kernel_rfl) (by kernel_rfl) rfl (by kernel_rfl) (by kernel_rfl) (by kernel_rfl) (fun _ _ _ h => h) (Or.inr ⟨by rfl, rfl⟩) hHeld ?r223
              simp only [Act.put, List.getElem_toArray, List.getElem_cons_zero, List.getElem_cons_succ, List.setIfInBounds_toArray, List.set_cons_zero, List.set_cons_succ]
              refine Still.takeBy (i := 25) [32, 31, 30, 29, 28] (by kernel_rfl) (by kernel_rfl) rfl (by kernel_rfl) (by kernel_rfl) (by kernel_rfl) (fun _ _ _ h => h) (Or.inr ⟨by rfl, rfl⟩) hHeld ?r224
              simp only [Act.put, List.getElem_toArray, List.getElem_cons_zero, List.getElem_cons_succ, List.setIfInBounds_toArray, List.set_cons_zero, List.set_cons_succ]
              refine Still.takeBy (i := 26) [32, 31, 30, 29, 28, 27] (by kernel_rfl) (by kernel_rfl) rfl (by kernel_rfl) (by kernel_rfl) (by kernel_rfl) (fun _ _ _ h => h) (Or.inr ⟨by rfl, rfl⟩) hHeld ?r225
              simp only [Act.put, List.getElem_toArray, List.getElem_cons_zero, List.getElem_cons_succ, List.setIfInBounds_toArray, List.set_cons_zero, List.set_cons_succ]
              refine Still.takeBy (i := 27) [32, 31, 30, 29, 28] (by kernel_rfl) (by kernel_rfl) rfl (by kernel_rfl) (by kernel_rfl) (by kernel_rfl) (fun _ _ _ h => h) (Or.inr ⟨by rfl, rfl⟩) hHeld ?r226
              simp only [Act.put, List.getElem_toArray, List.getElem_cons_zero, List.getElem_cons_succ, List.setIfInBounds_toArray, List.set_cons_zero, List.set_cons_succ]
              refine Still.takeBy (i := 28) [32, 31, 30, 29] (by kernel_rfl) (by kernel_rfl) rfl (by kernel_rfl) (by kernel_rfl) (by kernel_rfl) (fun _ _ _ h => h) (Or.inr ⟨by rfl, rfl⟩) hHeld ?r227
              simp only [Act.put, List.getElem_toArray, List.getElem_cons_zero, List.getElem_cons_succ, List.setIfInBounds_toArray, List.set_cons_zero, List.set_cons_succ]
              refine Still.takeBy (i := 29) [32, 31, 30] (by kernel_rfl) (by kernel_rfl) rfl (by kernel_rfl) (by kernel_rfl) (by kernel_rfl) (fun _ _ _ h => h) (Or.inr ⟨by rfl, rfl⟩) hHeld ?r228
              simp only [Act.put, List.getElem_toArray, List.getElem_cons_zero, List.getElem_cons_succ, List.setIfInBounds_toArray, List.set_cons_zero, List.set_cons_succ]
              refine Still.takeBy (i := 30) [32, 31] (by kernel_rfl) (by kernel_rfl) rfl (by kernel_rfl) (by kernel_rfl) (by kernel_rfl) (fun _ _ _ h => h) (Or.inr ⟨by rfl, rfl⟩) hHeld ?r229
              simp only [Act.put, List.getElem_toArray, List.getElem_cons_zero, List.getElem_cons_succ, List.setIfInBounds_toArray, List.set_cons_zero, List.set_cons_succ]
              refine Still.takeBy (i := 31) [32] (by kernel_rfl) (by kernel_rfl) rfl (by kernel_rfl) (by kernel_rfl) (by kernel_rfl) (fun _ _ _ h => h) (Or.inr ⟨by rfl, rfl⟩) hHeld ?r230
              simp only [Act.put, List.getElem_toArray, List.getElem_cons_zero, List.getElem_cons_succ, List.setIfInBounds_toArray, List.set_cons_zero, List.set_cons_succ]
              refine Still.takeBy (i := 32) [] (by kernel_rfl) (by kernel_rfl) rfl (by kernel_rfl) (by kernel_rfl) (by kernel_rfl) (fun _ _ _ h => h) (Or.inr ⟨by rfl, rfl⟩) hHeld ?r231
              simp only [Act.put, List.getElem_toArray, List.getElem_cons_zero, List.getElem_cons_succ, List.setIfInBounds_toArray, List.set_cons_zero, List.set_cons_succ]
              refine Still.all (rs := [33]) (by kernel_rfl) (by simp) (Still.one (i := 33) rfl rfl (fun K hK => ?_) (by simp))
              go_simp
              refine hK _ _ (fun h => absurd rfl h) (fun _ => ?_)
              clear hK K
              refine Still.over (by kernel_rfl) ?_ _
              clear hHeld
              have HV : Hid (RowKit.Below wr.heap.size wr X.drew) := Lib.hid (HX.out.trans (RowKit.Below.refl _ _).drew)
              go_wp2
              go_ret
              exact ⟨ret_int HBAD.out.symm, HT.out.trans (HV.out.mono HT.out.size)⟩
            · have hC' : (ef == et) = false := by simpa using hC
              rcases Nat.eq_zero_or_pos k with e0 | h0
              · subst e0
                have HS2 := Lib.hid (HST.out ⟨hA, hB, hC⟩ (fun h => by omega))
                clear HB1 HB2 HST hC
                simp only [Nat.zero_mul, Nat.add_zero, Nat.zero_add] at c0 c1
                go_upto_region 9 with fail
                have HX : Hid (RowKit.Below wr.heap.size wr (wr.alloc (.cells #[.int .i64 ef, .int .i64 et] 37))) := Lib.hid ((RowKit.Below.refl _ _).alloc (Nat.le_refl _) _)
                have x0 : (wr.alloc (.cells #[.int .i64 ef, .int .i64 et] 37)).cell? ⟨wr.heap.size, 0, none⟩ = some (.int .i64 ef) := by simp
                have x1 : (wr.alloc (.cells #[.int .i64 ef, .int .i64 et] 37)).cell? ⟨wr.heap.size, 1, none⟩ = some (.int .i64 et) := by simp
                have hxs : wr.heap.size < (wr.alloc (.cells #[.int .i64 ef, .int .i64 et] 37)).heap.size := by simp
                have y0 := bcl HX.out (by omega) hb1
                generalize wr.alloc (.cells #[.int .i64 ef, .int .i64 et] 37) = X at HX x0 x1 hxs y0 ⊢
                refine region_still (S := fun w' => w'.cell? ⟨wr.heap.size, 0, none⟩ = some (.int .i64 ef) ∧ w'.cell? ⟨wr.heap.size, 1, none⟩ = some (.int .i64 et) ∧ w'.cell? ⟨w.heap.size + 1, 0, none⟩ = some (.slice (some ⟨pb, po, none⟩) L.length lc)) 33 (by kernel_rfl) ⟨x0, x1, y0⟩ (fun hHeld => ?_)
                refine Still.takeBy (i := 0) [19, 12, 11, 5, 3, 1] (v := ?v301) (by kernel_rfl) (by kernel_rfl) rfl (by kernel_rfl) (by kernel_rfl) (by kernel_rfl) (fun _ _ _ h => h) (Or.inl ⟨by rfl, ?y301⟩) hHeld ?r301
                case y301 => (intro w' hSw; (try dsimp only at hSw); obtain ⟨q0, q1, q2⟩ := hSw; go_simp; try with_reducible rfl)
                simp only [Act.put, List.getElem_toArray, List.getElem_cons_zero, List.getElem_cons_succ, List.setIfInBounds_toArray, List.set_cons_zero, List.set_cons_succ]
                refine Still.takeBy (i := 1) [19, 12, 11, 5, 3] (v := ?v302) (by kernel_rfl) (by kernel_rfl) rfl (by kernel_rfl) (by kernel_rfl) (by kernel_rfl) (fun _ _ _ h => h) (Or.inl ⟨by rfl, ?y302⟩) hHeld ?r302
                case y302 => (intro w' hSw; (try dsimp only at hSw); obtain ⟨q0, q1, q2⟩ := hSw; go_simp; try with_reducible rfl)
                simp only [Act.put, List.getElem_toArray, List.getElem_cons_zero, List.getElem_cons_succ, List.setIfInBounds_toArray, List.set_cons_zero, List.set_cons_succ]
                refine Still.takeBy (i := 2) [19, 12, 11, 5, 3] (v := ?v303) (by kernel_rfl) (by kernel_rfl) rfl (by kernel_rfl) (by kernel_rfl) (by kernel_rfl) (fun _ _ _ h => h) (Or.inl ⟨by rfl, ?y303⟩) hHeld ?r303
                case y303 => (intro w' hSw; (try dsimp only at hSw); obtain ⟨q0, q1, q2⟩ := hSw; go_simp; try with_reducible rfl)
                simp only [Act.put, List.getElem_toArray, List.getElem_cons_zero, List.getElem_cons_succ, List.setIfInBounds_toArray, List.set_cons_zero, List.set_cons_succ]
                refine Still.all (rs := [3]) (by kernel_rfl) (by simp) (Still.one (i := 3) rfl rfl (fun K hK => ?_) (by simp))
                refine wp_call 32 _ _ rfl ent_within #[.int .i64 ef, .int .i64 0, .int .i64 ((S.parts.length : Int) - 1)] (by first | rfl | simp [Act.eval, Act.put, Edg.v]) ((within_any _ _ _ _).mono ?_)
                rintro e V ⟨rfl, rfl⟩
                refine ⟨_, rfl, hK _ _ (fun _ => hHeld) (fun hh => ?_)⟩
                clear hK K hh
                try simp only [Act.put, List.getElem_toArray, List.getElem_cons_zero, List.getElem_cons_succ, List.setIfInBounds_toArray, List.set_cons_zero, List.set_cons_succ]
                rw [hA]
                refine Still.takeBy (i := 4) [19, 12, 11, 5] (v := ?v304) (by kernel_rfl) (by kernel_rfl) rfl (by kernel_rfl) (by kernel_rfl) (by kernel_rfl) (fun _ _ _ h => h) (Or.inl ⟨by rfl, ?y304⟩) hHeld ?r304
                case y304 => (intro w' hSw; (try dsimp only at hSw); obtain ⟨q0, q1, q2⟩ := hSw; go_simp; try with_reducible rfl)
                simp only [Act.put, List.getElem_toArray, List.getElem_cons_zero, List.getElem_cons_succ, List.setIfInBounds_toArray, List.set_cons_zero, List.set_cons_succ]
                refine Still.takeBy (i := 5) [19, 12, 11] (v := ?v305) (by kernel_rfl) (by kernel_rfl) rfl (by kernel_rfl) (by kernel_rfl) (by kernel_rfl) (fun _ _ _ h => h) (Or.inl ⟨by rfl, ?y305⟩) hHeld ?r305
                case y305 => (intro w' hSw; (try dsimp only at hSw); obtain ⟨q0, q1, q2⟩ := hSw; go_simp; try with_reducible rfl)
                simp only [Act.put, List.getElem_toArray, List.getElem_cons_zero, List.getElem_cons_succ, List.setIfInBounds_toArray, List.set_cons_zero, List.set_cons_succ]
                refine Still.takeBy (i := 6) [19, 12, 9, 7] (v := ?v306) (by kernel_rfl) (by kernel_rfl) rfl (by kernel_rfl) (by kernel_rfl) (by kernel_rfl) (fun _ _ _ h => h) (Or.inl ⟨by rfl, ?y306⟩) hHeld ?r306
                case y306 => (intro w' hSw; (try dsimp only at hSw); obtain ⟨q0, q1, q2⟩ := hSw; go_simp; try with_reducible rfl)
                simp only [Act.put, List.getElem_toArray, List.getElem_cons_zero, List.getElem_cons_succ, List.setIfInBounds_toArray, List.set_cons_zero, List.set_cons_succ]
                refine Still.takeBy (i := 7) [19, 12, 9] (v := ?v307) (by kernel_rfl) (by kernel_rfl) rfl (by kernel_rfl) (by kernel_rfl) (by kernel_rfl) (fun _ _ _ h => h) (Or.inl ⟨by rfl, ?y307⟩) hHeld ?r307
                case y307 => (intro w' hSw; (try dsimp only at hSw); obtain ⟨q0, q1, q2⟩ := hSw; go_simp; try with_reducible rfl)
                simp only [Act.put, List.getElem_toArray, List.getElem_cons_zero, List.getElem_cons_succ, List.setIfInBounds_toArray, List.set_cons_zero, List.set_cons_succ]
                refine Still.takeBy (i := 8) [19, 12, 9] (v := ?v308) (by kernel_rfl) (by kernel_rfl) rfl (by kernel_rfl) (by kernel_rfl) (by kernel_rfl) (fun _ _ _ h => h) (Or.inl ⟨by rfl, ?y308⟩) hHeld ?r308
                case y308 => (intro w' hSw; (try dsimp only at hSw); obtain ⟨q0, q1, q2⟩ := hSw; go_simp; try with_reducible rfl)
                simp only [Act.put, List.getElem_toArray, List.getElem_cons_zero, List.getElem_cons_succ, List.setIfInBounds_toArray, List.set_cons_zero, List.set_cons_succ]
                refine Still.all (rs := [9]) (by kernel_rfl) (by simp) (Still.oneG (i := 9) rfl (by rfl) (fun K hK => ?_) (by simp))
                refine wp_call 32 _ _ rfl ent_within #[.int .i64 et, .int .i64 0, .int .i64 ((S.parts.length : Int) - 1)] (by first | rfl | simp [Act.eval, Act.put, Edg.v]) ((within_any _ _ _ _).mono ?_)
                rintro e V ⟨rfl, rfl⟩
                refine ⟨_, rfl, hK _ _ (fun _ => hHeld) (fun hh => ?_)⟩
                clear hK K hh
                try simp only [Act.put, List.getElem_toArray, List.getElem_cons_zero, List.getElem_cons_succ, List.setIfInBounds_toArray, List.set_cons_zero, List.set_cons_succ]
                rw [hB]
                refine Still.takeBy (i := 10) [19, 12, 11] (v := ?v309) (by kernel_rfl) (by kernel_rfl) rfl (by kernel_rfl) (by kernel_rfl) (by kernel_rfl) (fun _ _ _ h => h) (Or.inl ⟨by rfl, ?y309⟩) hHeld ?r309
                case y309 => (intro w' hSw; (try dsimp only at hSw); obtain ⟨q0, q1, q2⟩ := hSw; go_simp; try with_reducible rfl)
                simp only [Act.put, List.getElem_toArray, List.getElem_cons_zero, List.getElem_cons_succ, List.setIfInBounds_toArray, List.set_cons_zero, List.set_cons_succ]
                refine Still.takeBy (i := 11) [19, 12] (v := ?v310) (by kernel_rfl) (by kernel_rfl) rfl (by kernel_rfl) (by kernel_rfl) (by kernel_rfl) (fun _ _ _ h => h) (Or.inl ⟨by rfl, ?y310⟩) hHeld ?r310
                case y310 => (intro w' hSw; (try dsimp only at hSw); obtain ⟨q0, q1, q2⟩ := hSw; go_simp; try with_reducible rfl)
                simp only [Act.put, List.getElem_toArray, List.getElem_cons_zero, List.getElem_cons_succ, List.setIfInBounds_toArray, List.set_cons_zero, List.set_cons_succ]
                refine Still.takeBy (i := 12) [19] (v := ?v311) (by kernel_rfl) (by kernel_rfl) rfl (by kernel_rfl) (by kernel_rfl) (by kernel_rfl) (fun _ _ _ h => h) (Or.inl ⟨by rfl, ?y311⟩) hHeld ?r311
                case y311 => (intro w' hSw; (try dsimp only at hSw); obtain ⟨q0, q1, q2⟩ := hSw; go_simp; try with_reducible rfl)
                simp only [Act.put, List.getElem_toArray, List.getElem_cons_zero, List.getElem_cons_succ, List.setIfInBounds_toArray, List.set_cons_zero, List.set_cons_succ]
                refine Still.takeBy (i := 13) [19, 18, 17, 14] (v := ?v312) (by kernel_rfl) (by kernel_rfl) rfl (by kernel_rfl) (by kernel_rfl) (by kernel_rfl) (fun _ _ _ h => h) (Or.inl ⟨by rfl, ?y312⟩) hHeld ?r312
                case y312 => (intro w' hSw; (try dsimp only at hSw); obtain ⟨q0, q1, q2⟩ := hSw; go_simp; try with_reducible rfl)
                simp only [Act.put, List.getElem_toArray, List.getElem_cons_zero, List.getElem_cons_succ, List.setIfInBounds_toArray, List.set_cons_zero, List.set_cons_succ]
                refine Still.takeBy (i := 14) [19, 18, 17] (v := ?v313) (by kernel_rfl) (by kernel_rfl) rfl (by kernel_rfl) (by kernel_rfl) (by kernel_rfl) (fun _ _ _ h => h) (Or.inl ⟨by rfl, ?y313⟩) hHeld ?r313
                case y313 => (intro w' hSw; (try dsimp only at hSw); obtain ⟨q0, q1, q2⟩ := hSw; go_simp; try with_reducible rfl)
                simp only [Act.put, List.getElem_toArray, List.getElem_cons_zero, List.getElem_cons_succ, List.setIfInBounds_toArray, List.set_cons_zero, List.set_cons_succ]
                refine Still.takeBy (i := 15) [19, 18, 17, 16] (v := ?v314) (by kernel_rfl) (by kernel_rfl) rfl (by kernel_rfl) (by kernel_rfl) (by kernel_rfl) (fun _ _ _ h => h) (Or.inl ⟨by rfl, ?y314⟩) hHeld ?r314
                case y314 => (intro w' hSw; (try dsimp only at hSw); obtain ⟨q0, q1, q2⟩ := hSw; go_simp; try with_reducible rfl)
                simp only [Act.put, List.getElem_toArray, List.getElem_cons_zero, List.getElem_cons_succ, List.setIfInBounds_toArray, List.set_cons_zero, List.set_cons_succ]
                refine Still.takeBy (i := 16) [19, 18, 17] (v := ?v315) (by kernel_rfl) (by kernel_rfl) rfl (by kernel_rfl) (by kernel_rfl) (by kernel_rfl) (fun _ _ _ h => h) (Or.inl ⟨by rfl, ?y315⟩) hHeld ?r315
                case y315 => (intro w' hSw; (try dsimp only at hSw); obtain ⟨q0, q1, q2⟩ := hSw; go_simp; try with_reducible rfl)
                simp only [Act.put, List.getElem_toArray, List.getElem_cons_zero, List.getElem_cons_succ, List.setIfInBounds_toArray, List.set_cons_zero, List.set_cons_succ]
                refine Still.takeBy (i := 17) [19, 18] (v := ?v316) (by kernel_rfl) (by kernel_rfl) rfl (by kernel_rfl) (by kernel_rfl) (by kernel_rfl) (fun _ _ _ h => h) (Or.inl ⟨by rfl, ?y316⟩) hHeld ?r316
                case y316 => (intro w' hSw; (try dsimp only at hSw); obtain ⟨q0, q1, q2⟩ := hSw; go_simp; try with_reducible rfl)
                simp only [Act.put, List.getElem_toArray, List.getElem_cons_zero, List.getElem_cons_succ, List.setIfInBounds_toArray, List.set_cons_zero, List.set_cons_succ]
                refine Still.takeBy (i := 18) [19] (v := ?v317) (by kernel_rfl) (by kernel_rfl) rfl (by kernel_rfl) (by kernel_rfl) (by kernel_rfl) (fun _ _ _ h => h) (Or.inl ⟨by rfl, ?y317⟩) hHeld ?r317
                case y317 => (intro w' hSw; (try dsimp only at hSw); obtain ⟨q0, q1, q2⟩ := hSw; go_simp; try with_reducible rfl)
                simp only [Act.put, List.getElem_toArray, List.getElem_cons_zero, List.getElem_cons_succ, List.setIfInBounds_toArray, List.set_cons_zero, List.set_cons_succ]
                refine Still.takeBy (i := 19) [] (v := ?v318) (by kernel_rfl) (by kernel_rfl) rfl (by kernel_rfl) (by kernel_rfl) (by kernel_rfl) (fun _ _ _ h => h) (Or.inl ⟨by rfl, ?y318⟩) hHeld ?r318
                case y318 => (intro w' hSw; (try dsimp only at hSw); obtain ⟨q0, q1, q2⟩ := hSw; go_simp; try with_reducible rfl)
                simp only [Act.put, List.getElem_toArray, List.getElem_cons_zero, List.getElem_cons_succ, List.setIfInBounds_toArray, List.set_cons_zero, List.set_cons_succ]
                refine Still.takeBy (i := 20) [32, 22, 21] (v := ?v319) (by kernel_rfl) (by kernel_rfl) rfl (by kernel_rfl) (by kernel_rfl) (by kernel_rfl) (fun _ _ _ h => h) (Or.inl ⟨by rfl, ?y319⟩) hHeld ?r319
                case y319 => (intro w' hSw; (try dsimp only at hSw); obtain ⟨q0, q1, q2⟩ := hSw; go_simp; try with_reducible rfl)
                simp only [Act.put, List.getElem_toArray, List.getElem_cons_zero, List.getElem_cons_succ, List.setIfInBounds_toArray, List.set_cons_zero, List.set_cons_succ]
                refine Still.takeBy (i := 21) [32, 22] (v := ?v320) (by kernel_rfl) (by kernel_rfl) rfl (by kernel_rfl) (by kernel_rfl) (by kernel_rfl) (fun _ _ _ h => h) (Or.inl ⟨by rfl, ?y320⟩) hHeld ?r320
                case y320 => (intro w' hSw; (try dsimp only at hSw); obtain ⟨q0, q1, q2⟩ := hSw; go_simp; try with_reducible rfl)
                simp only [Act.put, List.getElem_toArray, List.getElem_cons_zero, List.getElem_cons_succ, List.setIfInBounds_toArray, List.set_cons_zero, List.set_cons_succ]
                refine Still.takeBy (i := 22) [32] (v := ?v321) (by kernel_rfl) (by kernel_rfl) rfl (by kernel_rfl) (by kernel_rfl) (by kernel_rfl) (fun _ _ _ h => h) (Or.inl ⟨by rfl, ?y321⟩) hHeld ?r321
                case y321 => (intro w' hSw; (try dsimp only at hSw); obtain ⟨q0, q1, q2⟩ := hSw; go_simp; try with_reducible rfl)
                simp only [Act.put, List.getElem_toArray, List.getElem_cons_zero, List.getElem_cons_succ, List.setIfInBounds_toArray, List.set_cons_zero, List.set_cons_succ]
                refine Still.takeBy (i := 23) [32, 31, 30] (by kernel_rfl) (by kernel_rfl) rfl (by kernel_rfl) (by kernel_rfl) (by kernel_rfl) (fun _ _ _ h => h) (Or.inr ⟨by rfl, rfl⟩) hHeld ?r322
                simp only [Act.put, List.getElem_toArray, List.getElem_cons_zero, List.getElem_cons_succ, List.setIfInBounds_toArray, List.set_cons_zero, List.set_cons_succ]
                refine Still.takeBy (i := 24) [32, 31, 30, 29, 28, 25] (by kernel_rfl) (by kernel_rfl) rfl (by kernel_rfl) (by kernel_rfl) (by kernel_rfl) (fun _ _ _ h => h) (Or.inr ⟨by rfl, rfl⟩) hHeld ?r323
                simp only [Act.put, List.getElem_toArray, List.getElem_cons_zero, List.getElem_cons_succ, List.setIfInBounds_toArray, List.set_cons_zero, List.set_cons_succ]
                refine Still.takeBy (i := 25) [32, 31, 30, 29, 28] (by kernel_rfl) (by kernel_rfl) rfl (by kernel_rfl) (by kernel_rfl) (by kernel_rfl) (fun _ _ _ h => h) (Or.inr ⟨by rfl, rfl⟩) hHeld ?r324
                simp only [Act.put, List.getElem_toArray, List.getElem_cons_zero, List.getElem_cons_succ, List.setIfInBounds_toArray, List.set_cons_zero, List.set_cons_succ]
                refine Still.takeBy (i := 26) [32, 31, 30, 29, 28, 27] (by kernel_rfl) (by kernel_rfl) rfl (by kernel_rfl) (by kernel_rfl) (by kernel_rfl) (fun _ _ _ h => h) (Or.inr ⟨by rfl, rfl⟩) hHeld ?r325
                simp only [Act.put, List.getElem_toArray, List.getElem_cons_zero, List.getElem_cons_succ, List.setIfInBounds_toArray, List.set_cons_zero, List.set_cons_succ]
                refine Still.takeBy (i := 27) [32, 31, 30, 29, 28] (by kernel_rfl) (by kernel_rfl) rfl (by kernel_rfl) (by kernel_rfl) (by kernel_rfl) (fun _ _ _ h => h) (Or.inr ⟨by rfl, rfl⟩) hHeld ?r326
                simp only [Act.put, List.getElem_toArray, List.getElem_cons_zero, List.getElem_cons_succ, List.setIfInBounds_toArray, List.set_cons_zero, List.set_cons_succ]
                refine Still.takeBy (i := 28) [32, 31, 30, 29] (by kernel_rfl) (by kernel_rfl) rfl (by kernel_rfl) (by kernel_rfl) (by kernel_rfl) (fun _ _ _ h => h) (Or.inr ⟨by rfl, rfl⟩) hHeld ?r327
                simp only [Act.put, List.getElem_toArray, List.getElem_cons_zero, List.getElem_cons_succ, List.setIfInBounds_toArray, List.set_cons_zero, List.set_cons_succ]
                refine Still.takeBy (i := 29) [32, 31, 30] (by kernel_rfl) (by kernel_rfl) rfl (by kernel_rfl) (by kernel_rfl) (by kernel_rfl) (fun _ _ _ h => h) (Or.inr ⟨by rfl, rfl⟩) hHeld ?r328
                simp only [Act.put, List.getElem_toArray, List.getElem_cons_zero, List.getElem_cons_succ, List.setIfInBounds_toArray, List.set_cons_zero, List.set_cons_succ]
                refine Still.takeBy (i := 30) [32, 31] (by kernel_rfl) (by kernel_rfl) rfl (by kernel_rfl) (by kernel_rfl) (by kernel_rfl) (fun _ _ _ h => h) (Or.inr ⟨by rfl, rfl⟩) hHeld ?r329
                simp only [Act.put, List.getElem_toArray, List.getElem_cons_zero, List.getElem_cons_succ, List.setIfInBounds_toArray, List.set_cons_zero, List.set_cons_succ]
                refine Still.takeBy (i := 31) [32] (by kernel_rfl) (by kernel_rfl) rfl (by kernel_rfl) (by kernel_rfl) (by kernel_rfl) (fun _ _ _ h => h) (Or.inr ⟨by rfl, rfl⟩) hHeld ?r330
                simp only [Act.put, List.getElem_toArray, List.getElem_cons_zero, List.getElem_cons_succ, List.setIfInBounds_toArray, List.set_cons_zero, List.set_cons_succ]
                refine Still.takeBy (i := 32) [] (v := ?v331) (by kernel_rfl) (by kernel_rfl) rfl (by kernel_rfl) (by kernel_rfl) (by kernel_rfl) (fun _ _ _ h => h) (Or.inl ⟨by rfl, ?y331⟩) hHeld ?r331
                case y331 => (intro w' hSw; (try dsimp only at hSw); obtain ⟨q0, q1, q2⟩ := hSw; go_simp; try with_reducible rfl)
                simp only [Act.put, List.getElem_toArray, List.getElem_cons_zero, List.getElem_cons_succ, List.setIfInBounds_toArray, List.set_cons_zero, List.set_cons_succ]
                refine Still.all (rs := [33]) (by kernel_rfl) (by simp) (Still.one (i := 33) rfl rfl (fun K hK => ?_) (by simp))
                go_simp
                refine hK _ _ (fun h => absurd rfl h) (fun _ => ?_)
                clear hK K
                refine Still.over (by kernel_rfl) ?_ _
                clear hHeld
                have HV : Hid (RowKit.Below wr.heap.size wr X.drew) := Lib.hid (HX.out.trans (RowKit.Below.refl _ _).drew)
                go_wp2
                go_roundw
                case rel => exact ⟨1, by go_num, by omega, HS2, bcl HV.out (by omega) hb1, Nat.lt_of_lt_of_le hws HV.out.size, Lib.hid (HT.out.trans (HV.out.mono HT.out.size))⟩
                case measure => simp [intOf]; omega
              · have hk0 : (0 : Int) < k := by omega
                obtain ⟨d0, d1⟩ := edge_cells HPX.out (k - 1) (by omega)
                cases hls : ltEB (L[k - 1]'(by omega)) ⟨ef, et⟩ with
                | true =>
                  have HS2 := Lib.hid (HST.out ⟨hA, hB, hC⟩ (fun _ => hls))
                  clear HB1 HB2 HST hC
                  generalize (L[k - 1]'(by omega)) = pd at d0 d1 hls
                  obtain ⟨pf, pt⟩ := pd
                  simp only at d0 d1
                  have hwr : IntKind.i64.wrap ((k : Int) - 1) = ((k - 1 : Nat) : Int) := by simp [IntKind.wrap, IntKind.bits, IntKind.signed]; omega
                  have hkl : ((k - 1 : Nat) : Int) < L.length := by omega
                  generalize k - 1 = j at d0 d1 hwr hkl
                  go_upto_region 9 with fail
                  have HX : Hid (RowKit.Below wr.heap.size wr (wr.alloc (.cells #[.int .i64 ef, .int .i64 et] 37))) := Lib.hid ((RowKit.Below.refl _ _).alloc (Nat.le_refl _) _)
                  have x0 : (wr.alloc (.cells #[.int .i64 ef, .int .i64 et] 37)).cell? ⟨wr.heap.size, 0, none⟩ = some (.int .i64 ef) := by simp
                  have x1 : (wr.alloc (.cells #[.int .i64 ef, .int .i64 et] 37)).cell? ⟨wr.heap.size, 1, none⟩ = some (.int .i64 et) := by simp
                  have hxs : wr.heap.size < (wr.alloc (.cells #[.int .i64 ef, .int .i64 et] 37)).heap.size := by simp
                  have y0 := bcl HX.out (by omega) hb1
                  have y1 := bcl HX.out (by omega) d0
                  have y2 := bcl HX.out (by omega) d1
                  generalize wr.alloc (.cells #[.int .i64 ef, .int .i64 et] 37) = X at HX x0 x1 hxs y0 y1 y2 ⊢
                  refine region_still (S := fun w' => w'.cell? ⟨wr.heap.size, 0, none⟩ = some (.int .i64 ef) ∧ w'.cell? ⟨wr.heap.size, 1, none⟩ = some (.int .i64 et) ∧ w'.cell? ⟨w.heap.size + 1, 0, none⟩ = some (.slice (some ⟨pb, po, none⟩) L.length lc) ∧ w'.cell? ⟨pb, po + j * 2, none⟩ = some (.int .i64 pf) ∧ w'.cell? ⟨pb, po + j * 2 + 1, none⟩ = some (.int .i64 pt)) 33 (by kernel_rfl) ⟨x0, x1, y0, y1, y2⟩ (fun hHeld => ?_)
                  refine Still.takeBy (i := 0) [19, 12, 11, 5, 3, 1] (v := ?v401) (by kernel_rfl) (by kernel_rfl) rfl (by kernel_rfl) (by kernel_rfl) (by kernel_rfl) (fun _ _ _ h => h) (Or.inl ⟨by rfl, ?y401⟩) hHeld ?r401
                  case y401 => (intro w' hSw; (try dsimp only at hSw); obtain ⟨q0, q1, q2, q3, q4⟩ := hSw; go_simp; try with_reducible rfl)
                  simp only [Act.put, List.getElem_toArray, List.getElem_cons_zero, List.getElem_cons_succ, List.setIfInBounds_toArray, List.set_cons_zero, List.set_cons_succ]
                  refine Still.takeBy (i := 1) [19, 12, 11, 5, 3] (v := ?v402) (by kernel_rfl) (by kernel_rfl) rfl (by kernel_rfl) (by kernel_rfl) (by kernel_rfl) (fun _ _ _ h => h) (Or.inl ⟨by rfl, ?y402⟩) hHeld ?r402
                  case y402 => (intro w' hSw; (try dsimp only at hSw); obtain ⟨q0, q1, q2, q3, q4⟩ := hSw; go_simp; try with_reducible rfl)
                  simp only [Act.put, List.getElem_toArray, List.getElem_cons_zero, List.getElem_cons_succ, List.setIfInBounds_toArray, List.set_cons_zero, List.set_cons_succ]
                  refine Still.takeBy (i := 2) [19, 12, 11, 5, 3] (v := ?v403) (by kernel_rfl) (by kernel_rfl) rfl (by kernel_rfl) (by kernel_rfl) (by kernel_rfl) (fun _ _ _ h => h) (Or.inl ⟨by rfl, ?y403⟩) hHeld ?r403
                  case y403 => (intro w' hSw; (try dsimp only at hSw); obtain ⟨q0, q1, q2, q3, q4⟩ := hSw; go_simp; try with_reducible rfl)
                  simp only [Act.put, List.getElem_toArray, List.getElem_cons_zero, List.getElem_cons_succ, List.setIfInBounds_toArray, List.set_cons_zero, List.set_cons_succ]
                  refine Still.all (rs := [3]) (by kernel_rfl) (by simp) (Still.one (i := 3) rfl rfl (fun K hK => ?_) (by simp))
                  refine wp_call 32 _ _ rfl ent_within #[.int .i64 ef, .int .i64 0, .int .i64 ((S.parts.length : Int) - 1)] (by first | rfl | simp [Act.eval, Act.put, Edg.v]) ((within_any _ _ _ _).mono ?_)
                  rintro e V ⟨rfl, rfl⟩
                  refine ⟨_, rfl, hK _ _ (fun _ => hHeld) (fun hh => ?_)⟩
                  clear hK K hh
                  try simp only [Act.put, List.getElem_toArray, List.getElem_cons_zero, List.getElem_cons_succ, List.setIfInBounds_toArray, List.set_cons_zero, List.set_cons_succ]
                  rw [hA]
                  refine Still.takeBy (i := 4) [19, 12, 11, 5] (v := ?v404) (by kernel_rfl) (by kernel_rfl) rfl (by kernel_rfl) (by kernel_rfl) (by kernel_rfl) (fun _ _ _ h => h) (Or.inl ⟨by rfl, ?y404⟩) hHeld ?r404
                  case y404 => (intro w' hSw; (try dsimp only at hSw); obtain ⟨q0, q1, q2, q3, q4⟩ := hSw; go_simp; try with_reducible rfl)
                  simp only [Act.put, List.getElem_toArray, List.getElem_cons_zero, List.getElem_cons_succ, List.setIfInBounds_toArray, List.set_cons_zero, List.set_cons_succ]
                  refine Still.takeBy (i := 5) [19, 12, 11] (v := ?v405) (by kernel_rfl) (by kernel_rfl) rfl (by kernel_rfl) (by kernel_rfl) (by kernel_rfl) (fun _ _ _ h => h) (Or.inl ⟨by rfl, ?y405⟩) hHeld ?r405
                  case y405 => (intro w' hSw; (try dsimp only at hSw); obtain ⟨q0, q1, q2, q3, q4⟩ := hSw; go_simp; try with_reducible rfl)
                  simp only [Act.put, List.getElem_toArray, List.getElem_cons_zero, List.getElem_cons_succ, List.setIfInBounds_toArray, List.set_cons_zero, List.set_cons_succ]
                  refine Still.takeBy (i := 6) [19, 12, 9, 7] (v := ?v406) (by kernel_rfl) (by kernel_rfl) rfl (by kernel_rfl) (by kernel_rfl) (by kernel_rfl) (fun _ _ _ h => h) (Or.inl ⟨by rfl, ?y406⟩) hHeld ?r406
                  case y406 => (intro w' hSw; (try dsimp only at hSw); obtain ⟨q0, q1, q2, q3, q4⟩ := hSw; go_simp; try with_reducible rfl)
                  simp only [Act.put, List.getElem_toArray, List.getElem_cons_zero, List.getElem_cons_succ, List.setIfInBounds_toArray, List.set_cons_zero, List.set_cons_succ]
                  refine Still.takeBy (i := 7) [19, 12, 9] (v := ?v407) (by kernel_rfl) (by kernel_rfl) rfl (by kernel_rfl) (by kernel_rfl) (by kernel_rfl) (fun _ _ _ h => h) (Or.inl ⟨by rfl, ?y407⟩) hHeld ?r407
                  case y407 => (intro w' hSw; (try dsimp only at hSw); obtain ⟨q0, q1, q2, q3, q4⟩ := hSw; go_simp; try with_reducible rfl)
                  simp only [Act.put, List.getElem_toArray, List.getElem_cons_zero, List.getElem_cons_succ, List.setIfInBounds_toArray, List.set_cons_zero, List.set_cons_succ]
                  refine Still.takeBy (i := 8) [19, 12, 9] (v := ?v408) (by kernel_rfl) (by kernel_rfl) rfl (by kernel_rfl) (by kernel_rfl) (by kernel_rfl) (fun _ _ _ h => h) (Or.inl ⟨by rfl, ?y408⟩) hHeld ?r408
                  case y408 => (intro w' hSw; (try dsimp only at hSw); obtain ⟨q0, q1, q2, q3, q4⟩ := hSw; go_simp; try with_reducible rfl)
                  simp only [Act.put, List.getElem_toArray, List.getElem_cons_zero, List.getElem_cons_succ, List.setIfInBounds_toArray, List.set_cons_zero, List.set_cons_succ]
                  refine Still.all (rs := [9]) (by kernel_rfl) (by simp) (Still.oneG (i := 9) rfl (by rfl) (fun K hK => ?_) (by simp))
                  refine wp_call 32 _ _ rfl ent_within #[.int .i64 et, .int .i64 0, .int .i64 ((S.parts.length : Int) - 1)] (by first | rfl | simp [Act.eval, Act.put, Edg.v]) ((within_any _ _ _ _).mono ?_)
                  rintro e V ⟨rfl, rfl⟩
                  refine ⟨_, rfl, hK _ _ (fun _ => hHeld) (fun hh => ?_)⟩
                  clear hK K hh
                  try simp only [Act.put, List.getElem_toArray, List.getElem_cons_zero, List.getElem_cons_succ, List.setIfInBounds_toArray, List.set_cons_zero, List.set_cons_succ]
                  rw [hB]
                  refine Still.takeBy (i := 10) [19, 12, 11] (v := ?v409) (by kernel_rfl) (by kernel_rfl) rfl (by kernel_rfl) (by kernel_rfl) (by kernel_rfl) (fun _ _ _ h => h) (Or.inl ⟨by rfl, ?y409⟩) hHeld ?r409
                  case y409 => (intro w' hSw; (try dsimp only at hSw); obtain ⟨q0, q1, q2, q3, q4⟩ := hSw; go_simp; try with_reducible rfl)
                  simp only [Act.put, List.getElem_toArray, List.getElem_cons_zero, List.getElem_cons_succ, List.setIfInBounds_toArray, List.set_cons_zero, List.set_cons_succ]
                  refine Still.takeBy (i := 11) [19, 12] (v := ?v410) (by kernel_rfl) (by kernel_rfl) rfl (by kernel_rfl) (by kernel_rfl) (by kernel_rfl) (fun _ _ _ h => h) (Or.inl ⟨by rfl, ?y410⟩) hHeld ?r410
                  case y410 => (intro w' hSw; (try dsimp only at hSw); obtain ⟨q0, q1, q2, q3, q4⟩ := hSw; go_simp; try with_reducible rfl)
                  simp only [Act.put, List.getElem_toArray, List.getElem_cons_zero, List.getElem_cons_succ, List.setIfInBounds_toArray, List.set_cons_zero, List.set_cons_succ]
                  refine Still.takeBy (i := 12) [19] (v := ?v411) (by kernel_rfl) (by kernel_rfl) rfl (by kernel_rfl) (by kernel_rfl) (by kernel_rfl) (fun _ _ _ h => h) (Or.inl ⟨by rfl, ?y411⟩) hHeld ?r411
                  case y411 => (intro w' hSw; (try dsimp only at hSw); obtain ⟨q0, q1, q2, q3, q4⟩ := hSw; go_simp; try with_reducible rfl)
                  simp only [Act.put, List.getElem_toArray, List.getElem_cons_zero, List.getElem_cons_succ, List.setIfInBounds_toArray, List.set_cons_zero, List.set_cons_succ]
                  refine Still.takeBy (i := 13) [19, 18, 17, 14] (v := ?v412) (by kernel_rfl) (by kernel_rfl) rfl (by kernel_rfl) (by kernel_rfl) (by kernel_rfl) (fun _ _ _ h => h) (Or.inl ⟨by rfl, ?y412⟩) hHeld ?r412
                  case y412 => (intro w' hSw; (try dsimp only at hSw); obtain ⟨q0, q1, q2, q3, q4⟩ := hSw; go_simp; try with_reducible rfl)
                  simp only [Act.put, List.getElem_toArray, List.getElem_cons_zero, List.getElem_cons_succ, List.setIfInBounds_toArray, List.set_cons_zero, List.set_cons_succ]
                  refine Still.takeBy (i := 14) [19, 18, 17] (v := ?v413) (by kernel_rfl) (by kernel_rfl) rfl (by kernel_rfl) (by kernel_rfl) (by kernel_rfl) (fun _ _ _ h => h) (Or.inl ⟨by rfl, ?y413⟩) hHeld ?r413
                  case y413 => (intro w' hSw; (try dsimp only at hSw); obtain ⟨q0, q1, q2, q3, q4⟩ := hSw; go_simp; try with_reducible rfl)
                  simp only [Act.put, List.getElem_toArray, List.getElem_cons_zero, List.getElem_cons_succ, List.setIfInBounds_toArray, List.set_cons_zero, List.set_cons_succ]
                  refine Still.takeBy (i := 15) [19, 18, 17, 16] (v := ?v414) (by kernel_rfl) (by kernel_rfl) rfl (by kernel_rfl) (by kernel_rfl) (by kernel_rfl) (fun _ _ _ h => h) (Or.inl ⟨by rfl, ?y414⟩) hHeld ?r414
                  case y414 => (intro w' hSw; (try dsimp only at hSw); obtain ⟨q0, q1, q2, q3, q4⟩ := hSw; go_simp; try with_reducible rfl)
                  simp only [Act.put, List.getElem_toArray, List.getElem_cons_zero, List.getElem_cons_succ, List.setIfInBounds_toArray, List.set_cons_zero, List.set_cons_succ]
                  refine Still.takeBy (i := 16) [19, 18, 17] (v := ?v415) (by kernel_rfl) (by kernel_rfl) rfl (by kernel_rfl) (by kernel_rfl) (by kernel_rfl) (fun _ _ _ h => h) (Or.inl ⟨by rfl, ?y415⟩) hHeld ?r415
                  case y415 => (intro w' hSw; (try dsimp only at hSw); obtain ⟨q0, q1, q2, q3, q4⟩ := hSw; go_simp; try with_reducible rfl)
                  simp only [Act.put, List.getElem_toArray, List.getElem_cons_zero, List.getElem_cons_succ, List.setIfInBounds_toArray, List.set_cons_zero, List.set_cons_succ]
                  refine Still.takeBy (i := 17) [19, 18] (v := ?v416) (by kernel_rfl) (by kernel_rfl) rfl (by kernel_rfl) (by kernel_rfl) (by kernel_rfl) (fun _ _ _ h => h) (Or.inl ⟨by rfl, ?y416⟩) hHeld ?r416
                  case y416 => (intro w' hSw; (try dsimp only at hSw); obtain ⟨q0, q1, q2, q3, q4⟩ := hSw; go_simp; try with_reducible rfl)
                  simp only [Act.put, List.getElem_toArray, List.getElem_cons_zero, List.getElem_cons_succ, List.setIfInBounds_toArray, List.set_cons_zero, List.set_cons_succ]
                  refine Still.takeBy (i := 18) [19] (v := ?v417) (by kernel_rfl) (by kernel_rfl) rfl (by kernel_rfl) (by kernel_rfl) (by kernel_rfl) (fun _ _ _ h => h) (Or.inl ⟨by rfl, ?y417⟩) hHeld ?r417
                  case y417 => (intro w' hSw; (try dsimp only at hSw); obtain ⟨q0, q1, q2, q3, q4⟩ := hSw; go_simp; try with_reducible rfl)
                  simp only [Act.put, List.getElem_toArray, List.getElem_cons_zero, List.getElem_cons_succ, List.setIfInBounds_toArray, List.set_cons_zero, List.set_cons_succ]
                  refine Still.takeBy (i := 19) [] (v := ?v418) (by kernel_rfl) (by kernel_rfl) rfl (by kernel_rfl) (by kernel_rfl) (by kernel_rfl) (fun _ _ _ h => h) (Or.inl ⟨by rfl, ?y418⟩) hHeld ?r418
                  case y418 => (intro w' hSw; (try dsimp only at hSw); obtain ⟨q0, q1, q2, q3, q4⟩ := hSw; go_simp; try with_reducible rfl)
                  simp only [Act.put, List.getElem_toArray, List.getElem_cons_zero, List.getElem_cons_succ, List.setIfInBounds_toArray, List.set_cons_zero, List.set_cons_succ]
                  refine Still.takeBy (i := 20) [32, 22, 21] (v := ?v419) (by kernel_rfl) (by kernel_rfl) rfl (by kernel_rfl) (by kernel_rfl) (by kernel_rfl) (fun _ _ _ h => h) (Or.inl ⟨by rfl, ?y419⟩) hHeld ?r419
                  case y419 => (intro w' hSw; (try dsimp only at hSw); obtain ⟨q0, q1, q2, q3, q4⟩ := hSw; go_simp; try with_reducible rfl)
                  simp only [Act.put, List.getElem_toArray, List.getElem_cons_zero, List.getElem_cons_succ, List.setIfInBounds_toArray, List.set_cons_zero, List.set_cons_succ]
                  refine Still.takeBy (i := 21) [32, 22] (v := ?v420) (by kernel_rfl) (by kernel_rfl) rfl (by kernel_rfl) (by kernel_rfl) (by kernel_rfl) (fun _ _ _ h => h) (Or.inl ⟨by rfl, ?y420⟩) hHeld ?r420
                  case y420 => (intro w' hSw; (try dsimp only at hSw); obtain ⟨q0, q1, q2, q3, q4⟩ := hSw; go_simp; try with_reducible rfl)
                  simp only [Act.put, List.getElem_toArray, List.getElem_cons_zero, List.getElem_cons_succ, List.setIfInBounds_toArray, List.set_cons_zero, List.set_cons_succ]
                  refine Still.takeBy (i := 22) [32] (v := ?v421) (by kernel_rfl) (by kernel_rfl) rfl (by kernel_rfl) (by kernel_rfl) (by kernel_rfl) (fun _ _ _ h => h) (Or.inl ⟨by rfl, ?y421⟩) hHeld ?r421
                  case y421 => (intro w' hSw; (try dsimp only at hSw); obtain ⟨q0, q1, q2, q3, q4⟩ := hSw; go_simp; try with_reducible rfl)
                  simp only [Act.put, List.getElem_toArray, List.getElem_cons_zero, List.getElem_cons_succ, List.setIfInBounds_toArray, List.set_cons_zero, List.set_cons_succ]
                  refine Still.takeBy (i := 23) [32, 31, 30] (v := ?v422) (by kernel_rfl) (by kernel_rfl) rfl (by kernel_rfl) (by kernel_rfl) (by kernel_rfl) (fun _ _ _ h => h) (Or.inl ⟨by rfl, ?y422⟩) hHeld ?r422
                  case y422 => (intro w' hSw; (try dsimp only at hSw); obtain ⟨q0, q1, q2, q3, q4⟩ := hSw; go_simp; try with_reducible rfl)
                  simp only [Act.put, List.getElem_toArray, List.getElem_cons_zero, List.getElem_cons_succ, List.setIfInBounds_toArray, List.set_cons_zero, List.set_cons_succ]
                  refine Still.takeBy (i := 24) [32, 31, 30, 29, 28, 25] (v := ?v423) (by kernel_rfl) (by kernel_rfl) rfl (by kernel_rfl) (by kernel_rfl) (by kernel_rfl) (fun _ _ _ h => h) (Or.inl ⟨by rfl, ?y423⟩) hHeld ?r423
                  case y423 => (intro w' hSw; (try dsimp only at hSw); obtain ⟨q0, q1, q2, q3, q4⟩ := hSw; go_simp; try with_reducible rfl)
                  simp only [Act.put, List.getElem_toArray, List.getElem_cons_zero, List.getElem_cons_succ, List.setIfInBounds_toArray, List.set_cons_zero, List.set_cons_succ]
                  refine Still.takeBy (i := 25) [32, 31, 30, 29, 28] (v := ?v424) (by kernel_rfl) (by kernel_rfl) rfl (by kernel_rfl) (by kernel_rfl) (by kernel_rfl) (fun _ _ _ h => h) (Or.inl ⟨by rfl, ?y424⟩) hHeld ?r424
                  case y424 => (intro w' hSw; (try dsimp only at hSw); obtain ⟨q0, q1, q2, q3, q4⟩ := hSw; go_simp; try with_reducible rfl)
                  simp only [Act.put, List.getElem_toArray, List.getElem_cons_zero, List.getElem_cons_succ, List.setIfInBounds_toArray, List.set_cons_zero, List.set_cons_succ]
                  refine Still.takeBy (i := 26) [32, 31, 30, 29, 28, 27] (v := ?v425) (by kernel_rfl) (by kernel_rfl) rfl (by kernel_rfl) (by kernel_rfl) (by kernel_rfl) (fun _ _ _ h => h) (Or.inl ⟨by rfl, ?y425⟩) hHeld ?r425
                  case y425 => (intro w' hSw; (try dsimp only at hSw); obtain ⟨q0, q1, q2, q3, q4⟩ := hSw; go_simp; try with_reducible rfl)
                  simp only [Act.put, List.getElem_toArray, List.getElem_cons_zero, List.getElem_cons_succ, List.setIfInBounds_toArray, List.set_cons_zero, List.set_cons_succ]
                  refine Still.takeBy (i := 27) [32, 31, 30, 29, 28] (v := ?v426) (by kernel_rfl) (by kernel_rfl) rfl (by kernel_rfl) (by kernel_rfl) (by kernel_rfl) (fun _ _ _ h => h) (Or.inl ⟨by rfl, ?y426⟩) hHeld ?r426
                  case y426 => (intro w' hSw; (try dsimp only at hSw); obtain ⟨q0, q1, q2, q3, q4⟩ := hSw; go_simp; try with_reducible rfl)
                  simp only [Act.put, List.getElem_toArray, List.getElem_cons_zero, List.getElem_cons_succ, List.setIfInBounds_toArray, List.set_cons_zero, List.set_cons_succ]
                  refine Still.takeBy (i := 28) [32, 31, 30, 29] (v := ?v427) (by kernel_rfl) (by kernel_rfl) rfl (by kernel_rfl) (by kernel_rfl) (by kernel_rfl) (fun _ _ _ h => h) (Or.inl ⟨by rfl, ?y427⟩) hHeld ?r427
                  case y427 => (intro w' hSw; (try dsimp only at hSw); obtain ⟨q0, q1, q2, q3, q4⟩ := hSw; go_simp; try with_reducible rfl)
                  simp only [Act.put, List.getElem_toArray, List.getElem_cons_zero, List.getElem_cons_succ, List.setIfInBounds_toArray, List.set_cons_zero, List.set_cons_succ]
                  refine Still.takeBy (i := 29) [32, 31, 30] (v := ?v428) (by kernel_rfl) (by kernel_rfl) rfl (by kernel_rfl) (by kernel_rfl) (by kernel_rfl) (fun _ _ _ h => h) (Or.inl ⟨by rfl, ?y428⟩) hHeld ?r428
                  case y428 => (intro w' hSw; (try dsimp only at hSw); obtain ⟨q0, q1, q2, q3, q4⟩ := hSw; go_simp; try with_reducible rfl)
                  simp only [Act.put, List.getElem_toArray, List.getElem_cons_zero, List.getElem_cons_succ, List.setIfInBounds_toArray, List.set_cons_zero, List.set_cons_succ]
                  refine Still.all (rs := [30]) (by kernel_rfl) (by simp) (Still.oneG (i := 30) rfl (by rfl) (fun K hK => ?_) (by simp))
                  refine wp_call 46 _ _ rfl ent_behind #[(⟨ef, et⟩ : Edg).v, (⟨pf, pt⟩ : Edg).v] (by first | rfl | simp [Act.eval, Act.put, Edg.v]) ((behind_any _ _ _).mono ?_)
                  rintro e V1 ⟨rfl, b5⟩
                  have HV : Hid (RowKit.Below wr.heap.size wr V1) := Lib.hid ((HX.out.trans (RowKit.Below.refl _ _).drew).trans (b5.mono HX.out.size))
                  refine ⟨_, rfl, hK _ _ (fun _ => ⟨bcl b5 hxs x0, bcl b5 hxs x1, bcl b5 (by show w.heap.size + 1 < X.heap.size; omega) y0, bcl b5 (by show pb < X.heap.size; omega) y1, bcl b5 (by show pb < X.heap.size; omega) y2⟩) (fun hh => ?_)⟩
                  have hHeld := hh (by decide)
                  clear hK K hh b5
                  try simp only [Act.put, List.getElem_toArray, List.getElem_cons_zero, List.getElem_cons_succ, List.setIfInBounds_toArray, List.set_cons_zero, List.set_cons_succ]
                  rw [hls]
                  refine Still.takeBy (i := 31) [32] (v := ?v429) (by kernel_rfl) (by kernel_rfl) rfl (by kernel_rfl) (by kernel_rfl) (by kernel_rfl) (fun _ _ _ h => h) (Or.inl ⟨by rfl, ?y429⟩) hHeld ?r429
                  case y429 => (intro w' hSw; (try dsimp only at hSw); obtain ⟨q0, q1, q2, q3, q4⟩ := hSw; go_simp; try with_reducible rfl)
                  simp only [Act.put, List.getElem_toArray, List.getElem_cons_zero, List.getElem_cons_succ, List.setIfInBounds_toArray, List.set_cons_zero, List.set_cons_succ]
                  refine Still.takeBy (i := 32) [] (v := ?v430) (by kernel_rfl) (by kernel_rfl) rfl (by kernel_rfl) (by kernel_rfl) (by kernel_rfl) (fun _ _ _ h => h) (Or.inl ⟨by rfl, ?y430⟩) hHeld ?r430
                  case y430 => (intro w' hSw; (try dsimp only at hSw); obtain ⟨q0, q1, q2, q3, q4⟩ := hSw; go_simp; try with_reducible rfl)
                  simp only [Act.put, List.getElem_toArray, List.getElem_cons_zero, List.getElem_cons_succ, List.setIfInBounds_toArray, List.set_cons_zero, List.set_cons_succ]
                  refine Still.all (rs := [33]) (by kernel_rfl) (by simp) (Still.one (i := 33) rfl rfl (fun K hK => ?_) (by simp))
                  go_simp
                  refine hK _ _ (fun h => absurd rfl h) (fun _ => ?_)
                  clear hK K
                  refine Still.over (by kernel_rfl) ?_ _
                  clear hHeld
                  go_wp2
                  go_roundw
                  case rel => exact ⟨k + 1, by go_num, by omega, HS2, bcl HV.out (by omega) hb1, Nat.lt_of_lt_of_le hws HV.out.size, Lib.hid (HT.out.trans (HV.out.mono HT.out.size))⟩
                  case measure => simp [intOf]; omega
                | false =>
                  have HBAD := Lib.hid (HC.out.symm.trans (polE_one HR.out (HB2.out h0 hls)))
                  clear HB1 HB2 HST hC
                  generalize (L[k - 1]'(by omega)) = pd at d0 d1 hls
                  obtain ⟨pf, pt⟩ := pd
                  simp only at d0 d1
                  have hwr : IntKind.i64.wrap ((k : Int) - 1) = ((k - 1 : Nat) : Int) := by simp [IntKind.wrap, IntKind.bits, IntKind.signed]; omega
                  have hkl : ((k - 1 : Nat) : Int) < L.length := by omega
                  generalize k - 1 = j at d0 d1 hwr hkl
                  go_upto_region 9 with fail
                  have HX : Hid (RowKit.Below wr.heap.size wr (wr.alloc (.cells #[.int .i64 ef, .int .i64 et] 37))) := Lib.hid ((RowKit.Below.refl _ _).alloc (Nat.le_refl _) _)
                  have x0 : (wr.alloc (.cells #[.int .i64 ef, .int .i64 et] 37)).cell? ⟨wr.heap.size, 0, none⟩ = some (.int .i64 ef) := by simp
                  have x1 : (wr.alloc (.cells #[.int .i64 ef, .int .i64 et] 37)).cell? ⟨wr.heap.size, 1, none⟩ = some (.int .i64 et) := by simp
                  have hxs : wr.heap.size < (wr.alloc (.cells #[.int .i64 ef, .int .i64 et] 37)).heap.size := by simp
                  have y0 := bcl HX.out (by omega) hb1
                  have y1 := bcl HX.out (by omega) d0
                  have y2 := bcl HX.out (by omega) d1
                  generalize wr.alloc (.cells #[.int .i64 ef, .int .i64 et] 37) = X at HX x0 x1 hxs y0 y1 y2 ⊢
                  refine region_still (S := fun w' => w'.cell? ⟨wr.heap.size, 0, none⟩ = some (.int .i64 ef) ∧ w'.cell? ⟨wr.heap.size, 1, none⟩ = some (.int .i64 et) ∧ w'.cell? ⟨w.heap.size + 1, 0, none⟩ = some (.slice (some ⟨pb, po, none⟩) L.length lc) ∧ w'.cell? ⟨pb, po + j * 2, none⟩ = some (.int .i64 pf) ∧ w'.cell? ⟨pb, po + j * 2 + 1, none⟩ = some (.int .i64 pt)) 33 (by kernel_rfl) ⟨x0, x1, y0, y1, y2⟩ (fun hHeld => ?_)
                  refine Still.takeBy (i := 0) [19, 12, 11, 5, 3, 1] (v := ?v501) (by kernel_rfl) (by kernel_rfl) rfl (by kernel_rfl) (by kernel_rfl) (by kernel_rfl) (fun _ _ _ h => h) (Or.inl ⟨by rfl, ?y501⟩) hHeld ?r501
                  case y501 => (intro w' hSw; (try dsimp only at hSw); obtain ⟨q0, q1, q2, q3, q4⟩ := hSw; go_simp; try with_reducible rfl)
                  simp only [Act.put, List.getElem_toArray, List.getElem_cons_zero, List.getElem_cons_succ, List.setIfInBounds_toArray, List.set_cons_zero, List.set_cons_succ]
                  refine Still.takeBy (i := 1) [19, 12, 11, 5, 3] (v := ?v502) (by kernel_rfl) (by kernel_rfl) rfl (by kernel_rfl) (by kernel_rfl) (by kernel_rfl) (fun _ _ _ h => h) (Or.inl ⟨by rfl, ?y502⟩) hHeld ?r502
                  case y502 => (intro w' hSw; (try dsimp only at hSw); obtain ⟨q0, q1, q2, q3, q4⟩ := hSw; go_simp; try with_reducible rfl)
                  simp only [Act.put, List.getElem_toArray, List.getElem_cons_zero, List.getElem_cons_succ, List.setIfInBounds_toArray, List.set_cons_zero, List.set_cons_succ]
                  refine Still.takeBy (i := 2) [19, 12, 11, 5, 3] (v := ?v503) (by kernel_rfl) (by kernel_rfl) rfl (by kernel_rfl) (by kernel_rfl) (by kernel_rfl) (fun _ _ _ h => h) (Or.inl ⟨by rfl, ?y503⟩) hHeld ?r503
                  case y503 => (intro w' hSw; (try dsimp only at hSw); obtain ⟨q0, q1, q2, q3, q4⟩ := hSw; go_simp; try with_reducible rfl)
                  simp only [Act.put, List.getElem_toArray, List.getElem_cons_zero, List.getElem_cons_succ, List.setIfInBounds_toArray, List.set_cons_zero, List.set_cons_succ]
                  refine Still.all (rs := [3]) (by kernel_rfl) (by simp) (Still.one (i := 3) rfl rfl (fun K hK => ?_) (by simp))
                  refine wp_call 32 _ _ rfl ent_within #[.int .i64 ef, .int .i64 0, .int .i64 ((S.parts.length : Int) - 1)] (by first | rfl | simp [Act.eval, Act.put, Edg.v]) ((within_any _ _ _ _).mono ?_)
                  rintro e V ⟨rfl, rfl⟩
                  refine ⟨_, rfl, hK _ _ (fun _ => hHeld) (fun hh => ?_)⟩
                  clear hK K hh
                  try simp only [Act.put, List.getElem_toArray, List.getElem_cons_zero, List.getElem_cons_succ, List.setIfInBounds_toArray, List.set_cons_zero, List.set_cons_succ]
                  rw [hA]
                  refine Still.takeBy (i := 4) [19, 12, 11, 5] (v := ?v504) (by kernel_rfl) (by kernel_rfl) rfl (by kernel_rfl) (by kernel_rfl) (by kernel_rfl) (fun _ _ _ h => h) (Or.inl ⟨by rfl, ?y504⟩) hHeld ?r504
                  case y504 => (intro w' hSw; (try dsimp only at hSw); obtain ⟨q0, q1, q2, q3, q4⟩ := hSw; go_simp; try with_reducible rfl)
                  simp only [Act.put, List.getElem_toArray, List.getElem_cons_zero, List.getElem_cons_succ, List.setIfInBounds_toArray, List.set_cons_zero, List.set_cons_succ]
                  refine Still.takeBy (i := 5) [19, 12, 11] (v := ?v505) (by kernel_rfl) (by kernel_rfl) rfl (by kernel_rfl) (by kernel_rfl) (by kernel_rfl) (fun _ _ _ h => h) (Or.inl ⟨by rfl, ?y505⟩) hHeld ?r505
                  case y505 => (intro w' hSw; (try dsimp only at hSw); obtain ⟨q0, q1, q2, q3, q4⟩ := hSw; go_simp; try with_reducible rfl)
                  simp only [Act.put, List.getElem_toArray, List.getElem_cons_zero, List.getElem_cons_succ, List.setIfInBounds_toArray, List.set_cons_zero, List.set_cons_succ]
                  refine Still.takeBy (i := 6) [19, 12, 9, 7] (v := ?v506) (by kernel_rfl) (by kernel_rfl) rfl (by kernel_rfl) (by kernel_rfl) (by kernel_rfl) (fun _ _ _ h => h) (Or.inl ⟨by rfl, ?y506⟩) hHeld ?r506
                  case y506 => (intro w' hSw; (try dsimp only at hSw); obtain ⟨q0, q1, q2, q3, q4⟩ := hSw; go_simp; try with_reducible rfl)
                  simp only [Act.put, List.getElem_toArray, List.getElem_cons_zero, List.getElem_cons_succ, List.setIfInBounds_toArray, List.set_cons_zero, List.set_cons_succ]
                  refine Still.takeBy (i := 7) [19, 12, 9] (v := ?v507) (by kernel_rfl) (by kernel_rfl) rfl (by kernel_rfl) (by kernel_rfl) (by kernel_rfl) (fun _ _ _ h => h) (Or.inl ⟨by rfl, ?y507⟩) hHeld ?r507
                  case y507 => (intro w' hSw; (try dsimp only at hSw); obtain ⟨q0, q1, q2, q3, q4⟩ := hSw; go_simp; try with_reducible rfl)
                  simp only [Act.put, List.getElem_toArray, List.getElem_cons_zero, List.getElem_cons_succ, List.setIfInBounds_toArray, List.set_cons_zero, List.set_cons_succ]
                  refine Still.takeBy (i := 8) [19, 12, 9] (v := ?v508) (by kernel_rfl) (by kernel_rfl) rfl (by kernel_rfl) (by kernel_rfl) (by kernel_rfl) (fun _ _ _ h => h) (Or.inl ⟨by rfl, ?y508⟩) hHeld ?r508
                  case y508 => (intro w' hSw; (try dsimp only at hSw); obtain ⟨q0, q1, q2, q3, q4⟩ := hSw; go_simp; try with_reducible rfl)
                  simp only [Act.put, List.getElem_toArray, List.getElem_cons_zero, List.getElem_cons_succ, List.setIfInBounds_toArray, List.set_cons_zero, List.set_cons_succ]
                  refine Still.all (rs := [9]) (by kernel_rfl) (by simp) (Still.oneG (i := 9) rfl (by rfl) (fun K hK => ?_) (by simp))
                  refine wp_call 32 _ _ rfl ent_within #[.int .i64 et, .int .i64 0, .int .i64 ((S.parts.length : Int) - 1)] (by first | rfl | simp [Act.eval, Act.put, Edg.v]) ((within_any _ _ _ _).mono ?_)
                  rintro e V ⟨rfl, rfl⟩
                  refine ⟨_, rfl, hK _ _ (fun _ => hHeld) (fun hh => ?_)⟩
                  clear hK K hh
                  try simp only [Act.put, List.getElem_toArray, List.getElem_cons_zero, List.getElem_cons_succ, List.setIfInBounds_toArray, List.set_cons_zero, List.set_cons_succ]
                  rw [hB]
                  refine Still.takeBy (i := 10) [19, 12, 11] (v := ?v509) (by kernel_rfl) (by kernel_rfl) rfl (by kernel_rfl) (by kernel_rfl) (by kernel_rfl) (fun _ _ _ h => h) (Or.inl ⟨by rfl, ?y509⟩) hHeld ?r509
                  case y509 => (intro w' hSw; (try dsimp only at hSw); obtain ⟨q0, q1, q2, q3, q4⟩ := hSw; go_simp; try with_reducible rfl)
                  simp only [Act.put, List.getElem_toArray, List.getElem_cons_zero, List.getElem_cons_succ, List.setIfInBounds_toArray, List.set_cons_zero, List.set_cons_succ]
                  refine Still.takeBy (i := 11) [19, 12] (v := ?v510) (by kernel_rfl) (by kernel_rfl) rfl (by kernel_rfl) (by kernel_rfl) (by kernel_rfl) (fun _ _ _ h => h) (Or.inl ⟨by rfl, ?y510⟩) hHeld ?r510
                  case y510 => (intro w' hSw; (try dsimp only at hSw); obtain ⟨q0, q1, q2, q3, q4⟩ := hSw; go_simp; try with_reducible rfl)
                  simp only [Act.put, List.getElem_toArray, List.getElem_cons_zero, List.getElem_cons_succ, List.setIfInBounds_toArray, List.set_cons_zero, List.set_cons_succ]
                  refine Still.takeBy (i := 12) [19] (v := ?v511) (by kernel_rfl) (by kernel_rfl) rfl (by kernel_rfl) (by kernel_rfl) (by kernel_rfl) (fun _ _ _ h => h) (Or.inl ⟨by rfl, ?y511⟩) hHeld ?r511
                  case y511 => (intro w' hSw; (try dsimp only at hSw); obtain ⟨q0, q1, q2, q3, q4⟩ := hSw; go_simp; try with_reducible rfl)
                  simp only [Act.put, List.getElem_toArray, List.getElem_cons_zero, List.getElem_cons_succ, List.setIfInBounds_toArray, List.set_cons_zero, List.set_cons_succ]
                  refine Still.takeBy (i := 13) [19, 18, 17, 14] (v := ?v512) (by kernel_rfl) (by kernel_rfl) rfl (by kernel_rfl) (by kernel_rfl) (by kernel_rfl) (fun _ _ _ h => h) (Or.inl ⟨by rfl, ?y512⟩) hHeld ?r512
                  case y512 => (intro w' hSw; (try dsimp only at hSw); obtain ⟨q0, q1, q2, q3, q4⟩ := hSw; go_simp; try with_reducible rfl)
                  simp only [Act.put, List.getElem_toArray, List.getElem_cons_zero, List.getElem_cons_succ, List.setIfInBounds_toArray, List.set_cons_zero, List.set_cons_succ]
                  refine Still.takeBy (i := 14) [19, 18, 17] (v := ?v513) (by kernel_rfl) (by kernel_rfl) rfl (by kernel_rfl) (by kernel_rfl) (by kernel_rfl) (fun _ _ _ h => h) (Or.inl ⟨by rfl, ?y513⟩) hHeld ?r513
                  case y513 => (intro w' hSw; (try dsimp only at hSw); obtain ⟨q0, q1, q2, q3, q4⟩ := hSw; go_simp; try with_reducible rfl)
                  simp only [Act.put, List.getElem_toArray, List.getElem_cons_zero, List.getElem_cons_succ, List.setIfInBounds_toArray, List.set_cons_zero, List.set_cons_succ]
                  refine Still.takeBy (i := 15) [19, 18, 17, 16] (v := ?v514) (by kernel_rfl) (by kernel_rfl) rfl (by kernel_rfl) (by kernel_rfl) (by kernel_rfl) (fun _ _ _ h => h) (Or.inl ⟨by rfl, ?y514⟩) hHeld ?r514
                  case y514 => (intro w' hSw; (try dsimp only at hSw); obtain ⟨q0, q1, q2, q3, q4⟩ := hSw; go_simp; try with_reducible rfl)
                  simp only [Act.put, List.getElem_toArray, List.getElem_cons_zero, List.getElem_cons_succ, List.setIfInBounds_toArray, List.set_cons_zero, List.set_cons_succ]
                  refine Still.takeBy (i := 16) [19, 18, 17] (v := ?v515) (by kernel_rfl) (by kernel_rfl) rfl (by kernel_rfl) (by kernel_rfl) (by kernel_rfl) (fun _ _ _ h => h) (Or.inl ⟨by rfl, ?y515⟩) hHeld ?r515
                  case y515 => (intro w' hSw; (try dsimp only at hSw); obtain ⟨q0, q1, q2, q3, q4⟩ := hSw; go_simp; try with_reducible rfl)
                  simp only [Act.put, List.getElem_toArray, List.getElem_cons_zero, List.getElem_cons_succ, List.setIfInBounds_toArray, List.set_cons_zero, List.set_cons_succ]
                  refine Still.takeBy (i := 17) [19, 18] (v := ?v516) (by kernel_rfl) (by kernel_rfl) rfl (by kernel_rfl) (by kernel_rfl) (by kernel_rfl) (fun _ _ _ h => h) (Or.inl ⟨by rfl, ?y516⟩) hHeld ?r516
                  case y516 => (intro w' hSw; (try dsimp only at hSw); obtain ⟨q0, q1, q2, q3, q4⟩ := hSw; go_simp; try with_reducible rfl)
                  simp only [Act.put, List.getElem_toArray, List.getElem_cons_zero, List.getElem_cons_succ, List.setIfInBounds_toArray, List.set_cons_zero, List.set_cons_succ]
                  refine Still.takeBy (i := 18) [19] (v := ?v517) (by kernel_rfl) (by kernel_rfl) rfl (by kernel_rfl) (by kernel_rfl) (by kernel_rfl) (fun _ _ _ h => h) (Or.inl ⟨by rfl, ?y517⟩) hHeld ?r517
                  case y517 => (intro w' hSw; (try dsimp only at hSw); obtain ⟨q0, q1, q2, q3, q4⟩ := hSw; go_simp; try with_reducible rfl)
                  simp only [Act.put, List.getElem_toArray, List.getElem_cons_zero, List.getElem_cons_succ, List.setIfInBounds_toArray, List.set_cons_zero, List.set_cons_succ]
                  refine Still.takeBy (i := 19) [] (v := ?v518) (by kernel_rfl) (by kernel_rfl) rfl (by kernel_rfl) (by kernel_rfl) (by kernel_rfl) (fun _ _ _ h => h) (Or.inl ⟨by rfl, ?y518⟩) hHeld ?r518
                  case y518 => (intro w' hSw; (try dsimp only at hSw); obtain ⟨q0, q1, q2, q3, q4⟩ := hSw; go_simp; try with_reducible rfl)
                  simp only [Act.put, List.getElem_toArray, List.getElem_cons_zero, List.getElem_cons_succ, List.setIfInBounds_toArray, List.set_cons_zero, List.set_cons_succ]
                  refine Still.takeBy (i := 20) [32, 22, 21] (v := ?v519) (by kernel_rfl) (by kernel_rfl) rfl (by kernel_rfl) (by kernel_rfl) (by kernel_rfl) (fun _ _ _ h => h) (Or.inl ⟨by rfl, ?y519⟩) hHeld ?r519
                  case y519 => (intro w' hSw; (try dsimp only at hSw); obtain ⟨q0, q1, q2, q3, q4⟩ := hSw; go_simp; try with_reducible rfl)
                  simp only [Act.put, List.getElem_toArray, List.getElem_cons_zero, List.getElem_cons_succ, List.setIfInBounds_toArray, List.set_cons_zero, List.set_cons_succ]
                  refine Still.takeBy (i := 21) [32, 22] (v := ?v520) (by kernel_rfl) (by kernel_rfl) rfl (by kernel_rfl) (by kernel_rfl) (by kernel_rfl) (fun _ _ _ h => h) (Or.inl ⟨by rfl, ?y520⟩) hHeld ?r520
                  case y520 => (intro w' hSw; (try dsimp only at hSw); obtain ⟨q0, q1, q2, q3, q4⟩ := hSw; go_simp; try with_reducible rfl)
                  simp only [Act.put, List.getElem_toArray, List.getElem_cons_zero, List.getElem_cons_succ, List.setIfInBounds_toArray, List.set_cons_zero, List.set_cons_succ]
                  refine Still.takeBy (i := 22) [32] (v := ?v521) (by kernel_rfl) (by kernel_rfl) rfl (by kernel_rfl) (by kernel_rfl) (by kernel_rfl) (fun _ _ _ h => h) (Or.inl ⟨by rfl, ?y521⟩) hHeld ?r521
                  case y521 => (intro w' hSw; (try dsimp only at hSw); obtain ⟨q0, q1, q2, q3, q4⟩ := hSw; go_simp; try with_reducible rfl)
                  simp only [Act.put, List.getElem_toArray, List.getElem_cons_zero, List.getElem_cons_succ, List.setIfInBounds_toArray, List.set_cons_zero, List.set_cons_succ]
                  refine Still.takeBy (i := 23) [32, 31, 30] (v := ?v522) (by kernel_rfl) (by kernel_rfl) rfl (by kernel_rfl) (by kernel_rfl) (by kernel_rfl) (fun _ _ _ h => h) (Or.inl ⟨by rfl, ?y522⟩) hHeld ?r522
                  case y522 => (intro w' hSw; (try dsimp only at hSw); obtain ⟨q0, q1, q2, q3, q4⟩ := hSw; go_simp; try with_reducible rfl)
                  simp only [Act.put, List.getElem_toArray, List.getElem_cons_zero, List.getElem_cons_succ, List.setIfInBounds_toArray, List.set_cons_zero, List.set_cons_succ]
                  refine Still.takeBy (i := 24) [32, 31, 30, 29, 28, 25] (v := ?v523) (by kernel_rfl) (by kernel_rfl) rfl (by kernel_rfl) (by kernel_rfl) (by kernel_rfl) (fun _ _ _ h => h) (Or.inl ⟨by rfl, ?y523⟩) hHeld ?r523
                  case y523 => (intro w' hSw; (try dsimp only at hSw); obtain ⟨q0, q1, q2, q3, q4⟩ := hSw; go_simp; try with_reducible rfl)
                  simp only [Act.put, List.getElem_toArray, List.getElem_cons_zero, List.getElem_cons_succ, List.setIfInBounds_toArray, List.set_cons_zero, List.set_cons_succ]
                  refine Still.takeBy (i := 25) [32, 31, 30, 29, 28] (v := ?v524) (by kernel_rfl) (by kernel_rfl) rfl (by kernel_rfl) (by kernel_rfl) (by kernel_rfl) (fun _ _ _ h => h) (Or.inl ⟨by rfl, ?y524⟩) hHeld ?r524
                  case y524 => (intro w' hSw; (try dsimp only at hSw); obtain ⟨q0, q1, q2, q3, q4⟩ := hSw; go_simp; try with_reducible rfl)
                  simp only [Act.put, List.getElem_toArray, List.getElem_cons_zero, List.getElem_cons_succ, List.setIfInBounds_toArray, List.set_cons_zero, List.set_cons_succ]
                  refine Still.takeBy (i := 26) [32, 31, 30, 29, 28, 27] (v := ?v525) (by kernel_rfl) (by kernel_rfl) rfl (by kernel_rfl) (by kernel_rfl) (by kernel_rfl) (fun _ _ _ h => h) (Or.inl ⟨by rfl, ?y525⟩) hHeld ?r525
                  case y525 => (intro w' hSw; (try dsimp only at hSw); obtain ⟨q0, q1, q2, q3, q4⟩ := hSw; go_simp; try with_reducible rfl)
                  simp only [Act.put, List.getElem_toArray, List.getElem_cons_zero, List.getElem_cons_succ, List.setIfInBounds_toArray, List.set_cons_zero, List.set_cons_succ]
                  refine Still.takeBy (i := 27) [32, 31, 30, 29, 28] (v := ?v526) (by kernel_rfl) (by kernel_rfl) rfl (by kernel_rfl) (by kernel_rfl) (by kernel_rfl) (fun _ _ _ h => h) (Or.inl ⟨by rfl, ?y526⟩) hHeld ?r526
                  case y526 => (intro w' hSw; (try dsimp only at hSw); obtain ⟨q0, q1, q2, q3, q4⟩ := hSw; go_simp; try with_reducible rfl)
                  simp only [Act.put, List.getElem_toArray, List.getElem_cons_zero, List.getElem_cons_succ, List.setIfInBounds_toArray, List.set_cons_zero, List.set_cons_succ]
                  refine Still.takeBy (i := 28) [32, 31, 30, 29] (v := ?v527) (by kernel_rfl) (by kernel_rfl) rfl (by kernel_rfl) (by kernel_rfl) (by kernel_rfl) (fun _ _ _ h => h) (Or.inl ⟨by rfl, ?y527⟩) hHeld ?r527
                  case y527 => (intro w' hSw; (try dsimp only at hSw); obtain ⟨q0, q1, q2, q3, q4⟩ := hSw; go_simp; try with_reducible rfl)
                  simp only [Act.put, List.getElem_toArray, List.getElem_cons_zero, List.getElem_cons_succ, List.setIfInBounds_toArray, List.set_cons_zero, List.set_cons_succ]
                  refine Still.takeBy (i := 29) [32, 31, 30] (v := ?v528) (by kernel_rfl) (by kernel_rfl) rfl (by kernel_rfl) (by kernel_rfl) (by kernel_rfl) (fun _ _ _ h => h) (Or.inl ⟨by rfl, ?y528⟩) hHeld ?r528
                  case y528 => (intro w' hSw; (try dsimp only at hSw); obtain ⟨q0, q1, q2, q3, q4⟩ := hSw; go_simp; try with_reducible rfl)
                  simp only [Act.put, List.getElem_toArray, List.getElem_cons_zero, List.getElem_cons_succ, List.setIfInBounds_toArray, List.set_cons_zero, List.set_cons_succ]
                  refine Still.all (rs := [30]) (by kernel_rfl) (by simp) (Still.oneG (i := 30) rfl (by rfl) (fun K hK => ?_) (by simp))
                  refine wp_call 46 _ _ rfl ent_behind #[(⟨ef, et⟩ : Edg).v, (⟨pf, pt⟩ : Edg).v] (by first | rfl | simp [Act.eval, Act.put, Edg.v]) ((behind_any _ _ _).mono ?_)
                  rintro e V1 ⟨rfl, b5⟩
                  have HV : Hid (RowKit.Below wr.heap.size wr V1) := Lib.hid ((HX.out.trans (RowKit.Below.refl _ _).drew).trans (b5.mono HX.out.size))
                  refine ⟨_, rfl, hK _ _ (fun _ => ⟨bcl b5 hxs x0, bcl b5 hxs x1, bcl b5 (by show w.heap.size + 1 < X.heap.size; omega) y0, bcl b5 (by show pb < X.heap.size; omega) y1, bcl b5 (by show pb < X.heap.size; omega) y2⟩) (fun hh => ?_)⟩
                  have hHeld := hh (by decide)
                  clear hK K hh b5
                  try simp only [Act.put, List.getElem_toArray, List.getElem_cons_zero, List.getElem_cons_succ, List.setIfInBounds_toArray, List.set_cons_zero, List.set_cons_succ]
                  rw [hls]
                  refine Still.takeBy (i := 31) [32] (v := ?v529) (by kernel_rfl) (by kernel_rfl) rfl (by kernel_rfl) (by kernel_rfl) (by kernel_rfl) (fun _ _ _ h => h) (Or.inl ⟨by rfl, ?y529⟩) hHeld ?r529
                  case y529 => (intro w' hSw; (try dsimp only at hSw); obtain ⟨q0, q1, q2, q3, q4⟩ := hSw; go_simp; try with_reducible rfl)
                  simp only [Act.put, List.getElem_toArray, List.getElem_cons_zero, List.getElem_cons_succ, List.setIfInBounds_toArray, List.set_cons_zero, List.set_cons_succ]
                  refine Still.takeBy (i := 32) [] (v := ?v530) (by kernel_rfl) (by kernel_rfl) rfl (by kernel_rfl) (by kernel_rfl) (by kernel_rfl) (fun _ _ _ h => h) (Or.inl ⟨by rfl, ?y530⟩) hHeld ?r530
                  case y530 => (intro w' hSw; (try dsimp only at hSw); obtain ⟨q0, q1, q2, q3, q4⟩ := hSw; go_simp; try with_reducible rfl)
                  simp only [Act.put, List.getElem_toArray, List.getElem_cons_zero, List.getElem_cons_succ, List.setIfInBounds_toArray, List.set_cons_zero, List.set_cons_succ]
                  refine Still.all (rs := [33]) (by kernel_rfl) (by simp) (Still.one (i := 33) rfl rfl (fun K hK => ?_) (by simp))
                  go_simp
                  refine hK _ _ (fun h => absurd rfl h) (fun _ => ?_)
                  clear hK K
                  refine Still.over (by kernel_rfl) ?_ _
                  clear hHeld
                  go_wp2
                  go_ret
                  exact ⟨ret_int HBAD.out.symm, HT.out.trans (HV.out.mono HT.out.size)⟩
      · have hli : ¬ (k : Int) < L.length := by omega
        have HG := Lib.hid (HC.out.symm.trans (polE_zero HR.out (polUp_all HP.out hlt)))
        go_wp2
        go_ret
        exact ⟨ret_int HG.out.symm, HT.out⟩
  · have h0' : (r != 0) = true := by simpa using h0
    have HBAD := Lib.hid (HC.out.symm.trans ((polE_bad (by rw [HR.out]; exact h0)).trans HR.out))
    clear h0
    go_wp2
    go_ret
    exact ⟨ret_int HBAD.out.symm, D.out⟩
end Go.Proofs.YthpljbbhpbijgaaDoor

/- The law FlowTells, walked. -/
import Derived.Test.YthpljbbhpbijgaaDoorFl32
namespace Go.Proofs.YthpljbbhpbijgaaDoor
set_option linter.unusedSimpArgs false
set_option linter.unusedVariables false
open Go.RowKit Go.Sort Go.Shelf Go.Lib Go.Maps

theorem ent_edgesOf : Enters 12 := enters Tryd.func12 (by kernel_rfl) (by kernel_rfl)
theorem ent_reaches : Enters 13 := enters Tryd.func13 (by kernel_rfl) (by kernel_rfl)
theorem edgesQ_len (S : SysD) : (edgesQ S).length ≤ 16 := by
  unfold edgesQ
  split
  · rename_i h
    obtain ⟨h4, _⟩ := chk_flow h
    have := outL_len S S.parts.length S.parts.length
    have h2 : S.parts.length * S.parts.length ≤ 4 * 4 := Nat.mul_le_mul h4 h4
    unfold edgesL
    omega
  · simp
theorem reachQ_len (S : SysD) : reachQ S ≤ 4 := by
  unfold reachQ
  split
  · rename_i h
    exact (chk_flow h).1
  · omega
set_option maxRecDepth 100000 in
set_option maxHeartbeats 8000000 in
theorem flowTells_any (S : SysD) (hok : S.ok) (vp vc vs : Value) (w : World) (he : Env w) (hS : Sys w vp vc vs S) :
    Calls Tryd.prog 3 #[.agg #[vp, vc, vs]] w fun e w' => e = .returned (.bool true) ∧ RowKit.Below w.heap.size w w' := by
  obtain ⟨pa, pc, rfl⟩ := hS.p.form
  obtain ⟨ca, cc, rfl⟩ := hS.c.form
  obtain ⟨sa, sc, rfl⟩ := hS.s.form
  have HS := Lib.hid hS
  clear hS
  generalize hr : chkS S = r
  have HR := Lib.hid hr
  clear hr
  go_enter Tryd.func3, Tryd.ntmps3
  go_wp2_with fail
  refine (flEdges_any S _ _ _ _ (he.up (by repeat (first | exact Below.refl _ _ | assumption | refine Below.drew ?_ | refine Below.alloc ?_ (by first | (simp; done) | (simp; omega)) _ | refine Below.setCell ?_ (by first | (simp; done) | (simp; omega)) _))) (HS.out.up (by repeat (first | exact Below.refl _ _ | assumption | refine Below.drew ?_ | refine Below.alloc ?_ (by first | (simp; done) | (simp; omega)) _ | refine Below.setCell ?_ (by first | (simp; done) | (simp; omega)) _)))).mono ?_
  rw [HR.out]
  rintro e w1 ⟨vl, rfl, hl, bb⟩
  obtain ⟨la, lc, rfl⟩ := hl.form
  have HL := Lib.hid hl
  have HB := Lib.hid ((box_new w (.slice pa S.parts.length pc) (.slice ca S.chans.length cc) (.slice sa S.slots.length sc) 26 _ rfl).up bb)
  have D := Lib.hid (RowKit.Below.trans (show RowKit.Below w.heap.size w _ from (by repeat (first | exact Below.refl _ _ | assumption | refine Below.drew ?_ | refine Below.alloc ?_ (by first | (simp; done) | (simp; omega)) _ | refine Below.setCell ?_ (by first | (simp; done) | (simp; omega)) _))) (bb.mono (by simp)))
  clear bb hl
  have k0 := HB.out.p
  have k1 := HB.out.c
  have k2 := HB.out.s
  go_wp2_with fail
  refine (flReach_any S _ _ _ _ (he.up D.out) (HS.out.up D.out)).mono ?_
  rw [HR.out]
  rintro e w2 ⟨vm, rfl, hm, bb, _⟩
  obtain ⟨ma, mc, rfl⟩ := hm.form
  have HM := Lib.hid hm
  have HL2 := Lib.hid (HL.out.up bb)
  have HB2 := Lib.hid (HB.out.up bb)
  have D2 := Lib.hid (D.out.trans (bb.mono D.out.size))
  clear bb HL HB D hm k0 k1 k2
  have k0 := HB2.out.p
  have k1 := HB2.out.c
  have k2 := HB2.out.s
  go_wp2_with fail
  refine (sysRef_any S hok _ _ _ _ (HS.out.up D2.out)).mono ?_
  rw [HR.out]
  rintro e w3 ⟨rfl, bb⟩
  have HM3 := Lib.hid (HM.out.up bb)
  have HL3 := Lib.hid (HL2.out.up bb)
  have HB3 := Lib.hid (HB2.out.up bb)
  have D3 := Lib.hid (D2.out.trans (bb.mono D2.out.size))
  clear bb HL2 HB2 D2 HM k0 k1 k2
  go_upto_if 26 with fail
  go_cut [8, 9] from 27 to 31 (fun v n wc => n = .int .i64 (reachQ S : Int) ∧ Hid (Sl wc 2 v (edgesQ S).length (rowC Edg.cells (edgesQ S))) ∧ Hid (RowKit.Below w3.heap.size w3 wc))
  case first =>
    by_cases h0 : r = 0
    · subst h0
      obtain ⟨h4, _, hl, _⟩ := chk_flow HR.out
      have hq : Hid (reachQ S = S.parts.length) := Lib.hid (by unfold reachQ; rw [if_pos HR.out])
      have hqe : Hid (edgesQ S = edgesL S) := Lib.hid (by unfold edgesQ; rw [if_pos HR.out])
      go_upto_region 7 with fail
      refine region_still (S := fun w' => Box w' w.heap.size (.slice pa S.parts.length pc) (.slice ca S.chans.length cc) (.slice sa S.slots.length sc)) 6 (by kernel_rfl) (HB3.out.up (RowKit.Below.refl _ _).drew) (fun hHeld => ?_)
      refine Still.takeBy (i := 0) [] (v := ?v1) (by kernel_rfl) (by kernel_rfl) rfl (by kernel_rfl) (by kernel_rfl) (by kernel_rfl) (fun _ _ _ h => h) (Or.inl ⟨by rfl, ?y1⟩) hHeld ?r1
      case y1 => (intro w' hSw; (try dsimp only at hSw); have q0 := hSw.p; have q1 := hSw.c; have q2 := hSw.s; clear hSw; go_simp; try with_reducible rfl)
      simp only [Act.put, List.getElem_toArray, List.getElem_cons_zero, List.getElem_cons_succ, List.setIfInBounds_toArray, List.set_cons_zero, List.set_cons_succ]
      refine Still.takeBy (i := 2) [] (v := ?v2) (by kernel_rfl) (by kernel_rfl) rfl (by kernel_rfl) (by kernel_rfl) (by kernel_rfl) (fun _ _ _ h => h) (Or.inl ⟨by rfl, ?y2⟩) hHeld ?r2
      case y2 => (intro w' hSw; (try dsimp only at hSw); have q0 := hSw.p; have q1 := hSw.c; have q2 := hSw.s; clear hSw; go_simp; try with_reducible rfl)
      simp only [Act.put, List.getElem_toArray, List.getElem_cons_zero, List.getElem_cons_succ, List.setIfInBounds_toArray, List.set_cons_zero, List.set_cons_succ]
      refine Still.takeBy (i := 3) [] (v := ?v3) (by kernel_rfl) (by kernel_rfl) rfl (by kernel_rfl) (by kernel_rfl) (by kernel_rfl) (fun _ _ _ h => h) (Or.inl ⟨by rfl, ?y3⟩) hHeld ?r3
      case y3 => (intro w' hSw; (try dsimp only at hSw); have q0 := hSw.p; have q1 := hSw.c; have q2 := hSw.s; clear hSw; go_simp; try with_reducible rfl)
      simp only [Act.put, List.getElem_toArray, List.getElem_cons_zero, List.getElem_cons_succ, List.setIfInBounds_toArray, List.set_cons_zero, List.set_cons_succ]
      refine Still.takeBy (i := 4) [] (v := ?v4) (by kernel_rfl) (by kernel_rfl) rfl (by kernel_rfl) (by kernel_rfl) (by kernel_rfl) (fun _ _ _ h => h) (Or.inl ⟨by rfl, ?y4⟩) hHeld ?r4
      case y4 => (intro w' hSw; (try dsimp only at hSw); have q0 := hSw.p; have q1 := hSw.c; have q2 := hSw.s; clear hSw; go_simp; try with_reducible rfl)
      simp only [Act.put, List.getElem_toArray, List.getElem_cons_zero, List.getElem_cons_succ, List.setIfInBounds_toArray, List.set_cons_zero, List.set_cons_succ]
      refine Still.all (rs := [1]) (by kernel_rfl) (by simp) (Still.one (i := 1) rfl rfl (fun K hK => ?_) (by simp))
      refine wp_call 12 _ _ rfl ent_edgesOf #[.agg #[.slice pa S.parts.length pc, .slice ca S.chans.length cc, .slice sa S.slots.length sc]] (by first | rfl | simp [Act.eval, Act.put]) ((edgesOf_any S h4 hl _ _ _ _ ((HS.out.up D3.out).up (RowKit.Below.refl _ _).drew)).mono ?_)
      rintro e V1 ⟨v4, rfl, hs4, b4⟩
      have HV : Hid (RowKit.Below w3.heap.size w3 V1) := Lib.hid (RowKit.Below.trans (RowKit.Below.refl _ _).drew b4)
      have HW := Lib.hid hs4
      refine ⟨_, rfl, hK _ _ (fun _ => HB3.out.up HV.out) (fun hh => ?_)⟩
      have hHeld := hh (by decide)
      clear hK K hh hs4 b4
      try simp only [Act.put, List.getElem_toArray, List.getElem_cons_zero, List.getElem_cons_succ, List.setIfInBounds_toArray, List.set_cons_zero, List.set_cons_succ]
      refine Still.takeBy (i := 5) [] (v := ?v5) (by kernel_rfl) (by kernel_rfl) rfl (by kernel_rfl) (by kernel_rfl) (by kernel_rfl) (fun _ _ _ h => h) (Or.inl ⟨by rfl, ?y5⟩) hHeld ?r5
      case y5 => (intro w' hSw; (try dsimp only at hSw); go_simp; try with_reducible rfl)
      simp only [Act.put, List.getElem_toArray, List.getElem_cons_zero, List.getElem_cons_succ, List.setIfInBounds_toArray, List.set_cons_zero, List.set_cons_succ]
      refine Still.all (rs := [6]) (by kernel_rfl) (by simp) (Still.one (i := 6) rfl rfl (fun K hK => ?_) (by simp))
      go_simp
      refine hK _ _ (fun h => absurd rfl h) (fun _ => ?_)
      clear hK K
      refine Still.over (by kernel_rfl) ?_ _
      clear hHeld
      go_wp2
      go_meet
      exact ⟨by rw [hq.out], by rw [hqe.out]; exact HW, HV⟩
    · have hq : Hid (reachQ S = 0) := Lib.hid (by unfold reachQ; rw [if_neg (by rw [HR.out]; exact h0)])
      have hqe : Hid (edgesQ S = []) := Lib.hid (by unfold edgesQ; rw [if_neg (by rw [HR.out]; exact h0)])
      go_wp2
      go_meet
      exact ⟨by rw [hq.out]; rfl, by rw [hqe.out]; exact Lib.hid (Sl.nil _ _), Lib.hid (RowKit.Below.refl _ _)⟩
  case rest =>
    obtain ⟨rfl, H4, BC⟩ := hcut
    obtain ⟨va, vcap, rfl⟩ := H4.out.form
    have hEl := edgesQ_len S
    have hnl := reachQ_len S
    have HN : Hid (0 < reachQ S → S.parts.length ≤ 4 ∧ S.chans.length ≤ 6) := Lib.hid (fun h => by
      unfold reachQ at h
      split at h
      · rename_i h0
        obtain ⟨a1, _, a3, _⟩ := chk_flow h0
        exact ⟨a1, a3⟩
      · omega)
    generalize edgesQ S = E at HL3 H4 hEl ⊢
    generalize reachQ S = n at HM3 hnl HN ⊢
    go_wp2
    go_loopw [10] (fun i wr => ∃ k : Nat, i = .int .i64 k ∧ k ≤ E.length ∧ Hid (RowKit.Below wc.heap.size wc wr)) (fun i _ => E.length - (intOf i).toNat)
    case atStart => exact ⟨0, rfl, Nat.zero_le _, Lib.hid (RowKit.Below.refl _ _)⟩
    case round =>
      obtain ⟨k, rfl, hk, HT⟩ := hrel
      have H3 := Lib.hid (BC.out.trans (HT.out.mono BC.out.size))
      by_cases hlt : k < E.length
      · have hli : (k : Int) < E.length := by omega
        obtain ⟨lb, lo, lcap, e1, hlc, hlb, hlx⟩ := (HL3.out.up H3.out).open (by omega)
        cases e1
        obtain ⟨c0, c1⟩ := edge_cells hlx k hlt
        obtain ⟨vb, vo, vcap', e2, hvc, hvb, hvx⟩ := (H4.out.up HT.out).open (by omega)
        cases e2
        obtain ⟨c2, c3⟩ := edge_cells hvx k hlt
        generalize E[k] = ed at c0 c1 c2 c3
        obtain ⟨ef, et⟩ := ed
        simp only at c0 c1 c2 c3
        clear hlx hvx
        go_upto_region 13 with fail
        go_region
        go_wp2
        go_roundw
        case rel => exact ⟨k + 1, by go_num, by omega, Lib.hid (HT.out.trans (by first | exact RowKit.Below.refl _ _ | exact (RowKit.Below.refl _ _).drew | exact (by repeat (first | exact Below.refl _ _ | assumption | refine Below.drew ?_ | refine Below.alloc ?_ (by first | (simp; done) | (simp; omega)) _ | refine Below.setCell ?_ (by first | (simp; done) | (simp; omega)) _))))⟩
        case measure => simp [intOf]; omega
      · have hli : ¬ (k : Int) < E.length := by omega
        go_wp2
        go_loopw [11] (fun i wq => ∃ a : Nat, i = .int .i64 a ∧ a ≤ n ∧ Hid (RowKit.Below w3.heap.size w3 wq)) (fun i _ => n - (intOf i).toNat)
        case atStart => exact ⟨0, rfl, Nat.zero_le _, H3⟩
        case round =>
          clear H3 HT
          obtain ⟨a, rfl, ha, H3⟩ := hrel
          by_cases hal : a < n
          · have hai : (a : Int) < n := by omega
            go_wp2
            go_loopw [12] (fun i wq => ∃ c : Nat, i = .int .i64 c ∧ c ≤ n ∧ Hid (RowKit.Below w3.heap.size w3 wq)) (fun i _ => n - (intOf i).toNat)
            case atStart => exact ⟨0, rfl, Nat.zero_le _, H3⟩
            case round =>
              clear H3
              obtain ⟨c, rfl, hc, H3⟩ := hrel
              by_cases hcl : c < n
              · have hci : (c : Int) < n := by omega
                have hsm := HN.out (by omega)
                obtain ⟨mb, mo, mcap, e1, hmc, hmb, hrows⟩ := (HM3.out.up H3.out).row (by omega) (by omega)
                cases e1
                obtain ⟨rb, ro, rc, hm0, hrc, hrb, hr⟩ := hrows a hal
                have hm1 := hr c hcl
                clear hrows hr
                go_upto_region 21 with fail
                refine region_still (S := fun w' => Box w' w.heap.size (.slice pa S.parts.length pc) (.slice ca S.chans.length cc) (.slice sa S.slots.length sc) ∧ w'.cell? ⟨mb, mo + a, none⟩ = some (.slice (some ⟨rb, ro, none⟩) n rc) ∧ w'.cell? ⟨rb, ro + c, none⟩ = some (.bool (reachB S a c))) 20 (by kernel_rfl) ⟨(HB3.out.up (H3.out.trans (RowKit.Below.refl _ _).drew)), hm0, hm1⟩ (fun hHeld => ?_)
                refine Still.takeBy (i := 0) [7, 6, 4, 3, 2] (v := ?v501) (by kernel_rfl) (by kernel_rfl) rfl (by kernel_rfl) (by kernel_rfl) (by kernel_rfl) (fun _ _ _ h => h) (Or.inl ⟨by rfl, ?y501⟩) hHeld ?r501
                case y501 => (intro w' hSw; (try dsimp only at hSw); obtain ⟨hbx, q3, q4⟩ := hSw; have q0 := hbx.p; have q1 := hbx.c; have q2 := hbx.s; clear hbx; go_simp; try with_reducible rfl)
                simp only [Act.put, List.getElem_toArray, List.getElem_cons_zero, List.getElem_cons_succ, List.setIfInBounds_toArray, List.set_cons_zero, List.set_cons_succ]
                refine Still.takeBy (i := 1) [7, 6, 4, 3, 2] (v := ?v502) (by kernel_rfl) (by kernel_rfl) rfl (by kernel_rfl) (by kernel_rfl) (by kernel_rfl) (fun _ _ _ h => h) (Or.inl ⟨by rfl, ?y502⟩) hHeld ?r502
                case y502 => (intro w' hSw; (try dsimp only at hSw); obtain ⟨hbx, q3, q4⟩ := hSw; have q0 := hbx.p; have q1 := hbx.c; have q2 := hbx.s; clear hbx; go_simp; try with_reducible rfl)
                simp only [Act.put, List.getElem_toArray, List.getElem_cons_zero, List.getElem_cons_succ, List.setIfInBounds_toArray, List.set_cons_zero, List.set_cons_succ]
                refine Still.takeBy (i := 2) [7, 6, 4, 3] (v := ?v503) (by kernel_rfl) (by kernel_rfl) rfl (by kernel_rfl) (by kernel_rfl) (by kernel_rfl) (fun _ _ _ h => h) (Or.inl ⟨by rfl, ?y503⟩) hHeld ?r503
                case y503 => (intro w' hSw; (try dsimp only at hSw); obtain ⟨hbx, q3, q4⟩ := hSw; have q0 := hbx.p; have q1 := hbx.c; have q2 := hbx.s; clear hbx; go_simp; try with_reducible rfl)
                simp only [Act.put, List.getElem_toArray, List.getElem_cons_zero, List.getElem_cons_succ, List.setIfInBounds_toArray, List.set_cons_zero, List.set_cons_succ]
                refine Still.takeBy (i := 3) [7, 6, 4] (v := ?v504) (by kernel_rfl) (by kernel_rfl) rfl (by kernel_rfl) (by kernel_rfl) (by kernel_rfl) (fun _ _ _ h => h) (Or.inl ⟨by rfl, ?y504⟩) hHeld ?r504
                case y504 => (intro w' hSw; (try dsimp only at hSw); obtain ⟨hbx, q3, q4⟩ := hSw; have q0 := hbx.p; have q1 := hbx.c; have q2 := hbx.s; clear hbx; go_simp; try with_reducible rfl)
                simp only [Act.put, List.getElem_toArray, List.getElem_cons_zero, List.getElem_cons_succ, List.setIfInBounds_toArray, List.set_cons_zero, List.set_cons_succ]
                refine Still.takeBy (i := 4) [7, 6] (v := ?v505) (by kernel_rfl) (by kernel_rfl) rfl (by kernel_rfl) (by kernel_rfl) (by kernel_rfl) (fun _ _ _ h => h) (Or.inl ⟨by rfl, ?y505⟩) hHeld ?r505
                case y505 => (intro w' hSw; (try dsimp only at hSw); obtain ⟨hbx, q3, q4⟩ := hSw; have q0 := hbx.p; have q1 := hbx.c; have q2 := hbx.s; clear hbx; go_simp; try with_reducible rfl)
                simp only [Act.put, List.getElem_toArray, List.getElem_cons_zero, List.getElem_cons_succ, List.setIfInBounds_toArray, List.set_cons_zero, List.set_cons_succ]
                refine Still.takeBy (i := 5) [7, 6] (v := ?v506) (by kernel_rfl) (by kernel_rfl) rfl (by kernel_rfl) (by kernel_rfl) (by kernel_rfl) (fun _ _ _ h => h) (Or.inl ⟨by rfl, ?y506⟩) hHeld ?r506
                case y506 => (intro w' hSw; (try dsimp only at hSw); obtain ⟨hbx, q3, q4⟩ := hSw; have q0 := hbx.p; have q1 := hbx.c; have q2 := hbx.s; clear hbx; go_simp; try with_reducible rfl)
                simp only [Act.put, List.getElem_toArray, List.getElem_cons_zero, List.getElem_cons_succ, List.setIfInBounds_toArray, List.set_cons_zero, List.set_cons_succ]
                refine Still.takeBy (i := 6) [7] (v := ?v507) (by kernel_rfl) (by kernel_rfl) rfl (by kernel_rfl) (by kernel_rfl) (by kernel_rfl) (fun _ _ _ h => h) (Or.inl ⟨by rfl, ?y507⟩) hHeld ?r507
                case y507 => (intro w' hSw; (try dsimp only at hSw); obtain ⟨hbx, q3, q4⟩ := hSw; have q0 := hbx.p; have q1 := hbx.c; have q2 := hbx.s; clear hbx; go_simp; try with_reducible rfl)
                simp only [Act.put, List.getElem_toArray, List.getElem_cons_zero, List.getElem_cons_succ, List.setIfInBounds_toArray, List.set_cons_zero, List.set_cons_succ]
                refine Still.takeBy (i := 7) [] (v := ?v508) (by kernel_rfl) (by kernel_rfl) rfl (by kernel_rfl) (by kernel_rfl) (by kernel_rfl) (fun _ _ _ h => h) (Or.inl ⟨by rfl, ?y508⟩) hHeld ?r508
                case y508 => (intro w' hSw; (try dsimp only at hSw); obtain ⟨hbx, q3, q4⟩ := hSw; have q0 := hbx.p; have q1 := hbx.c; have q2 := hbx.s; clear hbx; go_simp; try with_reducible rfl)
                simp only [Act.put, List.getElem_toArray, List.getElem_cons_zero, List.getElem_cons_succ, List.setIfInBounds_toArray, List.set_cons_zero, List.set_cons_succ]
                refine Still.takeBy (i := 8) [19, 14, 13, 11, 10] (v := ?v509) (by kernel_rfl) (by kernel_rfl) rfl (by kernel_rfl) (by kernel_rfl) (by kernel_rfl) (fun _ _ _ h => h) (Or.inl ⟨by rfl, ?y509⟩) hHeld ?r509
                case y509 => (intro w' hSw; (try dsimp only at hSw); obtain ⟨hbx, q3, q4⟩ := hSw; have q0 := hbx.p; have q1 := hbx.c; have q2 := hbx.s; clear hbx; go_simp; try with_reducible rfl)
                simp only [Act.put, List.getElem_toArray, List.getElem_cons_zero, List.getElem_cons_succ, List.setIfInBounds_toArray, List.set_cons_zero, List.set_cons_succ]
                refine Still.takeBy (i := 9) [19, 14, 13, 11, 10] (v := ?v510) (by kernel_rfl) (by kernel_rfl) rfl (by kernel_rfl) (by kernel_rfl) (by kernel_rfl) (fun _ _ _ h => h) (Or.inl ⟨by rfl, ?y510⟩) hHeld ?r510
                case y510 => (intro w' hSw; (try dsimp only at hSw); obtain ⟨hbx, q3, q4⟩ := hSw; have q0 := hbx.p; have q1 := hbx.c; have q2 := hbx.s; clear hbx; go_simp; try with_reducible rfl)
                simp only [Act.put, List.getElem_toArray, List.getElem_cons_zero, List.getElem_cons_succ, List.setIfInBounds_toArray, List.set_cons_zero, List.set_cons_succ]
                refine Still.takeBy (i := 10) [19, 14, 13, 11] (v := ?v511) (by kernel_rfl) (by kernel_rfl) rfl (by kernel_rfl) (by kernel_rfl) (by kernel_rfl) (fun _ _ _ h => h) (Or.inl ⟨by rfl, ?y511⟩) hHeld ?r511
                case y511 => (intro w' hSw; (try dsimp only at hSw); obtain ⟨hbx, q3, q4⟩ := hSw; have q0 := hbx.p; have q1 := hbx.c; have q2 := hbx.s; clear hbx; go_simp; try with_reducible rfl)
                simp only [Act.put, List.getElem_toArray, List.getElem_cons_zero, List.getElem_cons_succ, List.setIfInBounds_toArray, List.set_cons_zero, List.set_cons_succ]
                refine Still.takeBy (i := 11) [19, 14, 13] (v := ?v512) (by kernel_rfl) (by kernel_rfl) rfl (by kernel_rfl) (by kernel_rfl) (by kernel_rfl) (fun _ _ _ h => h) (Or.inl ⟨by rfl, ?y512⟩) hHeld ?r512
                case y512 => (intro w' hSw; (try dsimp only at hSw); obtain ⟨hbx, q3, q4⟩ := hSw; have q0 := hbx.p; have q1 := hbx.c; have q2 := hbx.s; clear hbx; go_simp; try with_reducible rfl)
                simp only [Act.put, List.getElem_toArray, List.getElem_cons_zero, List.getElem_cons_succ, List.setIfInBounds_toArray, List.set_cons_zero, List.set_cons_succ]
                refine Still.takeBy (i := 12) [19, 14, 13] (v := ?v513) (by kernel_rfl) (by kernel_rfl) rfl (by kernel_rfl) (by kernel_rfl) (by kernel_rfl) (fun _ _ _ h => h) (Or.inl ⟨by rfl, ?y513⟩) hHeld ?r513
                case y513 => (intro w' hSw; (try dsimp only at hSw); obtain ⟨hbx, q3, q4⟩ := hSw; have q0 := hbx.p; have q1 := hbx.c; have q2 := hbx.s; clear hbx; go_simp; try with_reducible rfl)
                simp only [Act.put, List.getElem_toArray, List.getElem_cons_zero, List.getElem_cons_succ, List.setIfInBounds_toArray, List.set_cons_zero, List.set_cons_succ]
                refine Still.takeBy (i := 13) [19, 14] (v := ?v514) (by kernel_rfl) (by kernel_rfl) rfl (by kernel_rfl) (by kernel_rfl) (by kernel_rfl) (fun _ _ _ h => h) (Or.inl ⟨by rfl, ?y514⟩) hHeld ?r514
                case y514 => (intro w' hSw; (try dsimp only at hSw); obtain ⟨hbx, q3, q4⟩ := hSw; have q0 := hbx.p; have q1 := hbx.c; have q2 := hbx.s; clear hbx; go_simp; try with_reducible rfl)
                simp only [Act.put, List.getElem_toArray, List.getElem_cons_zero, List.getElem_cons_succ, List.setIfInBounds_toArray, List.set_cons_zero, List.set_cons_succ]
                refine Still.takeBy (i := 14) [19] (v := ?v515) (by kernel_rfl) (by kernel_rfl) rfl (by kernel_rfl) (by kernel_rfl) (by kernel_rfl) (fun _ _ _ h => h) (Or.inl ⟨by rfl, ?y515⟩) hHeld ?r515
                case y515 => (intro w' hSw; (try dsimp only at hSw); obtain ⟨hbx, q3, q4⟩ := hSw; have q0 := hbx.p; have q1 := hbx.c; have q2 := hbx.s; clear hbx; go_simp; try with_reducible rfl)
                simp only [Act.put, List.getElem_toArray, List.getElem_cons_zero, List.getElem_cons_succ, List.setIfInBounds_toArray, List.set_cons_zero, List.set_cons_succ]
                refine Still.takeBy (i := 15) [19, 18] (v := ?v516) (by kernel_rfl) (by kernel_rfl) rfl (by kernel_rfl) (by kernel_rfl) (by kernel_rfl) (fun _ _ _ h => h) (Or.inl ⟨by rfl, ?y516⟩) hHeld ?r516
                case y516 => (intro w' hSw; (try dsimp only at hSw); obtain ⟨hbx, q3, q4⟩ := hSw; have q0 := hbx.p; have q1 := hbx.c; have q2 := hbx.s; clear hbx; go_simp; try with_reducible rfl)
                simp only [Act.put, List.getElem_toArray, List.getElem_cons_zero, List.getElem_cons_succ, List.setIfInBounds_toArray, List.set_cons_zero, List.set_cons_succ]
                refine Still.takeBy (i := 16) [19, 18] (v := ?v517) (by kernel_rfl) (by kernel_rfl) rfl (by kernel_rfl) (by kernel_rfl) (by kernel_rfl) (fun _ _ _ h => h) (Or.inl ⟨by rfl, ?y517⟩) hHeld ?r517
                case y517 => (intro w' hSw; (try dsimp only at hSw); obtain ⟨hbx, q3, q4⟩ := hSw; have q0 := hbx.p; have q1 := hbx.c; have q2 := hbx.s; clear hbx; go_simp; try with_reducible rfl)
                simp only [Act.put, List.getElem_toArray, List.getElem_cons_zero, List.getElem_cons_succ, List.setIfInBounds_toArray, List.set_cons_zero, List.set_cons_succ]
                refine Still.takeBy (i := 17) [19, 18] (v := ?v518) (by kernel_rfl) (by kernel_rfl) rfl (by kernel_rfl) (by kernel_rfl) (by kernel_rfl) (fun _ _ _ h => h) (Or.inl ⟨by rfl, ?y518⟩) hHeld ?r518
                case y518 => (intro w' hSw; (try dsimp only at hSw); obtain ⟨hbx, q3, q4⟩ := hSw; have q0 := hbx.p; have q1 := hbx.c; have q2 := hbx.s; clear hbx; go_simp; try with_reducible rfl)
                simp only [Act.put, List.getElem_toArray, List.getElem_cons_zero, List.getElem_cons_succ, List.setIfInBounds_toArray, List.set_cons_zero, List.set_cons_succ]
                refine Still.all (rs := [18]) (by kernel_rfl) (by simp) (Still.oneG (i := 18) rfl (by rfl) (fun K hK => ?_) (by simp))
                refine wp_call 13 _ _ rfl ent_reaches #[.agg #[.slice pa S.parts.length pc, .slice ca S.chans.length cc, .slice sa S.slots.length sc], .int .i64 a, .int .i64 c] (by first | rfl | simp [Act.eval, Act.put]) ((reaches_any S (by omega) (by omega) a c _ _ _ _ ((HS.out.up (D3.out.trans (H3.out.mono D3.out.size))).up (RowKit.Below.refl _ _).drew)).mono ?_)
                rintro e V1 ⟨rfl, b4⟩
                have HV : Hid (RowKit.Below w3.heap.size w3 V1) := Lib.hid (H3.out.trans (RowKit.Below.trans (RowKit.Below.refl _ _).drew (b4.mono H3.out.size)))
                refine ⟨_, rfl, hK _ _ (fun _ => ⟨HB3.out.up HV.out, bcl b4 hmb hm0, bcl b4 hrb hm1⟩) (fun hh => ?_)⟩
                have hHeld := hh (by decide)
                clear hK K hh b4
                try simp only [Act.put, List.getElem_toArray, List.getElem_cons_zero, List.getElem_cons_succ, List.setIfInBounds_toArray, List.set_cons_zero, List.set_cons_succ]
                refine Still.takeBy (i := 19) [] (v := ?v519) (by kernel_rfl) (by kernel_rfl) rfl (by kernel_rfl) (by kernel_rfl) (by kernel_rfl) (fun _ _ _ h => h) (Or.inl ⟨by rfl, ?y519⟩) hHeld ?r519
                case y519 => (intro w' hSw; (try dsimp only at hSw); go_simp; try with_reducible rfl)
                simp only [Act.put, List.getElem_toArray, List.getElem_cons_zero, List.getElem_cons_succ, List.setIfInBounds_toArray, List.set_cons_zero, List.set_cons_succ]
                refine Still.all (rs := [20]) (by kernel_rfl) (by simp) (Still.one (i := 20) rfl rfl (fun K hK => ?_) (by simp))
                go_simp
                refine hK _ _ (fun h => absurd rfl h) (fun _ => ?_)
                clear hK K
                refine Still.over (by kernel_rfl) ?_ _
                clear hHeld
                go_wp2
                go_roundw
                case rel => exact ⟨c + 1, by go_num, by omega, HV⟩
                case measure => simp [intOf]; omega
              · have hci : ¬ (c : Int) < n := by omega
                go_wp2
                go_roundw
                case rel => exact ⟨a + 1, by go_num, by omega, H3⟩
                case measure => simp [intOf]; omega
          · have hai : ¬ (a : Int) < n := by omega
            go_wp2_with fail
            refine (flowBegun_any _ (he.up (D3.out.trans (H3.out.mono D3.out.size)))).mono ?_
            rintro e w9 ⟨rfl, bb⟩
            have D9 := Lib.hid ((D3.out.trans (H3.out.mono D3.out.size)).trans (bb.mono (D3.out.trans (H3.out.mono D3.out.size)).size))
            clear bb
            go_wp2
            go_ret
            exact ⟨rfl, D9.out⟩
end Go.Proofs.YthpljbbhpbijgaaDoor

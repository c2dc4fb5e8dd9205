/- The law FlowTrue, walked. -/
import Derived.Test.YthpljbbhpbijgaaDoorFl33
namespace Go.Proofs.YthpljbbhpbijgaaDoor
set_option linter.unusedSimpArgs false
set_option linter.unusedVariables false
open Go.RowKit Go.Sort Go.Shelf Go.Lib Go.Maps

theorem ent_choose : Enters 19 := enters Tryd.func19 (by kernel_rfl) (by kernel_rfl)
set_option maxHeartbeats 1000000 in
theorem flChoose_any (c : Int) (hc : in64 c) (n : Nat) (h1 : 1 ≤ n) (h2 : n ≤ 1048576) (w : World) : Calls Tryd.prog 19 #[.int .i64 c, .int .i64 (n : Int)] w fun e w' => ∃ m : Nat, e = .returned (.int .i64 (m : Int)) ∧ m < n ∧ w' = w := by
  have hn0 : ((n : Int) == 0) = false := by simp; omega
  obtain ⟨ha, hb⟩ := hc
  by_cases h : c < 0
  · have hr := Int.emod_nonneg (-(c + 1)) (show (n : Int) ≠ 0 by omega)
    have hs := Int.emod_lt_of_pos (-(c + 1)) (show (0 : Int) < n by omega)
    obtain ⟨m, hm⟩ := Int.eq_ofNat_of_zero_le hr
    have HM := Lib.hid hm
    clear hm hr
    go_enter Tryd.func19, Tryd.ntmps19
    go_wp2
    go_ret
    exact ⟨m, ret_int (show -((c + 1).tmod (n : Int)) = (m : Int) by rw [← Int.neg_tmod, Int.tmod_eq_emod_of_nonneg (by omega)]; exact HM.out), by have := HM.out; omega, rfl⟩
  · have hr := Int.emod_nonneg c (show (n : Int) ≠ 0 by omega)
    have hs := Int.emod_lt_of_pos c (show (0 : Int) < n by omega)
    obtain ⟨m, hm⟩ := Int.eq_ofNat_of_zero_le hr
    have HM := Lib.hid hm
    have h0 : 0 ≤ c := by omega
    clear hm hr
    go_enter Tryd.func19, Tryd.ntmps19
    go_wp2
    go_ret
    exact ⟨m, ret_int (by first | exact HM.out | (rw [← HM.out]; rfl) | (rw [← HM.out]; exact Int.tmod_eq_emod_of_nonneg (by omega))), by have := HM.out; omega, rfl⟩
def edB (x y : Int) (e : Edg) : Bool := e == ⟨x, y⟩
theorem any_step {E : List Edg} {p : Edg → Bool} {k : Nat} (h : k < E.length) : (E.take (k + 1)).any p = ((E.take k).any p || p E[k]) := by
  rw [List.take_succ_eq_append_getElem h, List.any_append]
  simp
set_option maxRecDepth 100000 in
set_option maxHeartbeats 8000000 in
theorem flowTrue_any (S : SysD) (a b c : Int) (hab : in64 a) (hbb : in64 b) (hcb : in64 c) (vp vc vs : Value) (w : World) (he : Env w) (hS : Sys w vp vc vs S) :
    Calls Tryd.prog 5 #[.agg #[vp, vc, vs], .int .i64 a, .int .i64 b, .int .i64 c] w fun e w' => e = .returned (.bool true) ∧ RowKit.Below w.heap.size w w' := by
  obtain ⟨pa, pc, rfl⟩ := hS.p.form
  obtain ⟨ca, cc, rfl⟩ := hS.c.form
  obtain ⟨sa, sc, rfl⟩ := hS.s.form
  have HS := Lib.hid hS
  have HA := Lib.hid hab
  have HBB := Lib.hid hbb
  have HC := Lib.hid hcb
  clear hS hab hbb hcb
  generalize hr : chkS S = r
  have HR := Lib.hid hr
  clear hr
  go_enter Tryd.func5, Tryd.ntmps5
  go_wp2_with fail
  refine (flReach_any S _ _ _ _ (he.up (by repeat (first | exact Below.refl _ _ | assumption | refine Below.drew ?_ | refine Below.alloc ?_ (by first | (simp; done) | (simp; omega)) _ | refine Below.setCell ?_ (by first | (simp; done) | (simp; omega)) _))) (HS.out.up (by repeat (first | exact Below.refl _ _ | assumption | refine Below.drew ?_ | refine Below.alloc ?_ (by first | (simp; done) | (simp; omega)) _ | refine Below.setCell ?_ (by first | (simp; done) | (simp; omega)) _)))).mono ?_
  rw [HR.out]
  rintro e w1 ⟨vm, rfl, hm, bb, HSR⟩
  obtain ⟨ma, mc, rfl⟩ := hm.form
  have HM := Lib.hid hm
  have HB := Lib.hid ((box_new w (.slice pa S.parts.length pc) (.slice ca S.chans.length cc) (.slice sa S.slots.length sc) 26 _ rfl).up bb)
  have D := Lib.hid (RowKit.Below.trans (show RowKit.Below w.heap.size w _ from (by repeat (first | exact Below.refl _ _ | assumption | refine Below.drew ?_ | refine Below.alloc ?_ (by first | (simp; done) | (simp; omega)) _ | refine Below.setCell ?_ (by first | (simp; done) | (simp; omega)) _))) (bb.mono (by simp)))
  clear bb hm
  have k0 := HB.out.p
  have k1 := HB.out.c
  have k2 := HB.out.s
  go_wp2_with fail
  refine (flEdges_any S _ _ _ _ (he.up D.out) (HS.out.up D.out)).mono ?_
  rw [HR.out]
  rintro e w2 ⟨vl, rfl, hl, bb⟩
  obtain ⟨la, lc, rfl⟩ := hl.form
  have HL := Lib.hid hl
  have HM2 := Lib.hid (HM.out.up bb)
  have HB2 := Lib.hid (HB.out.up bb)
  have D2 := Lib.hid (D.out.trans (bb.mono D.out.size))
  clear bb HB D HM hl k0 k1 k2
  by_cases h0 : r = 0
  · subst h0
    obtain ⟨h4, h1, hcl, _⟩ := chk_flow HR.out
    have hq : reachQ S = S.parts.length := by unfold reachQ; rw [if_pos HR.out]
    have hqe : edgesQ S = edgesL S := by unfold edgesQ; rw [if_pos HR.out]
    rw [hq] at HM2 HSR ⊢
    rw [hqe] at HL ⊢
    have hEl : (edgesL S).length ≤ 16 := by rw [← hqe]; exact edgesQ_len S
    clear hq hqe
    have k0 := HB2.out.p
    have h1i : ((S.parts.length : Int) == 0) = false := by rw [beq_eq_false_iff_ne]; omega
    go_upto_region 5 with fail
    refine region_still (S := fun w' => w'.cell? ⟨w.heap.size, 0, none⟩ = some (.slice pa S.parts.length pc)) 17 (by kernel_rfl) HB2.out.p (fun hHeld => ?_)
    refine Still.takeBy (i := 0) [] (v := ?v1) (by kernel_rfl) (by kernel_rfl) rfl (by kernel_rfl) (by kernel_rfl) (by kernel_rfl) (fun _ _ _ h => h) (Or.inl ⟨by rfl, ?y1⟩) hHeld ?r1
    case y1 => (intro w' hSw; (try dsimp only at hSw); go_simp; try with_reducible rfl)
    simp only [Act.put, List.getElem_toArray, List.getElem_cons_zero, List.getElem_cons_succ, List.setIfInBounds_toArray, List.set_cons_zero, List.set_cons_succ]
    refine Still.takeBy (i := 1) [] (v := ?v2) (by kernel_rfl) (by kernel_rfl) rfl (by kernel_rfl) (by kernel_rfl) (by kernel_rfl) (fun _ _ _ h => h) (Or.inl ⟨by rfl, ?y2⟩) hHeld ?r2
    case y2 => (intro w' hSw; (try dsimp only at hSw); go_simp; try with_reducible rfl)
    simp only [Act.put, List.getElem_toArray, List.getElem_cons_zero, List.getElem_cons_succ, List.setIfInBounds_toArray, List.set_cons_zero, List.set_cons_succ]
    refine Still.takeBy (i := 2) [] (v := ?v3) (by kernel_rfl) (by kernel_rfl) rfl (by kernel_rfl) (by kernel_rfl) (by kernel_rfl) (fun _ _ _ h => h) (Or.inl ⟨by rfl, ?y3⟩) hHeld ?r3
    case y3 => (intro w' hSw; (try dsimp only at hSw); go_simp; try with_reducible rfl)
    simp only [Act.put, List.getElem_toArray, List.getElem_cons_zero, List.getElem_cons_succ, List.setIfInBounds_toArray, List.set_cons_zero, List.set_cons_succ]
    refine Still.takeBy (i := 3) [] (v := ?v4) (by kernel_rfl) (by kernel_rfl) rfl (by kernel_rfl) (by kernel_rfl) (by kernel_rfl) (fun _ _ _ h => h) (Or.inl ⟨by rfl, ?y4⟩) hHeld ?r4
    case y4 => (intro w' hSw; (try dsimp only at hSw); go_simp; try with_reducible rfl)
    simp only [Act.put, List.getElem_toArray, List.getElem_cons_zero, List.getElem_cons_succ, List.setIfInBounds_toArray, List.set_cons_zero, List.set_cons_succ]
    refine Still.takeBy (i := 5) [] (v := ?v5) (by kernel_rfl) (by kernel_rfl) rfl (by kernel_rfl) (by kernel_rfl) (by kernel_rfl) (fun _ _ _ h => h) (Or.inl ⟨by rfl, ?y5⟩) hHeld ?r5
    case y5 => (intro w' hSw; (try dsimp only at hSw); go_simp; try with_reducible rfl)
    simp only [Act.put, List.getElem_toArray, List.getElem_cons_zero, List.getElem_cons_succ, List.setIfInBounds_toArray, List.set_cons_zero, List.set_cons_succ]
    refine Still.takeBy (i := 6) [] (v := ?v6) (by kernel_rfl) (by kernel_rfl) rfl (by kernel_rfl) (by kernel_rfl) (by kernel_rfl) (fun _ _ _ h => h) (Or.inl ⟨by rfl, ?y6⟩) hHeld ?r6
    case y6 => (intro w' hSw; (try dsimp only at hSw); go_simp; try with_reducible rfl)
    simp only [Act.put, List.getElem_toArray, List.getElem_cons_zero, List.getElem_cons_succ, List.setIfInBounds_toArray, List.set_cons_zero, List.set_cons_succ]
    refine Still.takeBy (i := 7) [] (v := ?v7) (by kernel_rfl) (by kernel_rfl) rfl (by kernel_rfl) (by kernel_rfl) (by kernel_rfl) (fun _ _ _ h => h) (Or.inl ⟨by rfl, ?y7⟩) hHeld ?r7
    case y7 => (intro w' hSw; (try dsimp only at hSw); go_simp; try with_reducible rfl)
    simp only [Act.put, List.getElem_toArray, List.getElem_cons_zero, List.getElem_cons_succ, List.setIfInBounds_toArray, List.set_cons_zero, List.set_cons_succ]
    refine Still.takeBy (i := 8) [] (v := ?v8) (by kernel_rfl) (by kernel_rfl) rfl (by kernel_rfl) (by kernel_rfl) (by kernel_rfl) (fun _ _ _ h => h) (Or.inl ⟨by rfl, ?y8⟩) hHeld ?r8
    case y8 => (intro w' hSw; (try dsimp only at hSw); go_simp; try with_reducible rfl)
    simp only [Act.put, List.getElem_toArray, List.getElem_cons_zero, List.getElem_cons_succ, List.setIfInBounds_toArray, List.set_cons_zero, List.set_cons_succ]
    refine Still.takeBy (i := 10) [] (v := ?v9) (by kernel_rfl) (by kernel_rfl) rfl (by kernel_rfl) (by kernel_rfl) (by kernel_rfl) (fun _ _ _ h => h) (Or.inl ⟨by rfl, ?y9⟩) hHeld ?r9
    case y9 => (intro w' hSw; (try dsimp only at hSw); go_simp; try with_reducible rfl)
    simp only [Act.put, List.getElem_toArray, List.getElem_cons_zero, List.getElem_cons_succ, List.setIfInBounds_toArray, List.set_cons_zero, List.set_cons_succ]
    refine Still.takeBy (i := 11) [] (v := ?v10) (by kernel_rfl) (by kernel_rfl) rfl (by kernel_rfl) (by kernel_rfl) (by kernel_rfl) (fun _ _ _ h => h) (Or.inl ⟨by rfl, ?y10⟩) hHeld ?r10
    case y10 => (intro w' hSw; (try dsimp only at hSw); go_simp; try with_reducible rfl)
    simp only [Act.put, List.getElem_toArray, List.getElem_cons_zero, List.getElem_cons_succ, List.setIfInBounds_toArray, List.set_cons_zero, List.set_cons_succ]
    refine Still.takeBy (i := 12) [] (v := ?v11) (by kernel_rfl) (by kernel_rfl) rfl (by kernel_rfl) (by kernel_rfl) (by kernel_rfl) (fun _ _ _ h => h) (Or.inl ⟨by rfl, ?y11⟩) hHeld ?r11
    case y11 => (intro w' hSw; (try dsimp only at hSw); go_simp; try with_reducible rfl)
    simp only [Act.put, List.getElem_toArray, List.getElem_cons_zero, List.getElem_cons_succ, List.setIfInBounds_toArray, List.set_cons_zero, List.set_cons_succ]
    refine Still.takeBy (i := 13) [] (v := ?v12) (by kernel_rfl) (by kernel_rfl) rfl (by kernel_rfl) (by kernel_rfl) (by kernel_rfl) (fun _ _ _ h => h) (Or.inl ⟨by rfl, ?y12⟩) hHeld ?r12
    case y12 => (intro w' hSw; (try dsimp only at hSw); go_simp; try with_reducible rfl)
    simp only [Act.put, List.getElem_toArray, List.getElem_cons_zero, List.getElem_cons_succ, List.setIfInBounds_toArray, List.set_cons_zero, List.set_cons_succ]
    refine Still.all (rs := [4]) (by kernel_rfl) (by simp) (Still.one (i := 4) rfl rfl (fun K hK => ?_) (by simp))
    refine wp_call 19 _ _ rfl ent_choose #[.int .i64 a, .int .i64 (S.parts.length : Int)] (by first | rfl | simp [Act.eval, Act.put]) ((flChoose_any a HA.out S.parts.length h1 (by omega) _).mono ?_)
    rintro e V ⟨x, rfl, hx, rfl⟩
    refine ⟨_, rfl, hK _ _ (fun _ => hHeld) (fun hh => ?_)⟩
    clear hK K hh
    try simp only [Act.put, List.getElem_toArray, List.getElem_cons_zero, List.getElem_cons_succ, List.setIfInBounds_toArray, List.set_cons_zero, List.set_cons_succ]
    refine Still.all (rs := [9]) (by kernel_rfl) (by simp) (Still.one (i := 9) rfl rfl (fun K hK => ?_) (by simp))
    refine wp_call 19 _ _ rfl ent_choose #[.int .i64 b, .int .i64 (S.parts.length : Int)] (by first | rfl | simp [Act.eval, Act.put]) ((flChoose_any b HBB.out S.parts.length h1 (by omega) _).mono ?_)
    rintro e V ⟨y, rfl, hy, rfl⟩
    refine ⟨_, rfl, hK _ _ (fun _ => hHeld) (fun hh => ?_)⟩
    clear hK K hh
    try simp only [Act.put, List.getElem_toArray, List.getElem_cons_zero, List.getElem_cons_succ, List.setIfInBounds_toArray, List.set_cons_zero, List.set_cons_succ]
    refine Still.all (rs := [14]) (by kernel_rfl) (by simp) (Still.one (i := 14) rfl rfl (fun K hK => ?_) (by simp))
    refine wp_call 19 _ _ rfl ent_choose #[.int .i64 c, .int .i64 (S.parts.length : Int)] (by first | rfl | simp [Act.eval, Act.put]) ((flChoose_any c HC.out S.parts.length h1 (by omega) _).mono ?_)
    rintro e V ⟨z, rfl, hz, rfl⟩
    refine ⟨_, rfl, hK _ _ (fun _ => hHeld) (fun hh => ?_)⟩
    clear hK K hh
    try simp only [Act.put, List.getElem_toArray, List.getElem_cons_zero, List.getElem_cons_succ, List.setIfInBounds_toArray, List.set_cons_zero, List.set_cons_succ]
    refine Still.takeBy (i := 15) [] (v := ?v13) (by kernel_rfl) (by kernel_rfl) rfl (by kernel_rfl) (by kernel_rfl) (by kernel_rfl) (fun _ _ _ h => h) (Or.inl ⟨by rfl, ?y13⟩) hHeld ?r13
    case y13 => (intro w' hSw; (try dsimp only at hSw); go_simp; try with_reducible rfl)
    simp only [Act.put, List.getElem_toArray, List.getElem_cons_zero, List.getElem_cons_succ, List.setIfInBounds_toArray, List.set_cons_zero, List.set_cons_succ]
    refine Still.takeBy (i := 16) [] (v := ?v14) (by kernel_rfl) (by kernel_rfl) rfl (by kernel_rfl) (by kernel_rfl) (by kernel_rfl) (fun _ _ _ h => h) (Or.inl ⟨by rfl, ?y14⟩) hHeld ?r14
    case y14 => (intro w' hSw; (try dsimp only at hSw); go_simp; try with_reducible rfl)
    simp only [Act.put, List.getElem_toArray, List.getElem_cons_zero, List.getElem_cons_succ, List.setIfInBounds_toArray, List.set_cons_zero, List.set_cons_succ]
    refine Still.all (rs := [17]) (by kernel_rfl) (by simp) (Still.one (i := 17) rfl rfl (fun K hK => ?_) (by simp))
    go_simp
    refine hK _ _ (fun h => absurd rfl h) (fun _ => ?_)
    clear hK K
    refine Still.over (by kernel_rfl) ?_ _
    clear hHeld
    have k0 := HB2.out.p
    have k1 := HB2.out.c
    have k2 := HB2.out.s
    have hpx : thereE S x = 0 := by unfold thereE withinB; rw [if_pos HR.out, if_pos (by simp; omega)]
    have hpy : thereE S y = 0 := by unfold thereE withinB; rw [if_pos HR.out, if_pos (by simp; omega)]
    have HPE : Hid (pathE S x y = 0) := Lib.hid (by unfold pathE; rw [if_pos hpx, hpy])
    have HX : Hid ((0 : Int) ≤ (x : Int) ∧ (x : Int) < S.parts.length) := Lib.hid (by omega)
    have HY : Hid ((0 : Int) ≤ (y : Int) ∧ (y : Int) < S.parts.length) := Lib.hid (by omega)
    clear hpx hpy h1i
    go_wp2_with fail
    refine (flPath_any S x y _ _ _ _ (he.up (D2.out.trans (RowKit.Below.refl _ _).drew)) (HS.out.up (D2.out.trans (RowKit.Below.refl _ _).drew))).mono ?_
    rw [HPE.out]
    rintro e w3 ⟨vq, rfl, hqs, bb, hsr⟩
    obtain ⟨qa, qc, rfl⟩ := hqs.form
    obtain ⟨l5, hsr, hl5⟩ := hsr.out rfl
    subst hl5
    have e2 := search_reach (by omega) HX.out hsr
    rw [e2] at hsr ⊢
    have HSR5 := Lib.hid hsr
    have HQS := Lib.hid hqs
    have B3 : Hid (RowKit.Below w2.heap.size w2 w3) := Lib.hid (RowKit.Below.trans (RowKit.Below.refl _ _).drew bb)
    have k0 := (HB2.out.up B3.out).p
    obtain ⟨mb, mo, mcap, e1, hmc, hmb, hrows⟩ := (HM2.out.up B3.out).row h1 h1
    cases e1
    obtain ⟨xb, xo, xc, mx, gx, hxb, rx⟩ := hrows x hx
    obtain ⟨yb, yo, yc, my, gy, hyb, ry⟩ := hrows y hy
    have mxy := rx y hy
    have mxz := rx z hz
    have myz := ry z hz
    have tr := fun h1 h2 => (HSR.out x z hx hz).elim (fun l hl => reach_trans (S := S) (by omega) HX.out HY.out hl h1 h2)
    have TR := Lib.hid tr
    have D3 := Lib.hid (D2.out.trans (B3.out.mono D2.out.size))
    clear hrows rx ry e2 bb hqs hsr tr k1 k2
    have hxi : (x : Int) < S.parts.length := by omega
    have hyi : (y : Int) < S.parts.length := by omega
    have hzi : (z : Int) < S.parts.length := by omega
    cases hxy : reachB S x y with
    | false =>
      rw [hxy] at mxy
      clear hxy
      go_wp2_with fail
      refine (flowBegun_any _ (he.up D3.out)).mono ?_
      rintro e w9 ⟨rfl, bb⟩
      have D9 := Lib.hid (D3.out.trans (bb.mono D3.out.size))
      clear bb
      go_wp2
      go_ret
      exact ⟨rfl, D9.out⟩
    | true =>
    rw [hxy] at mxy
    have HXY := Lib.hid hxy
    clear hxy
    go_upto_region 7 with fail
    go_cut [136] from 68 to 136 (fun p wc => p = .bool false ∧ Hid (RowKit.Below w3.heap.size w3 wc))
    case first =>
      cases hyz : reachB S y z with
      | false =>
        rw [hyz] at myz
        go_wp2
        go_meet
        exact ⟨rfl, Lib.hid (RowKit.Below.refl _ _)⟩
      | true =>
        have hxz := TR.out HXY.out hyz
        rw [hyz] at myz
        rw [hxz] at mxz
        go_wp2
        go_meet
        exact ⟨rfl, Lib.hid (RowKit.Below.refl _ _)⟩
    case rest =>
      obtain ⟨rfl, B4⟩ := hcut
      have HQS := Lib.hid (HQS.out.up B4.out)
      have D3 := Lib.hid (D3.out.trans (B4.out.mono D3.out.size))
      have B3 := Lib.hid (B3.out.trans (B4.out.mono B3.out.size))
      clear mxy mxz myz mx my k0
      ·
        have hsr := HSR5.out
        rw [HXY.out] at hsr
        obtain ⟨q0, qf, ql, qn, qw⟩ := path_way (by omega) HX.out hsr
        generalize pathQ S x y = L at HQS q0 qf ql qn qw
        clear hsr HSR5
        have HQW := Lib.hid qw
        obtain ⟨qb, qo, qcap, e1, hqc, hqb, hqx⟩ := HQS.out.open q0
        cases e1
        have HQX := Lib.hid hqx
        have f0 := hqx 0 _ (ints_at L 0 q0)
        have f1 := hqx (L.length - 1) _ (ints_at L _ (by omega))
        rw [ql] at f1
        rw [qf, Nat.add_zero] at f0
        have hl0 : ((L.length : Int) == 0) = false := by rw [beq_eq_false_iff_ne]; omega
        have HL0 := Lib.hid q0
        clear qw hqx ql
        have hq1 : (0 : Int) ≤ (L.length : Int) - 1 := by omega
        have hq2 : (L.length : Int) - 1 < L.length := by omega
        clear qf
        go_wp2
        clear f0 f1 hq1 hq2 hl0
        go_loopw [19] (fun i wr => ∃ k : Nat, i = .int .i64 k ∧ k + 1 ≤ L.length ∧ Hid (RowKit.Below wc.heap.size wc wr)) (fun i _ => L.length - (intOf i).toNat)
        case atStart => exact ⟨0, rfl, by have := HL0.out; omega, Lib.hid (RowKit.Below.refl _ _)⟩
        case round =>
          obtain ⟨k, rfl, hk, HT⟩ := hrel
          by_cases hlt : k + 1 < L.length
          · have hli : (k : Int) + 1 < L.length := by omega
            go_wp2
            go_loopw [21, 20] (fun i f wr => ∃ j : Nat, i = .int .i64 j ∧ j ≤ (edgesL S).length ∧ f = .bool (((edgesL S).take j).any (edB (L[k]'(by omega)) L[k + 1])) ∧ Hid (RowKit.Below wc.heap.size wc wr)) (fun i _ _ => (edgesL S).length - (intOf i).toNat)
            case atStart => exact ⟨0, rfl, Nat.zero_le _, by simp, HT⟩
            case round =>
              clear HT
              obtain ⟨j, rfl, hj, rfl, HT⟩ := hrel
              by_cases hjl : j < (edgesL S).length
              · have hji : (j : Int) < (edgesL S).length := by omega
                have HST := Lib.hid (any_step (p := edB (L[k]'(by omega)) L[k + 1]) hjl)
                obtain ⟨lb, lo, lcap, e1, hlc, hlb, hlx⟩ := ((HL.out.up B3.out).up HT.out).open (by omega)
                cases e1
                obtain ⟨c0, c1⟩ := edge_cells hlx j hjl
                have f0 := bcl HT.out hqb (HQX.out k _ (ints_at L k (by omega)))
                have f1 := bcl HT.out hqb (HQX.out (k + 1) _ (ints_at L (k + 1) hlt))
                generalize (edgesL S)[j] = ed at c0 c1 HST
                obtain ⟨ef, et⟩ := ed
                simp only at c0 c1
                generalize (L[k]'(by omega)) = lx at f0 HST
                generalize L[k + 1] = ly at f1 HST
                clear hlx
                have hk1 : (k : Int) < L.length := by omega
                cases hfl : ((edgesL S).take j).any (edB lx ly) with
                | true =>
                  have HST2 := Lib.hid (HST.out.trans (by rw [hfl]; rfl) : _ = true)
                  go_upto_region 20 with fail
                  go_region
                  all_goals go_wp2
                  all_goals
                    go_roundw
                    case rel => exact ⟨j + 1, by go_num, by omega, by rw [HST2.out], Lib.hid (HT.out.trans (by first | exact RowKit.Below.refl _ _ | exact (RowKit.Below.refl _ _).drew))⟩
                    case measure => simp [intOf]; omega
                | false =>
                  by_cases h1e : ef = lx
                  · subst h1e
                    by_cases h2e : et = ly
                    · subst h2e
                      have HST2 := Lib.hid (HST.out.trans (by rw [hfl]; simp [edB]) : _ = true)
                      go_upto_region 20 with fail
                      go_region
                      all_goals go_wp2
                      all_goals
                        go_roundw
                        case rel => exact ⟨j + 1, by go_num, by omega, by rw [HST2.out], Lib.hid (HT.out.trans (by first | exact RowKit.Below.refl _ _ | exact (RowKit.Below.refl _ _).drew))⟩
                        case measure => simp [intOf]; omega
                    · have HST2 := Lib.hid (HST.out.trans (by rw [hfl]; simp [edB, h2e]) : _ = false)
                      have h2' : (et == ly) = false := by simpa using h2e
                      go_upto_region 20 with fail
                      go_region
                      all_goals go_wp2
                      all_goals
                        go_roundw
                        case rel => exact ⟨j + 1, by go_num, by omega, by rw [HST2.out], Lib.hid (HT.out.trans (by first | exact RowKit.Below.refl _ _ | exact (RowKit.Below.refl _ _).drew))⟩
                        case measure => simp [intOf]; omega
                  · have HST2 := Lib.hid (HST.out.trans (by rw [hfl]; simp [edB, h1e]) : _ = false)
                    have h1' : (ef == lx) = false := by simpa using h1e
                    go_upto_region 20 with fail
                    go_region
                    all_goals go_wp2
                    all_goals
                      go_roundw
                      case rel => exact ⟨j + 1, by go_num, by omega, by rw [HST2.out], Lib.hid (HT.out.trans (by first | exact RowKit.Below.refl _ _ | exact (RowKit.Below.refl _ _).drew))⟩
                      case measure => simp [intOf]; omega
              · have hji : ¬ (j : Int) < (edgesL S).length := by omega
                have hany : ((edgesL S).take j).any (edB (L[k]'(by omega)) L[k + 1]) = true := by
                  rw [List.take_of_length_le (by omega), List.any_eq_true]
                  exact ⟨_, HQW.out k hlt, by simp [edB]⟩
                rw [hany]
                clear hany
                go_wp2
                go_roundw
                case rel => exact ⟨k + 1, by go_num, by omega, HT⟩
                case measure => simp [intOf]; omega
          · have hli : ¬ (k : Int) + 1 < L.length := by omega
            have D4 := Lib.hid (D3.out.trans (HT.out.mono D3.out.size))
            go_wp2_with fail
            refine (flowBegun_any _ (he.up D4.out)).mono ?_
            rintro e w9 ⟨rfl, bb⟩
            have D9 := Lib.hid (D4.out.trans (bb.mono D4.out.size))
            clear bb
            go_wp2
            go_ret
            exact ⟨rfl, D9.out⟩
  · have h0' : (r != 0) = true := by simpa using h0
    clear h0
    go_wp2_with fail
    refine (flowBegun_any _ (he.up D2.out)).mono ?_
    rintro e w9 ⟨rfl, bb⟩
    have D9 := Lib.hid (D2.out.trans (bb.mono D2.out.size))
    clear bb
    go_wp2
    go_ret
    exact ⟨rfl, D9.out⟩
end Go.Proofs.YthpljbbhpbijgaaDoor

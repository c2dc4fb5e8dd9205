/- viewBegun: what must be in any case. -/
import Derived.Test.YtehhhiodfcdnmaaGreatDoorJ15
import Derived.Test.YtehhhiodfcdnmaaGreatDoorJ16
import Derived.Test.YtehhhiodfcdnmaaGreatDoorJ14
import Derived.Test.YtehhhiodfcdnmaaGreatDoorJ3
import Derived.Test.YtehhhiodfcdnmaaGreatDoorJ9
namespace Go.Proofs.YtehhhiodfcdnmaaGreatDoor
set_option linter.unusedSimpArgs false
set_option linter.unusedVariables false
open Go.RowKit Go.Sort
theorem entRelayV : Enters 40 := enters Tryz.func40 (by kernel_rfl) (by kernel_rfl)
theorem entOf : Enters 9 := enters Tryz.func9 (by kernel_rfl) (by kernel_rfl)
theorem relayV (w : World) : Calls Tryz.prog 40 #[] w fun e w' => ∃ vp vc vs, e = .returned (.agg #[vp, vc, vs]) ∧ Sys w' vp vc vs relayS ∧ Below w.heap.size w w' := by
  refine (relay_any w).mono ?_
  rintro e w' ⟨vp, vc, vs, h1, h2, h3⟩
  exact ⟨vp, vc, vs, h1, h2.sys, h3⟩
theorem relayEV : runE relayS 7 = 0 := by kernel_rfl
theorem relayVE : viewE relayS (runR relayS 7) 1 = 0 := by kernel_rfl
theorem relayVL : (viewR relayS (runR relayS 7) 1).ls.length = 2 := by kernel_rfl
theorem relayVO : (viewR relayS (runR relayS 7) 1).d.out = [6] := by kernel_rfl
theorem relayTh : thE relayS 1 = 0 := by kernel_rfl
theorem relayPL : (purgeR relayS 1).parts.length = 4 := by kernel_rfl
theorem relayP0 : ∀ h, ((purgeR relayS 1).parts[0]'h).code.length = 3 := fun _ => by kernel_rfl
theorem relayP2 : ∀ h, ((purgeR relayS 1).parts[2]'h).code.length = 1 := fun _ => by kernel_rfl
theorem relayP3 : ∀ h, ((purgeR relayS 1).parts[3]'h).code.length = 1 := fun _ => by kernel_rfl
def restP : Prt := ⟨[⟨14, 0, 0, 0⟩], []⟩
def putP : Prt := ⟨[⟨12, 0, 0, 0⟩], []⟩
theorem relayO0 : otherE relayS 3 restP = 0 := by kernel_rfl
theorem relayO1 : otherE relayS 3 putP = 1 := by kernel_rfl
theorem relayOL : (otherR relayS 3 restP).parts.length = 4 := by kernel_rfl
theorem relayO3 : ∀ h, ((otherR relayS 3 restP).parts[3]'h) = restP := fun _ => by kernel_rfl
theorem of7 (D : WldD) (V : ViwD) (hE : viewE relayS D 1 = 0) (hV : viewR relayS D 1 = V) (hL : V.ls.length = 2) (hO : V.d.out = [6]) (vp vc vs uc ul : Value) (w : World) (he : Env w) (hS : Sys w vp vc vs relayS) (hW : Wld w uc ul D) :
    Calls Tryz.prog 9 #[.agg #[vp, vc, vs], .agg #[.int .i64 D.tick, uc, ul], .int .i64 1] w fun e w' => ∃ oa oc ma mc, e = .returned (.tuple #[.agg (vwC V.d.c (.slice oa 1 oc) (.slice ma 2 mc)), .int .i64 0]) ∧ Sl w' 1 (.slice oa 1 oc) 1 (ints [6]) ∧ NewB w.heap.size (.slice oa 1 oc) ∧ Below w.heap.size w w' := by
  refine (viewOf_any relayS D 1 vp vc vs uc ul w he hS hW 0 hE V hV).mono ?_
  rintro e w' ⟨o, vl, rfl, h1, h2⟩
  have hs := h1.so
  rw [hO] at hs
  obtain ⟨oa, oc, rfl⟩ := hs.form
  obtain ⟨ma, mc, e2⟩ := h1.l.form
  rw [hL] at e2
  subst e2
  exact ⟨oa, oc, ma, mc, rfl, hs, h1.no, h2⟩
theorem purge7 (vp vc vs : Value) (w : World) (he : Env w) (hS : Sys w vp vc vs relayS) :
    Calls Tryz.prog 15 #[.agg #[vp, vc, vs], .int .i64 1] w fun e w' => ∃ b off xc a1 l1 c1 a2 l2 c2 q0 z0 q2 z2 q3 z3, e = .returned (.tuple #[.agg #[.slice (some ⟨b, off, none⟩) 4 xc, .slice a1 l1 c1, .slice a2 l2 c2], .int .i64 0]) ∧ b < w'.heap.size ∧ w'.cell? ⟨b, off, none⟩ = some (.slice q0 3 z0) ∧ w'.cell? ⟨b, off + 4, none⟩ = some (.slice q2 1 z2) ∧ w'.cell? ⟨b, off + 6, none⟩ = some (.slice q3 1 z3) ∧ Below w.heap.size w w' := by
  refine (purge_any relayS 1 vp vc vs w he hS 0 relayTh (purgeR relayS 1) rfl).mono ?_
  rintro e w' ⟨xp, xc, xs, rfl, h1, h2⟩
  obtain ⟨a1, c1, rfl⟩ := h1.c.form
  obtain ⟨a2, c2, rfl⟩ := h1.s.form
  obtain ⟨b, off, cap, rfl, _, hb, hp⟩ := h1.p.r.open (by rw [relayPL]; omega)
  have hl := relayPL
  obtain ⟨v0, _, k0, _, r0⟩ := hp 0 (by omega)
  obtain ⟨v2, _, k2, _, r2⟩ := hp 2 (by omega)
  obtain ⟨v3, _, k3, _, r3⟩ := hp 3 (by omega)
  obtain ⟨q0, z0, e0⟩ := r0.code.form
  obtain ⟨q2, z2, e2⟩ := r2.code.form
  obtain ⟨q3, z3, e3⟩ := r3.code.form
  rw [relayP0] at e0
  rw [relayP2] at e2
  rw [relayP3] at e3
  subst e0 e2 e3
  rw [hl]
  exact ⟨b, off, cap, a1, _, c1, a2, _, c2, q0, z0, q2, z2, q3, z3, rfl, hb, by simpa using k0, k2, k3, h2⟩
theorem other7 (vp vc vs pv iv : Value) (w : World) (he : Env w) (hS : Sys w vp vc vs relayS) (hp : PrtR w pv iv restP) :
    Calls Tryz.prog 16 #[.agg #[vp, vc, vs], .int .i64 3, .agg #[pv, iv]] w fun e w' => ∃ b off xc a1 l1 c1 a2 l2 c2 cb co z, e = .returned (.tuple #[.agg #[.slice (some ⟨b, off, none⟩) 4 xc, .slice a1 l1 c1, .slice a2 l2 c2], .int .i64 0]) ∧ b < w'.heap.size ∧ cb < w'.heap.size ∧ w'.cell? ⟨b, off + 6, none⟩ = some (.slice (some ⟨cb, co, none⟩) 1 z) ∧ w'.cell? ⟨cb, co, none⟩ = some (.int .i64 14) ∧ Below w.heap.size w w' := by
  refine (other_any relayS 3 restP vp vc vs pv iv w he hS hp 0 relayO0 (otherR relayS 3 restP) rfl).mono ?_
  rintro e w' ⟨xp, xc, xs, rfl, h1, h2⟩
  obtain ⟨a1, c1, rfl⟩ := h1.c.form
  obtain ⟨a2, c2, rfl⟩ := h1.s.form
  have hl := relayOL
  obtain ⟨b, off, cap, rfl, _, hb, hq⟩ := h1.p.r.open (by rw [hl]; omega)
  obtain ⟨v3, _, k3, _, r3⟩ := hq 3 (by omega)
  rw [relayO3] at r3
  obtain ⟨cb, co, z, rfl, _, hcb, hcc⟩ := r3.code.open (by decide)
  rw [hl]
  have h14 := hcc 0 (.int .i64 14) rfl
  rw [Nat.add_zero] at h14
  exact ⟨b, off, cap, a1, _, c1, a2, _, c2, cb, co, z, rfl, hb, hcb, k3, h14, h2⟩
theorem other7b (vp vc vs pv iv : Value) (w : World) (he : Env w) (hS : Sys w vp vc vs relayS) (hp : PrtR w pv iv putP) :
    Calls Tryz.prog 16 #[.agg #[vp, vc, vs], .int .i64 3, .agg #[pv, iv]] w fun e w' => ∃ a0 l0 c0 a1 l1 c1 a2 l2 c2, e = .returned (.tuple #[.agg #[.slice a0 l0 c0, .slice a1 l1 c1, .slice a2 l2 c2], .int .i64 1]) ∧ Below w.heap.size w w' := by
  refine (other_any relayS 3 putP vp vc vs pv iv w he hS hp 1 relayO1 (otherR relayS 3 putP) rfl).mono ?_
  rintro e w' ⟨xp, xc, xs, rfl, h1, h2⟩
  obtain ⟨a0, c0, rfl⟩ := h1.p.r.form
  obtain ⟨a1, c1, rfl⟩ := h1.c.form
  obtain ⟨a2, c2, rfl⟩ := h1.s.form
  exact ⟨a0, _, c0, a1, _, c1, a2, _, c2, rfl, h2⟩
theorem litP (w : World) (op : Int) (g : Nat) (hg : g = w.heap.size) : PrtR (w.alloc (.cells #[.int .i64 op, .int .i64 0, .int .i64 0, .int .i64 0] 83)) (.slice (some ⟨g, 0, none⟩) 1 1) (.slice none 0 0) ⟨[⟨op, 0, 0, 0⟩], []⟩ :=
  ⟨lit_sl w [.int .i64 op, .int .i64 0, .int .i64 0, .int .i64 0] _ g 1 4 hg rfl, Sl.nil _ _⟩
set_option maxRecDepth 100000 in
set_option maxHeartbeats 16000000 in
theorem viewBegun_any (w : World) (he : Env w) : Calls Tryz.prog 13 #[] w fun e w' => e = .returned (.bool true) ∧ Below w.heap.size w w' := by
  obtain ⟨D, hD⟩ : ∃ D, runR relayS 7 = D := ⟨_, rfl⟩
  have hE := relayVE
  have hL := relayVL
  have hO := relayVO
  rw [hD] at hE hL hO
  obtain ⟨V, hV⟩ : ∃ V, viewR relayS D 1 = V := ⟨_, rfl⟩
  rw [hV] at hL hO
  have HRUN := Lib.hid fun vp vc vs w he hS => kernRun_any relayS 7 vp vc vs w he hS 0 relayEV D hD
  have HOF := Lib.hid fun vp vc vs uc ul w he hS hW => of7 D V hE hV hL hO vp vc vs uc ul w he hS hW
  have HE := Lib.hid he
  clear hE hL hO hV he hD
  go_enter Tryz.func13, Tryz.ntmps13
  go_wp2_with fail
  refine (relayV _).mono ?_
  rintro e w1 ⟨vp, vc, vs, rfl, hS, b1⟩
  have HE1 := Lib.hid (HE.out.up b1)
  have HD1 := Lib.hid b1
  have HS := Lib.hid hS
  clear hS b1
  go_wp2_with fail
  refine (HRUN.out _ _ _ _ HE1.out HS.out).mono ?_
  rintro e w2 ⟨xc, xl, rfl, hN, b2⟩
  obtain ⟨ca, cc, rfl⟩ := hN.wld.c.form
  obtain ⟨la, lc, rfl⟩ := hN.wld.l.form
  have z1 := HD1.out.size
  have HE2 := Lib.hid (HE1.out.up b2)
  have HD2 := Lib.hid (HD1.out.trans (b2.mono z1))
  have HN := Lib.hid hN
  have z2 := b2.size
  clear b2 hN HS HE1 HD1 HRUN
  go_wp2_with (refine wpList_store_rowW rfl 30 (.tmp 1) (.tmp 14) rfl w2.heap.size #[.int .i64 D.tick, .slice ca D.cells.length cc, .slice la D.lines.length lc] rfl rfl 30 #[.int .i64 0, .slice none 0 0, .slice none 0 0] (by repeat (first | exact Rw.new _ _ _ (by first | rfl | (simp; done) | omega | (simp; omega)) | refine Rw.alloc ?_ _)) sizeWld rfl (by simp [Value.oneCell']) ?_)
  intro W6 HW6
  have b6 : Below w2.heap.size w2 W6 := by rw [HW6.out]; exact below_row ((Below.refl _ _).alloc (Nat.le_refl _) _) (Nat.le_refl _) _
  have RB6 : Hid (Rw W6 w2.heap.size 30 #[.int .i64 D.tick, .slice ca D.cells.length cc, .slice la D.lines.length lc]) := by
    show Rw _ _ _ _
    rw [HW6.out]
    exact Rw.row (cs := #[.int .i64 0, .slice none 0 0, .slice none 0 0]) (by repeat (first | exact Rw.new _ _ _ (by first | rfl | (simp; done) | omega | (simp; omega)) | refine Rw.alloc ?_ _)) _
  have NB6 : Hid (Wld W6 (.slice ca D.cells.length cc) (.slice la D.lines.length lc) D) := by
    show Wld _ _ _ _
    rw [HW6.out]
    exact (HN.out.fresh _ _).wld
  have HE6 := Lib.hid (HE2.out.up b6)
  have HD6 := Lib.hid (HD2.out.trans (b6.mono (by omega)))
  have z6 := RB6.out.lt
  have z6' := b6.size
  clear HW6 b6 HN HE2 HD2
  go_upto_region 2 with fail
  go_cut [3, 4] from 16 to 21 (fun p3 p4 wd => ∃ g oa oc ma mc, p3 = .pointer (some ⟨g, 0, none⟩) ∧ p4 = .int .i64 0 ∧ Hid (Below W6.heap.size W6 wd) ∧ Hid (Rw wd g 37 (vwC V.d.c (.slice oa 1 oc) (.slice ma 2 mc))) ∧ Hid (Sl wd 1 (.slice oa 1 oc) 1 (ints [6])))
  case first =>
    refine region_still (S := fun w' => Below W6.heap.size W6 w') 8 (by kernel_rfl) (Below.refl _ _).drew (fun hHeld => ?_)
    refine Still.takeBy (i := 1) [] (by kernel_rfl) (by kernel_rfl) rfl (by kernel_rfl) (by kernel_rfl) (by kernel_rfl) (fun _ _ _ h => h) (yields_load rfl _ _ rfl _ (by first | rfl | simp [Act.eval, Act.put]) _ (fun w' hSw => Rw.loadAt (RB6.out.up hSw (by omega)) Tryz.underlying30 rfl sizeWld)) hHeld ?r151
    simp only [Act.put, List.getElem_toArray, List.getElem_cons_zero, List.getElem_cons_succ, List.setIfInBounds_toArray, List.set_cons_zero, List.set_cons_succ]
    generalize World.drew _ = Y0 at hHeld ⊢
    have H0 := Lib.hid hHeld.size
    refine Still.all (rs := [0, 6]) (by kernel_rfl) (by simp) (Still.one (i := 0) rfl rfl (fun K hK => ?_) (Still.one (i := 6) rfl rfl (fun K hK => ?_) (by simp)))
    · refine wp_call 40 _ _ rfl entRelayV #[] (by first | rfl | simp [Act.eval, Act.put]) ((relayV _).mono ?_)
      rintro e Y1 ⟨vp7, vc7, vs7, rfl, hS, bb⟩
      have z7 := bb.size
      refine ⟨_, rfl, hK _ _ (fun _ => hHeld.trans (bb.mono hHeld.size)) (fun hh => ?_)⟩
      have hHeld := hh (by decide)
      clear hK K hh
      try simp only [Act.put, List.getElem_toArray, List.getElem_cons_zero, List.getElem_cons_succ, List.setIfInBounds_toArray, List.set_cons_zero, List.set_cons_succ]
      have HS := Lib.hid hS
      clear hS bb
      have H1 := Lib.hid hHeld.size
      refine Still.all (rs := [2, 6]) (by kernel_rfl) (by simp) (Still.one (i := 2) rfl rfl (fun K hK => ?_) (Still.one (i := 6) rfl rfl (fun K hK => ?_) (by simp)))
      · refine wp_call 9 _ _ rfl entOf #[.agg #[vp7, vc7, vs7], .agg #[.int .i64 D.tick, .slice ca D.cells.length cc, .slice la D.lines.length lc], .int .i64 1] (by first | rfl | simp [Act.eval, Act.put]) ((HOF.out _ _ _ _ _ _ (HE6.out.up hHeld) HS.out (NB6.out.up hHeld)).mono ?_)
        rintro e Y2 ⟨oa, oc, ma, mc, rfl, hN, hNO, bb⟩
        have z8 := bb.size
        have HNO := Lib.hid hNO
        refine ⟨_, rfl, hK _ _ (fun _ => hHeld.trans (bb.mono hHeld.size)) (fun hh => ?_)⟩
        have hHeld := hh (by decide)
        clear hK K hh
        try simp only [Act.put, List.getElem_toArray, List.getElem_cons_zero, List.getElem_cons_succ, List.setIfInBounds_toArray, List.set_cons_zero, List.set_cons_succ]
        have HN := Lib.hid hN
        clear hN bb hNO
        refine Still.takeBy (i := 3) [] (v := ?v401) (by kernel_rfl) (by kernel_rfl) rfl (by kernel_rfl) (by kernel_rfl) (by kernel_rfl) (fun _ _ _ h => h) (Or.inl ⟨by rfl, ?y401⟩) hHeld ?r401
        case y401 => (intro w' hSw; (try dsimp only at hSw); go_simp; try with_reducible rfl)
        simp only [Act.put, List.getElem_toArray, List.getElem_cons_zero, List.getElem_cons_succ, List.setIfInBounds_toArray, List.set_cons_zero, List.set_cons_succ]
        refine Still.takeBy (i := 4) [] (v := ?v402) (by kernel_rfl) (by kernel_rfl) rfl (by kernel_rfl) (by kernel_rfl) (by kernel_rfl) (fun _ _ _ h => h) (Or.inl ⟨by rfl, ?y402⟩) hHeld ?r402
        case y402 => (intro w' hSw; (try dsimp only at hSw); go_simp; try with_reducible rfl)
        simp only [Act.put, List.getElem_toArray, List.getElem_cons_zero, List.getElem_cons_succ, List.setIfInBounds_toArray, List.set_cons_zero, List.set_cons_succ]
        refine Still.takeBy (i := 5) [] (v := ?v403) (by kernel_rfl) (by kernel_rfl) rfl (by kernel_rfl) (by kernel_rfl) (by kernel_rfl) (fun _ _ _ h => h) (Or.inl ⟨by rfl, ?y403⟩) hHeld ?r403
        case y403 => (intro w' hSw; (try dsimp only at hSw); go_simp; try with_reducible rfl)
        simp only [Act.put, List.getElem_toArray, List.getElem_cons_zero, List.getElem_cons_succ, List.setIfInBounds_toArray, List.set_cons_zero, List.set_cons_succ]
        have H2 := Lib.hid hHeld.size
        refine Still.all (rs := [6]) (by kernel_rfl) (by simp) (Still.one (i := 6) rfl rfl (fun K hK => ?_) (by simp))
        go_simp
        refine hK _ _ (fun _ => Below.alloc hHeld hHeld.size _) (fun hh => ?_)
        have hHeld := hh (by decide)
        clear hK K hh
        try simp only [Act.put, List.getElem_toArray, List.getElem_cons_zero, List.getElem_cons_succ, List.setIfInBounds_toArray, List.set_cons_zero, List.set_cons_succ]
        have RA : Hid (Rw (Y2.alloc (.cells (vwC celZ (.slice none 0 0) (.slice none 0 0)) 37)) Y2.heap.size 37 (vwC celZ (.slice none 0 0) (.slice none 0 0))) := Rw.new _ _ _ rfl
        have hya : W6.heap.size ≤ Y2.heap.size := by have := H2.out; exact this
        have H3 := Lib.hid hHeld.size
        refine Still.all (rs := [7]) (by kernel_rfl) (by simp) (Still.one (i := 7) rfl rfl (fun K hK => ?_) (by simp))
        refine wp_store_row 37 _ _ rfl Y2.heap.size (vwC V.d.c (.slice oa 1 oc) (.slice ma 2 mc)) (by first | rfl | simp [Act.eval, Act.put]) (by first | rfl | simp [Act.eval, Act.put]) 37 (vwC celZ (.slice none 0 0) (.slice none 0 0)) RA.out sizeView rfl (vwC_one _ _ _ rfl rfl) ?_
        refine hK _ _ (fun _ => below_row hHeld (by omega) _) (fun hh => ?_)
        have hHeld := hh (by decide)
        clear hK K hh
        try simp only [Act.put, List.getElem_toArray, List.getElem_cons_zero, List.getElem_cons_succ, List.setIfInBounds_toArray, List.set_cons_zero, List.set_cons_succ]
        refine Still.all (rs := [8]) (by kernel_rfl) (by simp) (Still.one (i := 8) rfl rfl (fun K hK => ?_) (by simp))
        go_simp
        refine hK _ _ (fun h => absurd rfl h) (fun _ => ?_)
        clear hK K
        refine Still.over (by kernel_rfl) ?_ _
        go_wp2
        go_meet
        exact ⟨_, oa, oc, ma, mc, rfl, rfl, hHeld, RA.out.row _, sl_fresh HN.out _ _⟩
      · go_simp
        refine hK _ _ (fun _ => Below.alloc hHeld hHeld.size _) (fun hh => ?_)
        have hHeld := hh (by decide)
        clear hK K hh
        try simp only [Act.put, List.getElem_toArray, List.getElem_cons_zero, List.getElem_cons_succ, List.setIfInBounds_toArray, List.set_cons_zero, List.set_cons_succ]
        have RA : Hid (Rw (Y1.alloc (.cells (vwC celZ (.slice none 0 0) (.slice none 0 0)) 37)) Y1.heap.size 37 (vwC celZ (.slice none 0 0) (.slice none 0 0))) := Rw.new _ _ _ rfl
        have hya : W6.heap.size ≤ Y1.heap.size := by have := H1.out; exact this
        have hs := HS.out.up ((Below.refl _ _).alloc (Nat.le_refl _) (.cells (vwC celZ (.slice none 0 0) (.slice none 0 0)) 37))
        clear HS
        have HS := Lib.hid hs
        clear hs
        have hHeld : Below W6.heap.size W6 (Y1.alloc (.cells (vwC celZ (.slice none 0 0) (.slice none 0 0)) 37)) := hHeld
        change Still _ _ _ _ _ _ _ _ _ (Y1.alloc (.cells (vwC celZ (.slice none 0 0) (.slice none 0 0)) 37))
        generalize hWg : Y1.alloc (.cells (vwC celZ (.slice none 0 0) (.slice none 0 0)) 37) = Y2 at hHeld RA HS ⊢
        have hlq : Y1.heap.size < Y2.heap.size := RA.out.lt
        clear hWg
        have H2 := Lib.hid hHeld.size
        refine Still.all (rs := [2]) (by kernel_rfl) (by simp) (Still.one (i := 2) rfl rfl (fun K hK => ?_) (by simp))
        refine wp_call 9 _ _ rfl entOf #[.agg #[vp7, vc7, vs7], .agg #[.int .i64 D.tick, .slice ca D.cells.length cc, .slice la D.lines.length lc], .int .i64 1] (by first | rfl | simp [Act.eval, Act.put]) ((HOF.out _ _ _ _ _ _ (HE6.out.up hHeld) HS.out (NB6.out.up hHeld)).mono ?_)
        rintro e Y3 ⟨oa, oc, ma, mc, rfl, hN, hNO, bb⟩
        have z8 := bb.size
        have HNO := Lib.hid hNO
        refine ⟨_, rfl, hK _ _ (fun _ => hHeld.trans (bb.mono hHeld.size)) (fun hh => ?_)⟩
        have hHeld := hh (by decide)
        clear hK K hh
        try simp only [Act.put, List.getElem_toArray, List.getElem_cons_zero, List.getElem_cons_succ, List.setIfInBounds_toArray, List.set_cons_zero, List.set_cons_succ]
        have hla := RA.out.lt
        have ra := RA.out.up bb RA.out.lt
        clear RA
        have RA := Lib.hid ra
        clear ra
        have HN := Lib.hid hN
        clear hN bb hNO
        refine Still.takeBy (i := 3) [] (v := ?v421) (by kernel_rfl) (by kernel_rfl) rfl (by kernel_rfl) (by kernel_rfl) (by kernel_rfl) (fun _ _ _ h => h) (Or.inl ⟨by rfl, ?y421⟩) hHeld ?r421
        case y421 => (intro w' hSw; (try dsimp only at hSw); go_simp; try with_reducible rfl)
        simp only [Act.put, List.getElem_toArray, List.getElem_cons_zero, List.getElem_cons_succ, List.setIfInBounds_toArray, List.set_cons_zero, List.set_cons_succ]
        refine Still.takeBy (i := 4) [] (v := ?v422) (by kernel_rfl) (by kernel_rfl) rfl (by kernel_rfl) (by kernel_rfl) (by kernel_rfl) (fun _ _ _ h => h) (Or.inl ⟨by rfl, ?y422⟩) hHeld ?r422
        case y422 => (intro w' hSw; (try dsimp only at hSw); go_simp; try with_reducible rfl)
        simp only [Act.put, List.getElem_toArray, List.getElem_cons_zero, List.getElem_cons_succ, List.setIfInBounds_toArray, List.set_cons_zero, List.set_cons_succ]
        refine Still.takeBy (i := 5) [] (v := ?v423) (by kernel_rfl) (by kernel_rfl) rfl (by kernel_rfl) (by kernel_rfl) (by kernel_rfl) (fun _ _ _ h => h) (Or.inl ⟨by rfl, ?y423⟩) hHeld ?r423
        case y423 => (intro w' hSw; (try dsimp only at hSw); go_simp; try with_reducible rfl)
        simp only [Act.put, List.getElem_toArray, List.getElem_cons_zero, List.getElem_cons_succ, List.setIfInBounds_toArray, List.set_cons_zero, List.set_cons_succ]
        have H3 := Lib.hid hHeld.size
        refine Still.all (rs := [7]) (by kernel_rfl) (by simp) (Still.one (i := 7) rfl rfl (fun K hK => ?_) (by simp))
        refine wp_store_row 37 _ _ rfl Y1.heap.size (vwC V.d.c (.slice oa 1 oc) (.slice ma 2 mc)) (by first | rfl | simp [Act.eval, Act.put]) (by first | rfl | simp [Act.eval, Act.put]) 37 (vwC celZ (.slice none 0 0) (.slice none 0 0)) RA.out sizeView rfl (vwC_one _ _ _ rfl rfl) ?_
        refine hK _ _ (fun _ => below_row hHeld (by omega) _) (fun hh => ?_)
        have hHeld := hh (by decide)
        clear hK K hh
        try simp only [Act.put, List.getElem_toArray, List.getElem_cons_zero, List.getElem_cons_succ, List.setIfInBounds_toArray, List.set_cons_zero, List.set_cons_succ]
        refine Still.all (rs := [8]) (by kernel_rfl) (by simp) (Still.one (i := 8) rfl rfl (fun K hK => ?_) (by simp))
        go_simp
        refine hK _ _ (fun h => absurd rfl h) (fun _ => ?_)
        clear hK K
        refine Still.over (by kernel_rfl) ?_ _
        go_wp2
        go_meet
        exact ⟨_, oa, oc, ma, mc, rfl, rfl, hHeld, RA.out.row _, HN.out.row _ (fun e => by have := HNO.out _ e; omega)⟩
    · go_simp
      refine hK _ _ (fun _ => Below.alloc hHeld hHeld.size _) (fun hh => ?_)
      have hHeld := hh (by decide)
      clear hK K hh
      try simp only [Act.put, List.getElem_toArray, List.getElem_cons_zero, List.getElem_cons_succ, List.setIfInBounds_toArray, List.set_cons_zero, List.set_cons_succ]
      have RA : Hid (Rw (Y0.alloc (.cells (vwC celZ (.slice none 0 0) (.slice none 0 0)) 37)) Y0.heap.size 37 (vwC celZ (.slice none 0 0) (.slice none 0 0))) := Rw.new _ _ _ rfl
      have hya : W6.heap.size ≤ Y0.heap.size := by have := H0.out; exact this
      have hHeld : Below W6.heap.size W6 (Y0.alloc (.cells (vwC celZ (.slice none 0 0) (.slice none 0 0)) 37)) := hHeld
      change Still _ _ _ _ _ _ _ _ _ (Y0.alloc (.cells (vwC celZ (.slice none 0 0) (.slice none 0 0)) 37))
      generalize hWg : Y0.alloc (.cells (vwC celZ (.slice none 0 0) (.slice none 0 0)) 37) = Y1 at hHeld RA ⊢
      have hlq : Y0.heap.size < Y1.heap.size := RA.out.lt
      clear hWg
      have H1 := Lib.hid hHeld.size
      refine Still.all (rs := [0]) (by kernel_rfl) (by simp) (Still.one (i := 0) rfl rfl (fun K hK => ?_) (by simp))
      refine wp_call 40 _ _ rfl entRelayV #[] (by first | rfl | simp [Act.eval, Act.put]) ((relayV _).mono ?_)
      rintro e Y2 ⟨vp7, vc7, vs7, rfl, hS, bb⟩
      have z7 := bb.size
      refine ⟨_, rfl, hK _ _ (fun _ => hHeld.trans (bb.mono hHeld.size)) (fun hh => ?_)⟩
      have hHeld := hh (by decide)
      clear hK K hh
      try simp only [Act.put, List.getElem_toArray, List.getElem_cons_zero, List.getElem_cons_succ, List.setIfInBounds_toArray, List.set_cons_zero, List.set_cons_succ]
      have HS := Lib.hid hS
      have ra := RA.out.up bb RA.out.lt
      clear RA
      have RA := Lib.hid ra
      clear ra
      clear hS bb
      have H2 := Lib.hid hHeld.size
      refine Still.all (rs := [2]) (by kernel_rfl) (by simp) (Still.one (i := 2) rfl rfl (fun K hK => ?_) (by simp))
      refine wp_call 9 _ _ rfl entOf #[.agg #[vp7, vc7, vs7], .agg #[.int .i64 D.tick, .slice ca D.cells.length cc, .slice la D.lines.length lc], .int .i64 1] (by first | rfl | simp [Act.eval, Act.put]) ((HOF.out _ _ _ _ _ _ (HE6.out.up hHeld) HS.out (NB6.out.up hHeld)).mono ?_)
      rintro e Y3 ⟨oa, oc, ma, mc, rfl, hN, hNO, bb⟩
      have z8 := bb.size
      have HNO := Lib.hid hNO
      refine ⟨_, rfl, hK _ _ (fun _ => hHeld.trans (bb.mono hHeld.size)) (fun hh => ?_)⟩
      have hHeld := hh (by decide)
      clear hK K hh
      try simp only [Act.put, List.getElem_toArray, List.getElem_cons_zero, List.getElem_cons_succ, List.setIfInBounds_toArray, List.set_cons_zero, List.set_cons_succ]
      have hla := RA.out.lt
      have ra := RA.out.up bb RA.out.lt
      clear RA
      have RA := Lib.hid ra
      clear ra
      have HN := Lib.hid hN
      clear hN bb hNO
      refine Still.takeBy (i := 3) [] (v := ?v441) (by kernel_rfl) (by kernel_rfl) rfl (by kernel_rfl) (by kernel_rfl) (by kernel_rfl) (fun _ _ _ h => h) (Or.inl ⟨by rfl, ?y441⟩) hHeld ?r441
      case y441 => (intro w' hSw; (try dsimp only at hSw); go_simp; try with_reducible rfl)
      simp only [Act.put, List.getElem_toArray, List.getElem_cons_zero, List.getElem_cons_succ, List.setIfInBounds_toArray, List.set_cons_zero, List.set_cons_succ]
      refine Still.takeBy (i := 4) [] (v := ?v442) (by kernel_rfl) (by kernel_rfl) rfl (by kernel_rfl) (by kernel_rfl) (by kernel_rfl) (fun _ _ _ h => h) (Or.inl ⟨by rfl, ?y442⟩) hHeld ?r442
      case y442 => (intro w' hSw; (try dsimp only at hSw); go_simp; try with_reducible rfl)
      simp only [Act.put, List.getElem_toArray, List.getElem_cons_zero, List.getElem_cons_succ, List.setIfInBounds_toArray, List.set_cons_zero, List.set_cons_succ]
      refine Still.takeBy (i := 5) [] (v := ?v443) (by kernel_rfl) (by kernel_rfl) rfl (by kernel_rfl) (by kernel_rfl) (by kernel_rfl) (fun _ _ _ h => h) (Or.inl ⟨by rfl, ?y443⟩) hHeld ?r443
      case y443 => (intro w' hSw; (try dsimp only at hSw); go_simp; try with_reducible rfl)
      simp only [Act.put, List.getElem_toArray, List.getElem_cons_zero, List.getElem_cons_succ, List.setIfInBounds_toArray, List.set_cons_zero, List.set_cons_succ]
      have H3 := Lib.hid hHeld.size
      refine Still.all (rs := [7]) (by kernel_rfl) (by simp) (Still.one (i := 7) rfl rfl (fun K hK => ?_) (by simp))
      refine wp_store_row 37 _ _ rfl Y0.heap.size (vwC V.d.c (.slice oa 1 oc) (.slice ma 2 mc)) (by first | rfl | simp [Act.eval, Act.put]) (by first | rfl | simp [Act.eval, Act.put]) 37 (vwC celZ (.slice none 0 0) (.slice none 0 0)) RA.out sizeView rfl (vwC_one _ _ _ rfl rfl) ?_
      refine hK _ _ (fun _ => below_row hHeld (by omega) _) (fun hh => ?_)
      have hHeld := hh (by decide)
      clear hK K hh
      try simp only [Act.put, List.getElem_toArray, List.getElem_cons_zero, List.getElem_cons_succ, List.setIfInBounds_toArray, List.set_cons_zero, List.set_cons_succ]
      refine Still.all (rs := [8]) (by kernel_rfl) (by simp) (Still.one (i := 8) rfl rfl (fun K hK => ?_) (by simp))
      go_simp
      refine hK _ _ (fun h => absurd rfl h) (fun _ => ?_)
      clear hK K
      refine Still.over (by kernel_rfl) ?_ _
      go_wp2
      go_meet
      exact ⟨_, oa, oc, ma, mc, rfl, rfl, hHeld, RA.out.row _, HN.out.row _ (fun e => by have := HNO.out _ e; omega)⟩
  case rest =>
    obtain ⟨g3, oa, oc, ma, mc, rfl, rfl, HB7, RV, SV⟩ := hcut
    have HE7 := Lib.hid (HE6.out.up HB7.out)
    have HD7 := Lib.hid (HD6.out.trans (HB7.out.mono (by omega)))
    clear HB7 HE6 HD6 RB6 NB6 HOF
    go_wp2_with fail
    refine (relayV _).mono ?_
    rintro e r1 ⟨vp1, vc1, vs1, rfl, hS1, b1⟩
    have HS1 := Lib.hid hS1
    have HE8 := Lib.hid (HE7.out.up b1)
    have B1 := Lib.hid b1
    clear hS1 b1
    go_wp2_with fail
    refine (purge7 _ _ _ _ HE8.out HS1.out).mono ?_
    rintro e u1 ⟨pb, po, pcap, pa1, pl1, pc1, pa2, pl2, pc2, q0, y0, q2, y2, q3, y3, rfl, hpb, k0, k2, k3, b1⟩
    have hz1 := B1.out.size
    have BB1 := Lib.hid (B1.out.trans (b1.mono hz1))
    have HE9 := Lib.hid (HE8.out.up b1)
    have K0 := Lib.hid k0
    have K2 := Lib.hid k2
    have K3 := Lib.hid k3
    clear b1 B1 HS1 HE7 HE8 k0 k2 k3
    go_wp2_with (refine wpList_store_rowW rfl 26 (.tmp 5) (.tmp 25) rfl u1.heap.size #[.slice (some ⟨pb, po, none⟩) 4 pcap, .slice pa1 pl1 pc1, .slice pa2 pl2 pc2] rfl rfl 26 #[.slice none 0 0, .slice none 0 0, .slice none 0 0] (by repeat (first | exact Rw.new _ _ _ (by first | rfl | (simp; done) | omega | (simp; omega)) | refine Rw.alloc ?_ _)) sizeSys rfl (by simp [Value.oneCell']) ?_)
    intro U1 HU1
    have bU1 : Below u1.heap.size u1 U1 := by rw [HU1.out]; exact below_row ((Below.refl _ _).alloc (Nat.le_refl _) _) (Nat.le_refl _) _
    have R5 : Hid (Rw U1 u1.heap.size 26 #[.slice (some ⟨pb, po, none⟩) 4 pcap, .slice pa1 pl1 pc1, .slice pa2 pl2 pc2]) := by
      show Rw _ _ _ _
      rw [HU1.out]
      exact Rw.row (cs := #[.slice none 0 0, .slice none 0 0, .slice none 0 0]) (by repeat (first | exact Rw.new _ _ _ (by first | rfl | (simp; done) | omega | (simp; omega)) | refine Rw.alloc ?_ _)) _
    have zU1 := bU1.size
    have zb1 := BB1.out.size
    have BU1 := Lib.hid (BB1.out.trans (bU1.mono zb1))
    have HE10 := Lib.hid (HE9.out.up bU1)
    have KK0 := Lib.hid (bcl bU1 hpb K0.out)
    have KK2 := Lib.hid (bcl bU1 hpb K2.out)
    have KK3 := Lib.hid (bcl bU1 hpb K3.out)
    clear HU1 bU1 BB1 HE9 K0 K2 K3
    go_wp2_with fail
    refine (relayV _).mono ?_
    rintro e r2 ⟨vp2, vc2, vs2, rfl, hS2, b2⟩
    have HS2 := Lib.hid hS2
    have HE11 := Lib.hid (HE10.out.up b2)
    have B2 := Lib.hid b2
    clear hS2 b2 HE10
    go_wp2_with fail
    refine (other7 _ _ _ _ _ _ (HE11.out.up ((Below.refl _ _).alloc (Nat.le_refl _) _)) (HS2.out.up ((Below.refl _ _).alloc (Nat.le_refl _) _)) (litP _ 14 _ rfl)).mono ?_
    rintro e u2 ⟨qb, qo, qcap, qa1, ql1, qc1, qa2, ql2, qc2, cb, co, cz, rfl, hqb, hcb, m6, m14, b2⟩
    have b2' : Below r2.heap.size r2 u2 := ((Below.refl _ _).alloc (Nat.le_refl _) _).trans (b2.mono (by simp))
    have hz2 := B2.out.size
    have BB2 := Lib.hid (B2.out.trans (b2'.mono hz2))
    have HE12 := Lib.hid (HE11.out.up b2')
    have M6 := Lib.hid m6
    have M14 := Lib.hid m14
    clear b2 b2' B2 HS2 HE11 m6 m14
    go_wp2_with (refine wpList_store_rowW rfl 26 (.tmp 7) (.tmp 33) rfl u2.heap.size #[.slice (some ⟨qb, qo, none⟩) 4 qcap, .slice qa1 ql1 qc1, .slice qa2 ql2 qc2] rfl rfl 26 #[.slice none 0 0, .slice none 0 0, .slice none 0 0] (by repeat (first | exact Rw.new _ _ _ (by first | rfl | (simp; done) | omega | (simp; omega)) | refine Rw.alloc ?_ _)) sizeSys rfl (by simp [Value.oneCell']) ?_)
    intro U2 HU2
    have bU2 : Below u2.heap.size u2 U2 := by rw [HU2.out]; exact below_row ((Below.refl _ _).alloc (Nat.le_refl _) _) (Nat.le_refl _) _
    have R7 : Hid (Rw U2 u2.heap.size 26 #[.slice (some ⟨qb, qo, none⟩) 4 qcap, .slice qa1 ql1 qc1, .slice qa2 ql2 qc2]) := by
      show Rw _ _ _ _
      rw [HU2.out]
      exact Rw.row (cs := #[.slice none 0 0, .slice none 0 0, .slice none 0 0]) (by repeat (first | exact Rw.new _ _ _ (by first | rfl | (simp; done) | omega | (simp; omega)) | refine Rw.alloc ?_ _)) _
    have zb2 := BB2.out.size
    have BU2 := Lib.hid (BB2.out.trans (bU2.mono zb2))
    have HE13 := Lib.hid (HE12.out.up bU2)
    have MM6 := Lib.hid (bcl bU2 hqb M6.out)
    have MM14 := Lib.hid (bcl bU2 hcb M14.out)
    have zU2 := bU2.size
    clear HU2 bU2 BB2 HE12 M6 M14
    go_wp2_with fail
    refine (relayV _).mono ?_
    rintro e r3 ⟨vp3, vc3, vs3, rfl, hS3, b3⟩
    have HS3 := Lib.hid hS3
    have HE14 := Lib.hid (HE13.out.up b3)
    have B3 := Lib.hid b3
    clear hS3 b3 HE13
    go_wp2_with fail
    refine (other7b _ _ _ _ _ _ (HE14.out.up ((Below.refl _ _).alloc (Nat.le_refl _) _)) (HS3.out.up ((Below.refl _ _).alloc (Nat.le_refl _) _)) (litP _ 12 _ rfl)).mono ?_
    rintro e u3 ⟨ra0, rl0, rc0, ra1, rl1, rc1, ra2, rl2, rc2, rfl, b3⟩
    have b3' : Below r3.heap.size r3 u3 := ((Below.refl _ _).alloc (Nat.le_refl _) _).trans (b3.mono (by simp))
    have hz3 := B3.out.size
    have BB3 := Lib.hid (B3.out.trans (b3'.mono hz3))
    clear b3 b3' B3 HS3 HE14
    go_wp2_with (refine wpList_store_rowW rfl 26 (.tmp 9) (.tmp 41) rfl u3.heap.size #[.slice ra0 rl0 rc0, .slice ra1 rl1 rc1, .slice ra2 rl2 rc2] rfl rfl 26 #[.slice none 0 0, .slice none 0 0, .slice none 0 0] (by repeat (first | exact Rw.new _ _ _ (by first | rfl | (simp; done) | omega | (simp; omega)) | refine Rw.alloc ?_ _)) sizeSys rfl (by simp [Value.oneCell']) ?_)
    intro U3 HU3
    have bU3 : Below u3.heap.size u3 U3 := by rw [HU3.out]; exact below_row ((Below.refl _ _).alloc (Nat.le_refl _) _) (Nat.le_refl _) _
    have zb3 := BB3.out.size
    have BU3 := Lib.hid (BB3.out.trans (bU3.mono zb3))
    have hr3 := RV.out.lt
    have hr5 := R5.out.lt
    have hr7 := R7.out.lt
    have ALL := Lib.hid (BU2.out.trans (BU3.out.mono BU2.out.size))
    have ALL1 := Lib.hid (BU1.out.trans (ALL.out.mono BU1.out.size))
    have RVf := Lib.hid (RV.out.up ALL1.out hr3)
    have R5f := Lib.hid (R5.out.up ALL.out hr5)
    have R7f := Lib.hid (R7.out.up BU3.out hr7)
    have SVf := Lib.hid (SV.out.up ALL1.out)
    have HDf := Lib.hid (HD7.out.trans (ALL1.out.mono HD7.out.size))
    have G0 := Lib.hid (bcl ALL.out (by omega) KK0.out)
    have G2 := Lib.hid (bcl ALL.out (by omega) KK2.out)
    have G3 := Lib.hid (bcl ALL.out (by omega) KK3.out)
    have G6 := Lib.hid (bcl BU3.out (by omega) MM6.out)
    have G14 := Lib.hid (bcl BU3.out (by omega) MM14.out)
    have v16 := RVf.out.cell (j := 16) (v := .slice ma 2 mc) rfl
    have v14 := RVf.out.cell (j := 14) (v := .slice oa 1 oc) rfl
    have zA := ALL.out.size
    have zC := BU3.out.size
    clear HU3 bU3 BB3 BU1 BU2 BU3 ALL ALL1 RV R5 R7 SV HD7 KK0 KK2 KK3 MM6 MM14
    go_wp2_with fail
    refine (sameInts_any [6] [6] _ _ _ (SVf.out.up ((Below.refl _ _).alloc (Nat.le_refl _) _)) (sl_one_at _ 6 _ 1 _ rfl (by omega)) (by decide) true (by simp)).mono ?_
    rintro e f1 ⟨rfl, b9⟩
    have b9' : Below U3.heap.size U3 f1 := ((Below.refl _ _).alloc (Nat.le_refl _) _).trans (b9.mono (by simp))
    have g50 := (R5f.out.up b9' R5f.out.lt).cell (j := 0) (v := .slice (some ⟨pb, po, none⟩) 4 pcap) rfl
    have g70 := (R7f.out.up b9' R7f.out.lt).cell (j := 0) (v := .slice (some ⟨qb, qo, none⟩) 4 qcap) rfl
    have g0 := bcl b9' (by omega) G0.out
    have g2 := bcl b9' (by omega) G2.out
    have gg3 := bcl b9' (by omega) G3.out
    have g6 := bcl b9' (by omega) G6.out
    have g14 := bcl b9' (by omega) G14.out
    have HDz := Lib.hid (HDf.out.trans (b9'.mono HDf.out.size))
    clear b9 b9' v16 v14 G0 G2 G3 G6 G14 RVf R5f R7f SVf HDf
    go_wp2
    go_ret
    exact ⟨rfl, HDz.out⟩
end Go.Proofs.YtehhhiodfcdnmaaGreatDoor

namespace Go.Proofs.YtehhhiodfcdnmaaGreatDoor
set_option linter.unusedSimpArgs false
set_option linter.unusedVariables false
open Go.RowKit Go.Sort
theorem loadRowG {P : Program} {ops : Array Oper} {rest : List Oper} {o : Oper} {a : Act} {w : World} {Q : Exit → Act → World → Prop} (hgd : Region.wanted o (yielded ops a.tmps) = true) (ty : TypeId) (x : Operand) (ho : o.op = .load ty x)
    (g : Nat) (hx : a.eval x = .pointer (some ⟨g, 0, none⟩)) (t : TypeId) (cs : Array Value) (fr : Nat × Nat) (d : TypeDesc) (hg : w.heap[g]? = some (.cells cs t fr))
    (hu : P.underlying ty = some d) (hd : (match d with | .struct _ | .array _ _ => true | _ => false) = true) (hi : (P.info? ty).map (·.size) = some cs.size)
    (h : wpList P ops Q rest (a.put o.dst (.agg cs)) w) : wpList P ops Q (o :: rest) a w :=
  BigFrame.wpList_want hgd fun _ hK => wp_load_row ty x ho g hx t cs fr d hg hu hd hi (hK _ _ h)
structure SmallV (V : ViwD) : Prop where
  o : V.d.out.length ≤ 1000
  l : V.ls.length ≤ 1000
  n : ∀ k (h : k < V.ls.length), V.ls[k].length ≤ 1000
theorem viewL_mem {p : Int} {x : List Int} : ∀ {cs : List Chn} {ls : List (List Int)}, x ∈ viewL cs ls p → x ∈ ls
  | [], _, h => by simp [viewL] at h
  | _ :: _, [], h => by simp [viewL] at h
  | c :: cs, l :: ls, h => by
    simp only [viewL] at h
    split at h
    · rcases List.mem_cons.1 h with rfl | h
      · simp
      · exact List.mem_cons_of_mem _ (viewL_mem h)
    · exact List.mem_cons_of_mem _ (viewL_mem h)
theorem small_view (S : SysD) (D : WldD) (part : Int) : SmallV (viewR S D part) := by
  unfold viewR
  split
  · rename_i h
    have hc : chkW S D = 0 := by
      unfold viewE at h
      split at h
      · rename_i h1; exact absurd h h1
      · rename_i h1; simpa using h1
    obtain ⟨hs, hR⟩ := chkW_zero hc
    have hw := small_right hs hR
    refine ⟨?_, ?_, fun k hk => ?_⟩
    · simp only []
      rw [List.getD_eq_getElem?_getD]
      cases e : D.cells[part.toNat]? with
      | none => simp
      | some d =>
        obtain ⟨hl, rfl⟩ := List.getElem?_eq_some_iff.1 e
        exact hw.o _ hl
    · have := viewL_len part S.chans D.lines
      have := (countsS hs).2
      simp only []
      omega
    · have hm := viewL_mem (List.getElem_mem hk)
      obtain ⟨j, hj, e⟩ := List.getElem_of_mem hm
      rw [← e]
      exact hw.n j hj
  · exact ⟨by decide, by decide, fun k hk => by simp [viwZ] at hk⟩
end Go.Proofs.YtehhhiodfcdnmaaGreatDoor

namespace Go.Proofs.YtehhhiodfcdnmaaGreatDoor
set_option linter.unusedSimpArgs false
set_option linter.unusedVariables false
open Go.RowKit Go.Sort
theorem filter_le {α : Type} (p q : α → Bool) : ∀ (l : List α), (∀ x ∈ l, p x = true → q x = true) → (l.filter p).length ≤ (l.filter q).length
  | [], _ => Nat.le_refl _
  | x :: l, h => by
    have ih := filter_le p q l (fun y hy => h y (by simp [hy]))
    cases hp : p x with
    | false =>
      rw [List.filter_cons_of_neg (by simp [hp])]
      cases hq : q x with
      | false => rw [List.filter_cons_of_neg (by simp [hq])]; exact ih
      | true => rw [List.filter_cons_of_pos hq]; simp; omega
    | true =>
      rw [List.filter_cons_of_pos hp, List.filter_cons_of_pos (h x (by simp) hp)]
      simp; omega
theorem filter_lt {α : Type} (p q : α → Bool) : ∀ (l : List α), (∀ x ∈ l, p x = true → q x = true) → (∃ x ∈ l, p x = false ∧ q x = true) → (l.filter p).length < (l.filter q).length
  | [], _, he => by obtain ⟨x, hx, _⟩ := he; cases hx
  | x :: l, h, he => by
    have hle := filter_le p q l (fun y hy => h y (by simp [hy]))
    obtain ⟨y, hy, h1, h2⟩ := he
    rcases List.mem_cons.1 hy with rfl | hy
    · rw [List.filter_cons_of_neg (by simp [h1]), List.filter_cons_of_pos h2]
      simp; omega
    · have ih := filter_lt p q l (fun z hz => h z (by simp [hz])) ⟨y, hy, h1, h2⟩
      cases hp : p x with
      | false =>
        rw [List.filter_cons_of_neg (by simp [hp])]
        cases hq : q x with
        | false => rw [List.filter_cons_of_neg (by simp [hq])]; exact ih
        | true => rw [List.filter_cons_of_pos hq]; simp; omega
      | true =>
        rw [List.filter_cons_of_pos hp, List.filter_cons_of_pos (h x (by simp) hp)]
        simp; omega
theorem reachN_stay {S : SysD} {b : Int} {m : Nat} (h : ∀ a : Nat, a < S.parts.length → reachN S m a b = reachN S (m + 1) a b) : ∀ a : Nat, a < S.parts.length → reachN S (m + 1) a b = reachN S (m + 2) a b := fun a _ => by
  rw [reachN, reachN]
  congr 1
  rw [Bool.eq_iff_iff, List.any_eq_true, List.any_eq_true]
  constructor
  · rintro ⟨c, hc, h1⟩
    exact ⟨c, hc, by rw [← h c (by simpa using hc)]; exact h1⟩
  · rintro ⟨c, hc, h1⟩
    exact ⟨c, hc, by rw [h c (by simpa using hc)]; exact h1⟩
theorem reachN_stays {S : SysD} {b : Int} {m : Nat} (h : ∀ a : Nat, a < S.parts.length → reachN S m a b = reachN S (m + 1) a b) : ∀ j, ∀ a : Nat, a < S.parts.length → reachN S (m + j) a b = reachN S (m + j + 1) a b
  | 0 => h
  | j + 1 => reachN_stay (reachN_stays h j)
def cntR (S : SysD) (b : Int) (m : Nat) : Nat := ((List.range S.parts.length).filter fun a : Nat => reachN S m a b).length
theorem cnt_grow {S : SysD} {b : Int} {n : Nat} (h : ∀ m, m ≤ n → ∃ a : Nat, a < S.parts.length ∧ reachN S m a b ≠ reachN S (m + 1) a b) : ∀ m, m ≤ n + 1 → m ≤ cntR S b m
  | 0, _ => Nat.zero_le _
  | m + 1, hm => by
    have ih := cnt_grow h m (by omega)
    obtain ⟨a, ha, hne⟩ := h m (by omega)
    have hmono : ∀ x ∈ List.range S.parts.length, reachN S m (x : Nat) b = true → reachN S (m + 1) (x : Nat) b = true := fun x hx h1 => reachN_mono (by have := List.mem_range.1 hx; omega) (Nat.le_succ m) h1
    have hlt := filter_lt (fun a : Nat => reachN S m a b) (fun a : Nat => reachN S (m + 1) a b) (List.range S.parts.length) hmono ⟨a, List.mem_range.2 ha, by
      cases h1 : reachN S m a b with
      | false =>
        refine ⟨rfl, ?_⟩
        cases h2 : reachN S (m + 1) a b with
        | false => rw [h1, h2] at hne; exact absurd rfl hne
        | true => rfl
      | true =>
        have := hmono a (List.mem_range.2 ha) h1
        rw [h1, this] at hne
        exact absurd rfl hne⟩
    unfold cntR at ih ⊢
    omega
theorem reach_closed {S : SysD} {b : Int} {a : Nat} (ha : a < S.parts.length) (h : reachN S (S.parts.length + 1) a b = true) : reachB S a b = true := by
  unfold reachB
  cases h0 : reachN S S.parts.length a b with
  | true => rfl
  | false =>
    have hall : ∀ m, m ≤ S.parts.length → ∃ a : Nat, a < S.parts.length ∧ reachN S m a b ≠ reachN S (m + 1) a b := fun m hm => by
      by_cases hc : ∃ a : Nat, a < S.parts.length ∧ reachN S m a b ≠ reachN S (m + 1) a b
      · exact hc
      · have hs : ∀ a : Nat, a < S.parts.length → reachN S m a b = reachN S (m + 1) a b := fun a ha => by
          cases h1 : decide (reachN S m a b = reachN S (m + 1) a b) with
          | true => exact of_decide_eq_true h1
          | false => exact absurd ⟨a, ha, of_decide_eq_false h1⟩ hc
        have := reachN_stays hs (S.parts.length - m) a ha
        rw [show m + (S.parts.length - m) = S.parts.length by omega, h0, h] at this
        cases this
    have h1 := cnt_grow hall (S.parts.length + 1) (Nat.le_refl _)
    have h2 : cntR S b (S.parts.length + 1) ≤ S.parts.length := by
      unfold cntR
      have := List.length_filter_le (fun a : Nat => reachN S (S.parts.length + 1) a b) (List.range S.parts.length)
      simpa using this
    omega
theorem reach_lead {S : SysD} {u : Int} {a c : Nat} (ha : a < S.parts.length) (hc : c < S.parts.length) (hl : leadsB S a c = true) (h : reachB S c u = true) : reachB S a u = true :=
  reach_closed ha (reachN_yes hc hl h)
theorem reach_me (S : SysD) (u : Int) : reachB S u u = true := reachN_eq S u _
theorem step_homeK {S : SysD} (h : chkS S = 0) {p : Nat} (hp : p < S.parts.length) {inn xs : List Int} {c : Cel} : (stepC S.parts[p].code inn xs c).2.2 = wntZ ∨ ∃ ch, S.chans[(stepC S.parts[p].code inn xs c).2.2.ch.toNat]? = some ch ∧ (((stepC S.parts[p].code inn xs c).2.2.k = 12 ∧ ch.fr = p) ∨ ((stepC S.parts[p].code inn xs c).2.2.k = 13 ∧ ch.tt = p)) := by
  obtain ⟨-, hc, -, -, hn⟩ := chkS_zero h
  have hcode := hc p hp
  have hnb := names_at (l := S.chans) (k := 0) hn p hp
  unfold nameBad at hnb
  rw [Bool.or_eq_false_iff, List.any_eq_false, List.any_eq_false] at hnb
  have hfe : firstE S.parts[p].code = 0 := by
    unfold chkC at hcode
    split at hcode
    · omega
    · exact hcode
  unfold stepC
  split
  · unfold runC
    split
    · exact .inl rfl
    · rename_i i hi
      have hlt : c.at_.toNat < S.parts[p].code.length := (List.getElem?_eq_some_iff.1 hi).1
      have hmem : i ∈ S.parts[p].code := List.mem_of_getElem? hi
      have hck : i.chk = 0 := by
        have := firstE_zero hfe _ hlt
        rw [(List.getElem?_eq_some_iff.1 hi).2] at this
        exact this
      obtain ⟨hop, ⟨ha0, ha1⟩, ⟨hb0, hb1⟩, hj, hch⟩ := chk0 (op := i.op) (a := i.a) (b := i.b) (n := i.n) hck
      cases hd : doC i inn xs c wntZ with
      | none => exact .inl rfl
      | some r =>
        obtain ⟨c', ys, x'⟩ := r
        rcases doC_want hd with e | ⟨ho, e⟩ | ⟨ho, e⟩
        · exact .inl e
        · right
          have hn5 := hch (.inl ho)
          have hb := hnb.1 _ (chan_named hmem ho hn5.1 hn5.2)
          subst e
          simp only [Option.getD_some]
          unfold putBad at hb
          split at hb
          · simp at hb
          · rename_i y hy
            exact ⟨y, hy, .inl ⟨trivial, by simpa using hb⟩⟩
        · right
          have hn5 := hch (.inr ho)
          have hb := hnb.2 _ (chan_named hmem ho hn5.1 hn5.2)
          subst e
          simp only [Option.getD_some]
          unfold getBad at hb
          split at hb
          · simp at hb
          · rename_i y hy
            exact ⟨y, hy, .inr ⟨trivial, by simpa using hb⟩⟩
  · exact .inl rfl
structure Alike (S S' : SysD) (u : Int) : Prop where
  k : chkS S = 0
  k' : chkS S' = 0
  c : S'.chans = S.chans
  s : S'.slots = S.slots
  n : S'.parts.length = S.parts.length
  p : ∀ (j : Nat), reachB S j u = true → S'.parts[j]? = S.parts[j]?
structure Agree (S : SysD) (u : Int) (D D' : WldD) : Prop where
  t : D'.tick = D.tick
  c : ∀ (j : Nat), reachB S j u = true → D'.cells[j]? = D.cells[j]?
  l : ∀ (k : Nat) (h : k < S.chans.length), (reachB S S.chans[k].fr u = true ∨ reachB S S.chans[k].tt u = true) → D'.lines[k]? = D.lines[k]?
theorem alike_begin {S S' : SysD} {u : Int} (h : Alike S S' u) : Agree S u (beginC S) (beginC S') := by
  refine ⟨rfl, fun j _ => ?_, fun k _ _ => ?_⟩
  · unfold beginC; rw [h.n]
  · unfold beginC; rw [h.c]
theorem who_alike {S S' : SysD} {u : Int} (h : Alike S S' u) (t : Int) : whoS S' t = whoS S t := by
  unfold whoS
  rw [h.s]
theorem far_tick {S T : SysD} {u : Int} {D : WldD} (hT : chkS T = 0) (hc : T.chans = S.chans) (hn : T.parts.length = S.parts.length) (hR : Right T D) (ht : D.tick < 300) (pn : Nat) (hw : whoS T D.tick = pn) (hne : reachB S pn u = false) :
    (∀ (j : Nat), reachB S j u = true → (nextC T D).cells[j]? = D.cells[j]?) ∧ ∀ (k : Nat) (h : k < S.chans.length), (reachB S S.chans[k].fr u = true ∨ reachB S S.chans[k].tt u = true) → (nextC T D).lines[k]? = D.lines[k]? := by
  obtain ⟨hf4, hf1, hf6, hE⟩ := chk_flow hT
  have hlc := cellsB_len hR.c
  have hll := linesB_len hR.l
  obtain ⟨hw0, hw1⟩ := who_range hT hR.t0
  have hp : pn < T.parts.length := by omega
  have hpd : pn < D.cells.length := by omega
  have e1 : T.parts[(whoS T D.tick).toNat]? = some T.parts[pn] := by rw [hw]; simp [hp]
  have e2 : D.cells[(whoS T D.tick).toNat]? = some D.cells[pn] := by rw [hw]; simp [hpd]
  have hh := step_homeK hT hp (inn := T.parts[pn].inn) (xs := D.cells[pn].out) (c := D.cells[pn].c)
  unfold nextC
  rw [e1, e2]
  simp only []
  have hset : ∀ (d : CelD) (j : Nat), reachB S j u = true → (D.cells.set (whoS T D.tick).toNat d)[j]? = D.cells[j]? := fun d j hj => by
    rw [hw, List.getElem?_set_ne]
    intro e
    have e' : pn = j := by simpa using e
    subst e'
    rw [hne] at hj
    cases hj
  generalize stepC T.parts[pn].code T.parts[pn].inn D.cells[pn].out D.cells[pn].c = r at hh
  obtain ⟨c', ys, x⟩ := r
  simp only at hh ⊢
  split
  · exact ⟨fun j hj => hset _ j hj, fun k _ _ => rfl⟩
  · rename_i hx
    rcases hh with e | ⟨ch, hch, hkind⟩
    · rw [e] at hx; exact absurd rfl hx
    · rw [hch]
      have hkl : x.ch.toNat < T.chans.length := (List.getElem?_eq_some_iff.1 hch).1
      have hkd : x.ch.toNat < D.lines.length := by omega
      have e4 : D.lines[x.ch.toNat]? = some D.lines[x.ch.toNat] := by simp [hkd]
      rw [e4]
      refine ⟨fun j hj => hset _ j hj, fun k hk hrel => ?_⟩
      simp only []
      by_cases hkk : x.ch.toNat = k
      · subst hkk
        have hchS : S.chans[x.ch.toNat] = ch := by
          rw [hc] at hch
          exact (List.getElem?_eq_some_iff.1 hch).2
        rw [hchS] at hrel
        have hmem : ch ∈ T.chans := List.mem_of_getElem? hch
        obtain ⟨f0, f1, g0, g1⟩ := hE ch hmem
        have hlead : ∀ a b : Nat, leadB a b ch = true → leadsB S a b = true := fun a b h => List.any_eq_true.2 ⟨ch, by rw [← hc]; exact hmem, h⟩
        rcases hkind with ⟨hk12, hfr⟩ | ⟨hk13, htt⟩
        · exfalso
          rw [hfr] at hrel
          rcases hrel with h1 | h1
          · rw [hne] at h1; cases h1
          · obtain ⟨tn, htn⟩ : ∃ tn : Nat, ch.tt = tn := ⟨ch.tt.toNat, by omega⟩
            rw [htn] at h1
            have := reach_lead (a := pn) (c := tn) (by omega) (by omega) (hlead pn tn (by unfold leadB; simp [hfr, htn])) h1
            rw [hne] at this; cases this
        · rw [htt] at hrel
          rcases hrel with h1 | h1
          · obtain ⟨fn, hfn⟩ : ∃ fn : Nat, ch.fr = fn := ⟨ch.fr.toNat, by omega⟩
            rw [hfn] at h1
            have hck := linesB_at hR.l _ hkl hkd
            have hchT : T.chans[x.ch.toNat] = ch := (List.getElem?_eq_some_iff.1 hch).2
            rw [hchT] at hck
            have hk1 : ch.kd = 1 := by
              rcases chkL_zero hck with ⟨h2, _⟩ | ⟨h2, _⟩
              · exact h2
              · exfalso
                have := reach_lead (a := pn) (c := fn) (by omega) (by omega) (hlead pn fn (by unfold leadB; simp [h2, htt, hfn])) h1
                rw [hne] at this; cases this
            have hsame : (servR ch.kd D.lines[x.ch.toNat] x).1 = D.lines[x.ch.toNat] := by
              unfold servR
              rw [if_neg (by rw [hk13]; decide)]
              unfold getR
              rw [if_pos hck]
              cases hl : D.lines[x.ch.toNat] with
              | nil => rfl
              | cons y r => simp [hk1]
            rw [hsame, List.getElem?_set_self hkd, e4]
          · rw [hne] at h1; cases h1
      · rw [List.getElem?_set_ne hkk]
theorem agree_next {S S' : SysD} {u : Int} {D D' : WldD} (h : Alike S S' u) (hR : Right S D) (hR' : Right S' D') (ht : D.tick < 300) (hA : Agree S u D D') : Agree S u (nextC S D) (nextC S' D') := by
  have ht' : D'.tick < 300 := by rw [hA.t]; exact ht
  have n1 := (next_right h.k hR ht).2
  have n2 := (next_right h.k' hR' ht').2
  obtain ⟨hw0, hw1⟩ := who_range h.k hR.t0
  obtain ⟨pn, hpn⟩ := Int.eq_ofNat_of_zero_le hw0
  have hw' : whoS S' D'.tick = pn := by rw [who_alike h, hA.t, hpn]
  have hlc := cellsB_len hR.c
  have hll := linesB_len hR.l
  have hlc' := cellsB_len hR'.c
  have hll' := linesB_len hR'.l
  have hn := h.n
  have hcl : S'.chans.length = S.chans.length := by rw [h.c]
  cases hr : reachB S pn u with
  | false =>
    obtain ⟨a1, a2⟩ := far_tick (S := S) (u := u) h.k rfl rfl hR ht pn hpn hr
    obtain ⟨b1, b2⟩ := far_tick (S := S) (u := u) h.k' h.c h.n hR' ht' pn hw' hr
    exact ⟨by rw [n1, n2, hA.t], fun j hj => by rw [a1 j hj, b1 j hj, hA.c j hj], fun k hk hrel => by rw [a2 k hk hrel, b2 k hk hrel, hA.l k hk hrel]⟩
  | true =>
    have hp : pn < S.parts.length := by omega
    have hpd : pn < D.cells.length := by omega
    have hpd' : pn < D'.cells.length := by omega
    have e1 : S.parts[(whoS S D.tick).toNat]? = some S.parts[pn] := by rw [hpn]; simp [hp]
    have e2 : D.cells[(whoS S D.tick).toNat]? = some D.cells[pn] := by rw [hpn]; simp [hpd]
    have e1' : S'.parts[(whoS S' D'.tick).toNat]? = some S.parts[pn] := by rw [hw']; simp only [Int.toNat_natCast]; rw [h.p pn hr]; simp [hp]
    have e2' : D'.cells[(whoS S' D'.tick).toNat]? = some D.cells[pn] := by rw [hw']; simp only [Int.toNat_natCast]; rw [hA.c pn hr]; simp [hpd]
    have hh := step_homeK h.k hp (inn := S.parts[pn].inn) (xs := D.cells[pn].out) (c := D.cells[pn].c)
    have hset : ∀ (d : CelD) (j : Nat), reachB S j u = true → (D'.cells.set (whoS S' D'.tick).toNat d)[j]? = (D.cells.set (whoS S D.tick).toNat d)[j]? := fun d j hj => by
      rw [hw', hpn]
      simp only [Int.toNat_natCast]
      by_cases e : pn = j
      · subst e
        rw [List.getElem?_set_self hpd, List.getElem?_set_self hpd']
      · rw [List.getElem?_set_ne e, List.getElem?_set_ne e, hA.c j hj]
    refine ⟨by rw [n1, n2, hA.t], ?_, ?_⟩
    · intro j hj
      unfold nextC
      rw [e1, e2, e1', e2']
      simp only []
      generalize stepC S.parts[pn].code S.parts[pn].inn D.cells[pn].out D.cells[pn].c = r at hh
      obtain ⟨c', ys, x⟩ := r
      simp only at hh ⊢
      split
      · exact hset _ j hj
      · rename_i hx
        rcases hh with e | ⟨ch, hch, hkind⟩
        · rw [e] at hx; exact absurd rfl hx
        · have hkl : x.ch.toNat < S.chans.length := (List.getElem?_eq_some_iff.1 hch).1
          have hchS : S.chans[x.ch.toNat] = ch := (List.getElem?_eq_some_iff.1 hch).2
          have hrel : reachB S S.chans[x.ch.toNat].fr u = true ∨ reachB S S.chans[x.ch.toNat].tt u = true := by
            rw [hchS]
            rcases hkind with ⟨_, e⟩ | ⟨_, e⟩
            · exact .inl (by rw [e]; exact hr)
            · exact .inr (by rw [e]; exact hr)
          have hkd : x.ch.toNat < D.lines.length := by omega
          have e4 : D.lines[x.ch.toNat]? = some D.lines[x.ch.toNat] := by simp [hkd]
          rw [h.c, hch, hA.l _ hkl hrel, e4]
          exact hset _ j hj
    · intro k hk hrel0
      unfold nextC
      rw [e1, e2, e1', e2']
      simp only []
      generalize stepC S.parts[pn].code S.parts[pn].inn D.cells[pn].out D.cells[pn].c = r at hh
      obtain ⟨c', ys, x⟩ := r
      simp only at hh ⊢
      split
      · exact hA.l k hk hrel0
      · rename_i hx
        rcases hh with e | ⟨ch, hch, hkind⟩
        · rw [e] at hx; exact absurd rfl hx
        · have hkl : x.ch.toNat < S.chans.length := (List.getElem?_eq_some_iff.1 hch).1
          have hchS : S.chans[x.ch.toNat] = ch := (List.getElem?_eq_some_iff.1 hch).2
          have hrel : reachB S S.chans[x.ch.toNat].fr u = true ∨ reachB S S.chans[x.ch.toNat].tt u = true := by
            rw [hchS]
            rcases hkind with ⟨_, e⟩ | ⟨_, e⟩
            · exact .inl (by rw [e]; exact hr)
            · exact .inr (by rw [e]; exact hr)
          have hkd : x.ch.toNat < D.lines.length := by omega
          have hkd' : x.ch.toNat < D'.lines.length := by omega
          have e4 : D.lines[x.ch.toNat]? = some D.lines[x.ch.toNat] := by simp [hkd]
          rw [h.c, hch, hA.l _ hkl hrel, e4]
          simp only []
          by_cases hkk : x.ch.toNat = k
          · subst hkk
            rw [List.getElem?_set_self hkd, List.getElem?_set_self hkd']
          · rw [List.getElem?_set_ne hkk, List.getElem?_set_ne hkk, hA.l k hk hrel0]
theorem agree_run {S S' : SysD} {u : Int} (h : Alike S S' u) : ∀ (n : Nat) {D D' : WldD}, Right S D → Right S' D' → D.tick + n ≤ 300 → Agree S u D D' → Agree S u (runN S n D) (runN S' n D')
  | 0, _, _, _, _, _, hA => hA
  | n + 1, D, D', hR, hR', ht, hA => by
    have h1 := next_right h.k hR (by omega)
    have h2 := next_right h.k' hR' (by rw [hA.t]; omega)
    exact agree_run h n h1.1 h2.1 (by rw [h1.2]; omega) (agree_next h hR hR' (by omega) hA)
theorem viewL_same {u : Int} : ∀ (cs : List Chn) (ls ls' : List (List Int)), ls.length = cs.length → ls'.length = cs.length → (∀ (k : Nat) (h : k < cs.length), (cs[k].fr = u ∨ cs[k].tt = u) → ls'[k]? = ls[k]?) → viewL cs ls' u = viewL cs ls u
  | [], [], [], _, _, _ => rfl
  | c :: cs, l :: ls, l' :: ls', h1, h2, h => by
    have ih := viewL_same cs ls ls' (by simpa using h1) (by simpa using h2) (fun k hk hu => by
      have := h (k + 1) (by simp; omega) (by simpa using hu)
      simpa using this)
    simp only [viewL]
    split
    · rename_i hc
      have := h 0 (by simp) (by simpa using hc)
      simp at this
      rw [this, ih]
    · exact ih
theorem view_same {S S' : SysD} {u : Nat} (h : Alike S S' u) (hu : u < S.parts.length) (n : Int) (h0 : 0 ≤ n) (h1 : n ≤ 300) : runE S n = 0 ∧ runE S' n = 0 ∧ viewE S (runR S n) u = 0 ∧ viewE S' (runR S' n) u = 0 ∧ viewR S' (runR S' n) u = viewR S (runR S n) u := by
  have r1 := runE_right h.k h0 h1
  have r2 := runE_right h.k' h0 h1
  have d1 : runR S n = runN S n.toNat (beginC S) := by unfold runR; rw [if_pos r1]
  have d2 : runR S' n = runN S' n.toNat (beginC S') := by unfold runR; rw [if_pos r2]
  have b1 := begin_right h.k
  have b2 := begin_right h.k'
  have g1 := runN_right h.k n.toNat b1 (by show (0 : Int) + (n.toNat : Int) ≤ 300; omega)
  have g2 := runN_right h.k' n.toNat b2 (by show (0 : Int) + (n.toNat : Int) ≤ 300; omega)
  have hA := agree_run h n.toNat b1 b2 (by show (0 : Int) + (n.toNat : Int) ≤ 300; omega) (alike_begin h)
  have c1 := chkW_right h.k g1.1
  have c2 := chkW_right h.k' g2.1
  have hn := h.n
  have v1 : viewE S (runR S n) u = 0 := by unfold viewE; rw [d1, if_neg (by rw [c1]; simp), if_pos (by simp [isPB]; omega)]
  have v2 : viewE S' (runR S' n) u = 0 := by unfold viewE; rw [d2, if_neg (by rw [c2]; simp), if_pos (by simp [isPB]; omega)]
  refine ⟨r1, r2, v1, v2, ?_⟩
  unfold viewR
  rw [if_pos v1, if_pos v2, d1, d2, h.c]
  have hlc := cellsB_len g1.1.c
  have hll := linesB_len g1.1.l
  have hll' := linesB_len g2.1.l
  congr 1
  · have := hA.c u (reach_me S u)
    rw [List.getD_eq_getElem?_getD, List.getD_eq_getElem?_getD]
    simp only [Int.toNat_natCast]
    rw [this]
  · refine viewL_same _ _ _ hll (by rw [hll', h.c]) (fun k hk hu => hA.l k hk ?_)
    rcases hu with e | e
    · exact .inl (by rw [e]; exact reach_me S u)
    · exact .inr (by rw [e]; exact reach_me S u)
end Go.Proofs.YtehhhiodfcdnmaaGreatDoor

namespace Go.Proofs.YtehhhiodfcdnmaaGreatDoor
set_option linter.unusedSimpArgs false
set_option linter.unusedVariables false
open Go.RowKit Go.Sort
set_option maxHeartbeats 1000000 in
theorem chooseV_any (c : Int) (hc : in64 c) (n : Nat) (h1 : 1 ≤ n) (h2 : n ≤ 1048576) (w : World) : Calls Tryz.prog 22 #[.int .i64 c, .int .i64 (n : Int)] w fun e w' => ∃ m : Nat, e = .returned (.int .i64 (m : Int)) ∧ m < n ∧ w' = w := by
  have hn0 : ((n : Int) == 0) = false := by simp; omega
  obtain ⟨ha, hb⟩ := hc
  by_cases h : c < 0
  · have hr := Int.emod_nonneg (-(c + 1)) (show (n : Int) ≠ 0 by omega)
    have hs := Int.emod_lt_of_pos (-(c + 1)) (show (0 : Int) < n by omega)
    obtain ⟨m, hm⟩ := Int.eq_ofNat_of_zero_le hr
    have HM := Lib.hid hm
    clear hm hr
    go_enter Tryz.func22, Tryz.ntmps22
    go_wp2
    go_ret
    exact ⟨m, ret_int (show -((c + 1).tmod (n : Int)) = (m : Int) by rw [← Int.neg_tmod, Int.tmod_eq_emod_of_nonneg (by omega)]; exact HM.out), by have := HM.out; omega, rfl⟩
  · have hr := Int.emod_nonneg c (show (n : Int) ≠ 0 by omega)
    have hs := Int.emod_lt_of_pos c (show (0 : Int) < n by omega)
    obtain ⟨m, hm⟩ := Int.eq_ofNat_of_zero_le hr
    have HM := Lib.hid hm
    have h0 : 0 ≤ c := by omega
    clear hm hr
    go_enter Tryz.func22, Tryz.ntmps22
    go_wp2
    go_ret
    exact ⟨m, ret_int (by first | exact HM.out | (rw [← HM.out]; rfl) | (rw [← HM.out]; exact Int.tmod_eq_emod_of_nonneg (by omega))), by have := HM.out; omega, rfl⟩
set_option maxRecDepth 100000 in
set_option maxHeartbeats 4000000 in
theorem seen_any (S : SysD) (u : Nat) (n : Int) (D : WldD) (hk : runE S n = 0) (hD : runR S n = D) (hv : viewE S D u = 0) (V : ViwD) (hV : viewR S D u = V) (vp vc vs : Value) (w : World) (he : Env w) (hS : Sys w vp vc vs S) :
    Calls Tryz.prog 20 #[.agg #[vp, vc, vs], .int .i64 (u : Int), .int .i64 n] w fun e w' => ∃ o vl, e = .returned (.tuple #[.agg (vwC V.d.c o vl), .bool true]) ∧ VwR w.heap.size w' o vl V ∧ Below w.heap.size w w' := by
  obtain ⟨pa, pc, rfl⟩ := hS.p.form
  obtain ⟨ka, kc, rfl⟩ := hS.c.form
  obtain ⟨sa, sc, rfl⟩ := hS.s.form
  have HRUN := Lib.hid fun w he hS => kernRun_any S n (.slice pa S.parts.length pc) (.slice ka S.chans.length kc) (.slice sa S.slots.length sc) w he hS 0 hk D hD
  have HOF := Lib.hid fun uc ul w he hS hW => viewOf_any S D u (.slice pa S.parts.length pc) (.slice ka S.chans.length kc) (.slice sa S.slots.length sc) uc ul w he hS hW 0 hv V hV
  have HE := Lib.hid he
  have HS := Lib.hid hS
  clear he hS hk hD hv hV
  go_enter Tryz.func20, Tryz.ntmps20
  go_upto_region 1 with fail
  generalize hX : World.alloc _ _ = X
  have hXX : X = (w.alloc (.cells #[.slice pa S.parts.length pc, .slice ka S.chans.length kc, .slice sa S.slots.length sc] 26)).alloc (.cells (vwC celZ (.slice none 0 0) (.slice none 0 0)) 37) := by rw [← hX]; rfl
  have hzX : X.heap.size = w.heap.size + 2 := by rw [hXX]; simp
  have d0 : Below w.heap.size w X := by rw [hXX]; exact (by repeat (first | exact Below.refl _ _ | assumption | refine Below.drew ?_ | refine Below.alloc ?_ (by first | (simp; done) | (simp; omega)) _ | refine Below.setCell ?_ (by first | (simp; done) | (simp; omega)) _))
  have R0 : Hid (Rw X w.heap.size 26 #[.slice pa S.parts.length pc, .slice ka S.chans.length kc, .slice sa S.slots.length sc]) := Lib.hid (by rw [hXX]; exact (by repeat (first | exact Rw.new _ _ _ (by first | rfl | (simp; done) | omega | (simp; omega)) | refine Rw.alloc ?_ _)))
  have R6 : Hid (Rw X (w.heap.size + 1) 37 (vwC celZ (.slice none 0 0) (.slice none 0 0))) := Lib.hid (by rw [hXX]; exact (by repeat (first | exact Rw.new _ _ _ (by first | rfl | (simp; done) | omega | (simp; omega)) | refine Rw.alloc ?_ _)))
  have HB := Lib.hid d0
  clear hX hXX d0
  have s0 := R0.out.cell (j := 0) (v := .slice pa S.parts.length pc) rfl
  have s1 := R0.out.cell (j := 1) (v := .slice ka S.chans.length kc) rfl
  have s2 := R0.out.cell (j := 2) (v := .slice sa S.slots.length sc) rfl
  go_wp2_with fail
  refine (HRUN.out _ (HE.out.up HB.out) (HS.out.up HB.out)).mono ?_
  rintro e w1 ⟨xc, xl, rfl, hN, b1⟩
  obtain ⟨ua, uc, rfl⟩ := hN.wld.c.form
  obtain ⟨la, lc, rfl⟩ := hN.wld.l.form
  have HN := Lib.hid hN
  have z1 := b1.size
  clear hN s0 s1 s2
  have R0' := Lib.hid (R0.out.up b1 R0.out.lt)
  have R6' := Lib.hid (R6.out.up b1 R6.out.lt)
  have HB' := Lib.hid (HB.out.trans (b1.mono HB.out.size))
  clear b1 HB R0 R6
  have R0 := R0'
  clear R0'
  have R6 := R6'
  clear R6'
  have HB := HB'
  clear HB'
  go_wp2_with (refine wpList_store_rowW rfl 30 (.tmp 8) (.tmp 16) rfl w1.heap.size #[.int .i64 D.tick, .slice ua D.cells.length uc, .slice la D.lines.length lc] rfl rfl 30 #[.int .i64 0, .slice none 0 0, .slice none 0 0] (by repeat (first | exact Rw.new _ _ _ (by first | rfl | (simp; done) | omega | (simp; omega)) | refine Rw.alloc ?_ _)) sizeWld rfl (by simp [Value.oneCell']) ?_)
  intro W2 HW2
  have b2 : Below w1.heap.size w1 W2 := by rw [HW2.out]; exact below_row ((Below.refl _ _).alloc (Nat.le_refl _) _) (Nat.le_refl _) _
  have R1 : Hid (Rw W2 w1.heap.size 30 #[.int .i64 D.tick, .slice ua D.cells.length uc, .slice la D.lines.length lc]) := by
    show Rw _ _ _ _
    rw [HW2.out]
    exact Rw.row (cs := #[.int .i64 0, .slice none 0 0, .slice none 0 0]) (by repeat (first | exact Rw.new _ _ _ (by first | rfl | (simp; done) | omega | (simp; omega)) | refine Rw.alloc ?_ _)) _
  have NW : Hid (Wld W2 (.slice ua D.cells.length uc) (.slice la D.lines.length lc) D) := by
    show Wld _ _ _ _
    rw [HW2.out]
    exact (HN.out.fresh _ _).wld
  have z2 := b2.size
  clear HW2
  have R0' := Lib.hid (R0.out.up b2 R0.out.lt)
  have R6' := Lib.hid (R6.out.up b2 R6.out.lt)
  have HB' := Lib.hid (HB.out.trans (b2.mono HB.out.size))
  clear b2 HB R0 R6
  have R0 := R0'
  clear R0'
  have R6 := R6'
  clear R6'
  have HB := HB'
  clear HB'
  have s0 := R0.out.cell (j := 0) (v := .slice pa S.parts.length pc) rfl
  have s1 := R0.out.cell (j := 1) (v := .slice ka S.chans.length kc) rfl
  have s2 := R0.out.cell (j := 2) (v := .slice sa S.slots.length sc) rfl
  have t0 := R1.out.cell (j := 0) (v := .int .i64 D.tick) rfl
  have t1 := R1.out.cell (j := 1) (v := .slice ua D.cells.length uc) rfl
  have t2 := R1.out.cell (j := 2) (v := .slice la D.lines.length lc) rfl
  clear HN
  go_wp2_with fail
  refine (HOF.out _ _ _ (HE.out.up HB.out) (HS.out.up HB.out) NW.out).mono ?_
  rintro e w3 ⟨o, vl, rfl, hV3, b3⟩
  obtain ⟨oa, oc, rfl⟩ := hV3.so.form
  obtain ⟨ma, mc, rfl⟩ := hV3.l.form
  have HV3 := Lib.hid hV3
  have z3 := b3.size
  clear hV3 s0 s1 s2 t0 t1 t2
  have R6' := Lib.hid (R6.out.up b3 R6.out.lt)
  have HB' := Lib.hid (HB.out.trans (b3.mono HB.out.size))
  clear b3 HB R6
  have R6 := R6'
  clear R6'
  have HB := HB'
  clear HB'
  go_wp2_with (refine wpList_store_rowW rfl 37 (.tmp 10) (.tmp 23) rfl w3.heap.size (vwC V.d.c (.slice oa V.d.out.length oc) (.slice ma V.ls.length mc)) rfl rfl 37 (vwC celZ (.slice none 0 0) (.slice none 0 0)) (by repeat (first | exact Rw.new _ _ _ (by first | rfl | (simp; done) | omega | (simp; omega)) | refine Rw.alloc ?_ _)) sizeView rfl (vwC_one _ _ _ rfl rfl) ?_)
  intro W4 HW4
  have b4 : Below w3.heap.size w3 W4 := by rw [HW4.out]; exact below_row ((Below.refl _ _).alloc (Nat.le_refl _) _) (Nat.le_refl _) _
  have R10 : Hid (Rw W4 w3.heap.size 37 (vwC V.d.c (.slice oa V.d.out.length oc) (.slice ma V.ls.length mc))) := by
    show Rw _ _ _ _
    rw [HW4.out]
    exact Rw.row (cs := (vwC celZ (.slice none 0 0) (.slice none 0 0))) (by repeat (first | exact Rw.new _ _ _ (by first | rfl | (simp; done) | omega | (simp; omega)) | refine Rw.alloc ?_ _)) _
  have V4 : Hid (VwR (w.heap.size + 2) W4 (.slice oa V.d.out.length oc) (.slice ma V.ls.length mc) V) := by
    show VwR _ _ _ _ _
    rw [HW4.out]
    exact (HV3.out.low (by omega)).fresh _ _
  clear HW4
  have R6' := Lib.hid (R6.out.up b4 R6.out.lt)
  have HB' := Lib.hid (HB.out.trans (b4.mono HB.out.size))
  clear b4 HB R6
  have R6 := R6'
  clear R6'
  have HB := HB'
  clear HB'
  clear HV3
  go_wp2_with (first | (refine wpList_load_row rfl 37 (.tmp 10) rfl w3.heap.size rfl 37 _ (0, 0) _ R10.out Tryz.underlying37 rfl sizeView ?_) | (refine wpList_store_rowW rfl 37 (.tmp 6) (.tmp 25) rfl (w.heap.size + 1) (vwC V.d.c (.slice oa V.d.out.length oc) (.slice ma V.ls.length mc)) rfl rfl 37 _ R6.out sizeView rfl (vwC_one _ _ _ rfl rfl) ?_))
  intro W5 HW5
  have r5 : Rw W5 (w.heap.size + 1) 37 (vwC V.d.c (.slice oa V.d.out.length oc) (.slice ma V.ls.length mc)) := by rw [HW5.out]; exact R6.out.row _
  have HB5 := Lib.hid (show Below w.heap.size w W5 by rw [HW5.out]; exact below_row HB.out (by omega) _)
  have V5 := Lib.hid (show VwR w.heap.size W5 (.slice oa V.d.out.length oc) (.slice ma V.ls.length mc) V by rw [HW5.out]; exact (V4.out.row (by omega) _).low (by omega))
  clear HW5
  go_wp2
  exact bodyPost_ret (results_row_tmp Tryz.results20 _ _ (w.heap.size + 1) _ _ rfl rfl (run_loadVar_row _ _ 37 _ _ (0, 0) _ r5 Tryz.underlying37 rfl sizeView)) rfl ⟨_, _, rfl, V5.out, HB5.out⟩
end Go.Proofs.YtehhhiodfcdnmaaGreatDoor

namespace Go.Proofs.YtehhhiodfcdnmaaGreatDoor
set_option linter.unusedSimpArgs false
set_option linter.unusedVariables false
open Go.RowKit Go.Sort
theorem namesFrom_true {l : List Chn} {ps : List Prt} {k : Nat} (h : namesFrom l k ps = true) (j : Nat) (hj : j < ps.length) : nameBad l ((k + j : Nat) : Int) ps[j] = false := by
  cases hb : nameBad l ((k + j : Nat) : Int) ps[j]
  · rfl
  · rw [namesFrom_at l ps k j hj hb] at h; cases h
theorem stop_chk : chkC stopP.code = 0 := by decide +kernel
end Go.Proofs.YtehhhiodfcdnmaaGreatDoor

namespace Go.Proofs.YtehhhiodfcdnmaaGreatDoor
set_option linter.unusedSimpArgs false
set_option linter.unusedVariables false
open Go.RowKit Go.Sort
theorem purge_right {S : SysD} (h : chkS S = 0) (u : Int) : chkS (purgeS S u) = 0 := by
  obtain ⟨h1, h2, h3, h4, h5⟩ := chkS_zero h
  obtain ⟨hc, hi⟩ := countsB_is h1
  have hz : ∀ j (hj : j < (purgeS S u).parts.length), chkC (purgeS S u).parts[j].code = 0 := fun j hj => by
    rw [purgeS_at S u j hj (by rw [purgeS_len] at hj; exact hj)]
    unfold purgeP
    split
    · exact h2 j (by rw [purgeS_len] at hj; exact hj)
    · exact stop_chk
  refine chkS_ok (countsB_mk ?_ (fun j hj => ?_)) hz h3 ?_ (namesB_yes hz (fun k hk => ?_))
  · rw [purgeS_len]; exact hc
  · rw [purgeS_at S u j hj (by rw [purgeS_len] at hj; exact hj)]
    unfold purgeP
    split
    · exact hi j (by rw [purgeS_len] at hj; exact hj)
    · simp [stopP]
  · unfold placesB at h4 ⊢
    rw [purgeS_len]
    exact h4
  · have hk' : k < S.parts.length := by rw [purgeS_len] at hk; exact hk
    rw [purgeS_at S u k hk hk']
    unfold purgeP
    split
    · have := namesFrom_true h5 k hk'
      rw [Nat.zero_add, nameBad_ins _ _ _ (h2 k hk')] at this
      exact this
    · rfl
theorem purge_alike {S : SysD} (h : chkS S = 0) (u : Int) : Alike S (purgeS S u) u := by
  refine ⟨h, purge_right h u, rfl, rfl, purgeS_len S u, fun j hj => ?_⟩
  show (S.parts.mapIdx (purgeP S u))[j]? = S.parts[j]?
  rw [List.getElem?_mapIdx]
  cases S.parts[j]? with
  | none => rfl
  | some p => simp only [Option.map_some, purgeP]; rw [if_pos hj]
theorem other_alike {S : SysD} (h : chkS S = 0) {v : Nat} {p : Prt} (h' : chkS (otherS S v p) = 0) {u : Int} (hr : reachB S v u = false) : Alike S (otherS S v p) u := by
  refine ⟨h, h', rfl, rfl, by simp [otherS], fun j hj => ?_⟩
  show (S.parts.set v p)[j]? = S.parts[j]?
  rw [List.getElem?_set]
  split
  · rename_i e
    subst e
    rw [hr] at hj
    cases hj
  · rfl
end Go.Proofs.YtehhhiodfcdnmaaGreatDoor

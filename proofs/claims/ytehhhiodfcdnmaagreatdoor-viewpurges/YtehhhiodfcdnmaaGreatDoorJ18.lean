/- viewBegun: what must be in any case. -/
import Derived.Test.YtehhhiodfcdnmaaGreatDoorJ16
import Derived.Test.YtehhhiodfcdnmaaGreatDoorJ17
import Derived.Test.YtehhhiodfcdnmaaGreatDoorJ2
import Derived.Deep.QuietTactic
import Derived.BigQuiet
namespace Go.Proofs.YtehhhiodfcdnmaaGreatDoor
set_option linter.unusedSimpArgs false
set_option linter.unusedVariables false
open Go.RowKit Go.Sort
theorem entRelayV : Enters 40 := enters Tryz.func40 (by kernel_rfl) (by kernel_rfl)
theorem entOf : Enters 9 := enters Tryz.func9 (by kernel_rfl) (by kernel_rfl)
theorem relayV (w : World) : Calls Tryz.prog 40 #[] w fun e w' => ∃ vp vc vs, e = .returned (.agg #[vp, vc, vs]) ∧ Sys w' vp vc vs relayS ∧ Below w.heap.size w w' := by
  refine (relay_any w).mono ?_
  rintro e w' ⟨vp, vc, vs, h1, h2, h3⟩
  exact ⟨vp, vc, vs, h1, h2.sys, h3⟩
theorem relayEV : runE relayS 7 = 0 := by kernel_rfl
theorem relayVE : viewE relayS (runR relayS 7) 1 = 0 := by kernel_rfl
theorem relayVL : (viewR relayS (runR relayS 7) 1).ls.length = 2 := by kernel_rfl
theorem relayVO : (viewR relayS (runR relayS 7) 1).d.out = [6] := by kernel_rfl
theorem relayTh : thE relayS 1 = 0 := by kernel_rfl
theorem relayPL : (purgeR relayS 1).parts.length = 4 := by kernel_rfl
theorem relayP0 : ∀ h, ((purgeR relayS 1).parts[0]'h).code.length = 3 := fun _ => by kernel_rfl
theorem relayP2 : ∀ h, ((purgeR relayS 1).parts[2]'h).code.length = 1 := fun _ => by kernel_rfl
theorem relayP3 : ∀ h, ((purgeR relayS 1).parts[3]'h).code.length = 1 := fun _ => by kernel_rfl
def restP : Prt := ⟨[⟨14, 0, 0, 0⟩], []⟩
def putP : Prt := ⟨[⟨12, 0, 0, 0⟩], []⟩
theorem relayO0 : otherE relayS 3 restP = 0 := by kernel_rfl
theorem relayO1 : otherE relayS 3 putP = 1 := by kernel_rfl
theorem relayOL : (otherR relayS 3 restP).parts.length = 4 := by kernel_rfl
theorem relayO3 : ∀ h, ((otherR relayS 3 restP).parts[3]'h) = restP := fun _ => by kernel_rfl
theorem of7 (D : WldD) (V : ViwD) (hE : viewE relayS D 1 = 0) (hV : viewR relayS D 1 = V) (hL : V.ls.length = 2) (hO : V.d.out = [6]) (vp vc vs uc ul : Value) (w : World) (he : Env w) (hS : Sys w vp vc vs relayS) (hW : Wld w uc ul D) :
    Calls Tryz.prog 9 #[.agg #[vp, vc, vs], .agg #[.int .i64 D.tick, uc, ul], .int .i64 1] w fun e w' => ∃ oa oc ma mc, e = .returned (.tuple #[.agg (vwC V.d.c (.slice oa 1 oc) (.slice ma 2 mc)), .int .i64 0]) ∧ Sl w' 1 (.slice oa 1 oc) 1 (ints [6]) ∧ NewB w.heap.size (.slice oa 1 oc) ∧ Below w.heap.size w w' := by
  refine (viewOf_any relayS D 1 vp vc vs uc ul w he hS hW 0 hE V hV).mono ?_
  rintro e w' ⟨o, vl, rfl, h1, h2⟩
  have hs := h1.so
  rw [hO] at hs
  obtain ⟨oa, oc, rfl⟩ := hs.form
  obtain ⟨ma, mc, e2⟩ := h1.l.form
  rw [hL] at e2
  subst e2
  exact ⟨oa, oc, ma, mc, rfl, hs, h1.no, h2⟩
theorem purge7 (vp vc vs : Value) (w : World) (he : Env w) (hS : Sys w vp vc vs relayS) :
    Calls Tryz.prog 15 #[.agg #[vp, vc, vs], .int .i64 1] w fun e w' => ∃ b off xc a1 l1 c1 a2 l2 c2 q0 z0 q2 z2 q3 z3, e = .returned (.tuple #[.agg #[.slice (some ⟨b, off, none⟩) 4 xc, .slice a1 l1 c1, .slice a2 l2 c2], .int .i64 0]) ∧ b < w'.heap.size ∧ w'.cell? ⟨b, off, none⟩ = some (.slice q0 3 z0) ∧ w'.cell? ⟨b, off + 4, none⟩ = some (.slice q2 1 z2) ∧ w'.cell? ⟨b, off + 6, none⟩ = some (.slice q3 1 z3) ∧ Below w.heap.size w w' := by
  refine (purge_any relayS 1 vp vc vs w he hS 0 relayTh (purgeR relayS 1) rfl).mono ?_
  rintro e w' ⟨xp, xc, xs, rfl, h1, h2⟩
  obtain ⟨a1, c1, rfl⟩ := h1.c.form
  obtain ⟨a2, c2, rfl⟩ := h1.s.form
  obtain ⟨b, off, cap, rfl, _, hb, hp⟩ := h1.p.r.open (by rw [relayPL]; omega)
  have hl := relayPL
  obtain ⟨v0, _, k0, _, r0⟩ := hp 0 (by omega)
  obtain ⟨v2, _, k2, _, r2⟩ := hp 2 (by omega)
  obtain ⟨v3, _, k3, _, r3⟩ := hp 3 (by omega)
  obtain ⟨q0, z0, e0⟩ := r0.code.form
  obtain ⟨q2, z2, e2⟩ := r2.code.form
  obtain ⟨q3, z3, e3⟩ := r3.code.form
  rw [relayP0] at e0
  rw [relayP2] at e2
  rw [relayP3] at e3
  subst e0 e2 e3
  rw [hl]
  exact ⟨b, off, cap, a1, _, c1, a2, _, c2, q0, z0, q2, z2, q3, z3, rfl, hb, by simpa using k0, k2, k3, h2⟩
theorem other7 (vp vc vs pv iv : Value) (w : World) (he : Env w) (hS : Sys w vp vc vs relayS) (hp : PrtR w pv iv restP) :
    Calls Tryz.prog 16 #[.agg #[vp, vc, vs], .int .i64 3, .agg #[pv, iv]] w fun e w' => ∃ b off xc a1 l1 c1 a2 l2 c2 cb co z, e = .returned (.tuple #[.agg #[.slice (some ⟨b, off, none⟩) 4 xc, .slice a1 l1 c1, .slice a2 l2 c2], .int .i64 0]) ∧ b < w'.heap.size ∧ cb < w'.heap.size ∧ w'.cell? ⟨b, off + 6, none⟩ = some (.slice (some ⟨cb, co, none⟩) 1 z) ∧ w'.cell? ⟨cb, co, none⟩ = some (.int .i64 14) ∧ Below w.heap.size w w' := by
  refine (other_any relayS 3 restP vp vc vs pv iv w he hS hp 0 relayO0 (otherR relayS 3 restP) rfl).mono ?_
  rintro e w' ⟨xp, xc, xs, rfl, h1, h2⟩
  obtain ⟨a1, c1, rfl⟩ := h1.c.form
  obtain ⟨a2, c2, rfl⟩ := h1.s.form
  have hl := relayOL
  obtain ⟨b, off, cap, rfl, _, hb, hq⟩ := h1.p.r.open (by rw [hl]; omega)
  obtain ⟨v3, _, k3, _, r3⟩ := hq 3 (by omega)
  rw [relayO3] at r3
  obtain ⟨cb, co, z, rfl, _, hcb, hcc⟩ := r3.code.open (by decide)
  rw [hl]
  have h14 := hcc 0 (.int .i64 14) rfl
  rw [Nat.add_zero] at h14
  exact ⟨b, off, cap, a1, _, c1, a2, _, c2, cb, co, z, rfl, hb, hcb, k3, h14, h2⟩
theorem other7b (vp vc vs pv iv : Value) (w : World) (he : Env w) (hS : Sys w vp vc vs relayS) (hp : PrtR w pv iv putP) :
    Calls Tryz.prog 16 #[.agg #[vp, vc, vs], .int .i64 3, .agg #[pv, iv]] w fun e w' => ∃ a0 l0 c0 a1 l1 c1 a2 l2 c2, e = .returned (.tuple #[.agg #[.slice a0 l0 c0, .slice a1 l1 c1, .slice a2 l2 c2], .int .i64 1]) ∧ Below w.heap.size w w' := by
  refine (other_any relayS 3 putP vp vc vs pv iv w he hS hp 1 relayO1 (otherR relayS 3 putP) rfl).mono ?_
  rintro e w' ⟨xp, xc, xs, rfl, h1, h2⟩
  obtain ⟨a0, c0, rfl⟩ := h1.p.r.form
  obtain ⟨a1, c1, rfl⟩ := h1.c.form
  obtain ⟨a2, c2, rfl⟩ := h1.s.form
  exact ⟨a0, _, c0, a1, _, c1, a2, _, c2, rfl, h2⟩
theorem litP (w : World) (op : Int) (g : Nat) (hg : g = w.heap.size) : PrtR (w.alloc (.cells #[.int .i64 op, .int .i64 0, .int .i64 0, .int .i64 0] 83)) (.slice (some ⟨g, 0, none⟩) 1 1) (.slice none 0 0) ⟨[⟨op, 0, 0, 0⟩], []⟩ :=
  ⟨lit_sl w [.int .i64 op, .int .i64 0, .int .i64 0, .int .i64 0] _ g 1 4 hg rfl, Sl.nil _ _⟩
set_option maxRecDepth 100000 in
set_option maxHeartbeats 16000000 in
theorem viewBegun_any (w : World) (he : Env w) : Calls Tryz.prog 13 #[] w fun e w' => e = .returned (.bool true) ∧ Below w.heap.size w w' := by
  obtain ⟨D, hD⟩ : ∃ D, runR relayS 7 = D := ⟨_, rfl⟩
  have hE := relayVE
  have hL := relayVL
  have hO := relayVO
  rw [hD] at hE hL hO
  obtain ⟨V, hV⟩ : ∃ V, viewR relayS D 1 = V := ⟨_, rfl⟩
  rw [hV] at hL hO
  have HRUN := Lib.hid fun vp vc vs w he hS => kernRun_any relayS 7 vp vc vs w he hS 0 relayEV D hD
  have HOF := Lib.hid fun vp vc vs uc ul w he hS hW => of7 D V hE hV hL hO vp vc vs uc ul w he hS hW
  have HE := Lib.hid he
  clear hE hL hO hV he hD
  go_enter Tryz.func13, Tryz.ntmps13
  go_wp2_with fail
  refine (relayV _).mono ?_
  rintro e w1 ⟨vp, vc, vs, rfl, hS, b1⟩
  have HE1 := Lib.hid (HE.out.up b1)
  have HD1 := Lib.hid b1
  have HS := Lib.hid hS
  clear hS b1
  go_wp2_with fail
  refine (HRUN.out _ _ _ _ HE1.out HS.out).mono ?_
  rintro e w2 ⟨xc, xl, rfl, hN, b2⟩
  obtain ⟨ca, cc, rfl⟩ := hN.wld.c.form
  obtain ⟨la, lc, rfl⟩ := hN.wld.l.form
  have z1 := HD1.out.size
  have HE2 := Lib.hid (HE1.out.up b2)
  have HD2 := Lib.hid (HD1.out.trans (b2.mono z1))
  have HN := Lib.hid hN
  have z2 := b2.size
  clear b2 hN HS HE1 HD1 HRUN
  go_wp2_with (refine wpList_store_rowW rfl 30 (.tmp 1) (.tmp 14) rfl w2.heap.size #[.int .i64 D.tick, .slice ca D.cells.length cc, .slice la D.lines.length lc] rfl rfl 30 #[.int .i64 0, .slice none 0 0, .slice none 0 0] (by repeat (first | exact Rw.new _ _ _ (by first | rfl | (simp; done) | omega | (simp; omega)) | refine Rw.alloc ?_ _)) sizeWld rfl (by simp [Value.oneCell']) ?_)
  intro W6 HW6
  have b6 : Below w2.heap.size w2 W6 := by rw [HW6.out]; exact below_row ((Below.refl _ _).alloc (Nat.le_refl _) _) (Nat.le_refl _) _
  have RB6 : Hid (Rw W6 w2.heap.size 30 #[.int .i64 D.tick, .slice ca D.cells.length cc, .slice la D.lines.length lc]) := by
    show Rw _ _ _ _
    rw [HW6.out]
    exact Rw.row (cs := #[.int .i64 0, .slice none 0 0, .slice none 0 0]) (by repeat (first | exact Rw.new _ _ _ (by first | rfl | (simp; done) | omega | (simp; omega)) | refine Rw.alloc ?_ _)) _
  have NB6 : Hid (Wld W6 (.slice ca D.cells.length cc) (.slice la D.lines.length lc) D) := by
    show Wld _ _ _ _
    rw [HW6.out]
    exact (HN.out.fresh _ _).wld
  have HE6 := Lib.hid (HE2.out.up b6)
  have HD6 := Lib.hid (HD2.out.trans (b6.mono (by omega)))
  have z6 := RB6.out.lt
  have z6' := b6.size
  clear HW6 b6 HN HE2 HD2
  go_upto_region 2 with fail
  go_cut [3, 4] from 16 to 21 (fun p3 p4 wd => ∃ g oa oc ma mc, p3 = .pointer (some ⟨g, 0, none⟩) ∧ p4 = .int .i64 0 ∧ Hid (Below W6.heap.size W6 wd) ∧ Hid (Rw wd g 37 (vwC V.d.c (.slice oa 1 oc) (.slice ma 2 mc))) ∧ Hid (Sl wd 1 (.slice oa 1 oc) 1 (ints [6])))
  case first =>
    refine region_still (S := fun w' => Below W6.heap.size W6 w') 8 (by kernel_rfl) (Below.refl _ _).drew (fun hHeld => ?_)
    refine Still.takeBy (i := 1) [] (by kernel_rfl) (by kernel_rfl) rfl (by kernel_rfl) (by kernel_rfl) (by kernel_rfl) (fun _ _ _ h => h) (yields_load rfl _ _ rfl _ (by first | rfl | simp [Act.eval, Act.put]) _ (fun w' hSw => Rw.loadAt (RB6.out.up hSw (by omega)) Tryz.underlying30 rfl sizeWld)) hHeld ?r151
    simp only [Act.put, List.getElem_toArray, List.getElem_cons_zero, List.getElem_cons_succ, List.setIfInBounds_toArray, List.set_cons_zero, List.set_cons_succ]
    generalize World.drew _ = Y0 at hHeld ⊢
    have H0 := Lib.hid hHeld.size
    refine Still.all (rs := [0, 6]) (by kernel_rfl) (by simp) (Still.one (i := 0) rfl rfl (fun K hK => ?_) (Still.one (i := 6) rfl rfl (fun K hK => ?_) (by simp)))
    · refine wp_call 40 _ _ rfl entRelayV #[] (by first | rfl | simp [Act.eval, Act.put]) ((relayV _).mono ?_)
      rintro e Y1 ⟨vp7, vc7, vs7, rfl, hS, bb⟩
      have z7 := bb.size
      refine ⟨_, rfl, hK _ _ (fun _ => hHeld.trans (bb.mono hHeld.size)) (fun hh => ?_)⟩
      have hHeld := hh (by decide)
      clear hK K hh
      try simp only [Act.put, List.getElem_toArray, List.getElem_cons_zero, List.getElem_cons_succ, List.setIfInBounds_toArray, List.set_cons_zero, List.set_cons_succ]
      have HS := Lib.hid hS
      clear hS bb
      have H1 := Lib.hid hHeld.size
      refine Still.all (rs := [2, 6]) (by kernel_rfl) (by simp) (Still.one (i := 2) rfl rfl (fun K hK => ?_) (Still.one (i := 6) rfl rfl (fun K hK => ?_) (by simp)))
      · refine wp_call 9 _ _ rfl entOf #[.agg #[vp7, vc7, vs7], .agg #[.int .i64 D.tick, .slice ca D.cells.length cc, .slice la D.lines.length lc], .int .i64 1] (by first | rfl | simp [Act.eval, Act.put]) ((HOF.out _ _ _ _ _ _ (HE6.out.up hHeld) HS.out (NB6.out.up hHeld)).mono ?_)
        rintro e Y2 ⟨oa, oc, ma, mc, rfl, hN, hNO, bb⟩
        have z8 := bb.size
        have HNO := Lib.hid hNO
        refine ⟨_, rfl, hK _ _ (fun _ => hHeld.trans (bb.mono hHeld.size)) (fun hh => ?_)⟩
        have hHeld := hh (by decide)
        clear hK K hh
        try simp only [Act.put, List.getElem_toArray, List.getElem_cons_zero, List.getElem_cons_succ, List.setIfInBounds_toArray, List.set_cons_zero, List.set_cons_succ]
        have HN := Lib.hid hN
        clear hN bb hNO
        refine Still.takeBy (i := 3) [] (v := ?v401) (by kernel_rfl) (by kernel_rfl) rfl (by kernel_rfl) (by kernel_rfl) (by kernel_rfl) (fun _ _ _ h => h) (Or.inl ⟨by rfl, ?y401⟩) hHeld ?r401
        case y401 => (intro w' hSw; (try dsimp only at hSw); go_simp; try with_reducible rfl)
        simp only [Act.put, List.getElem_toArray, List.getElem_cons_zero, List.getElem_cons_succ, List.setIfInBounds_toArray, List.set_cons_zero, List.set_cons_succ]
        refine Still.takeBy (i := 4) [] (v := ?v402) (by kernel_rfl) (by kernel_rfl) rfl (by kernel_rfl) (by kernel_rfl) (by kernel_rfl) (fun _ _ _ h => h) (Or.inl ⟨by rfl, ?y402⟩) hHeld ?r402
        case y402 => (intro w' hSw; (try dsimp only at hSw); go_simp; try with_reducible rfl)
        simp only [Act.put, List.getElem_toArray, List.getElem_cons_zero, List.getElem_cons_succ, List.setIfInBounds_toArray, List.set_cons_zero, List.set_cons_succ]
        refine Still.takeBy (i := 5) [] (v := ?v403) (by kernel_rfl) (by kernel_rfl) rfl (by kernel_rfl) (by kernel_rfl) (by kernel_rfl) (fun _ _ _ h => h) (Or.inl ⟨by rfl, ?y403⟩) hHeld ?r403
        case y403 => (intro w' hSw; (try dsimp only at hSw); go_simp; try with_reducible rfl)
        simp only [Act.put, List.getElem_toArray, List.getElem_cons_zero, List.getElem_cons_succ, List.setIfInBounds_toArray, List.set_cons_zero, List.set_cons_succ]
        have H2 := Lib.hid hHeld.size
        refine Still.all (rs := [6]) (by kernel_rfl) (by simp) (Still.one (i := 6) rfl rfl (fun K hK => ?_) (by simp))
        go_simp
        refine hK _ _ (fun _ => Below.alloc hHeld hHeld.size _) (fun hh => ?_)
        have hHeld := hh (by decide)
        clear hK K hh
        try simp only [Act.put, List.getElem_toArray, List.getElem_cons_zero, List.getElem_cons_succ, List.setIfInBounds_toArray, List.set_cons_zero, List.set_cons_succ]
        have RA : Hid (Rw (Y2.alloc (.cells (vwC celZ (.slice none 0 0) (.slice none 0 0)) 37)) Y2.heap.size 37 (vwC celZ (.slice none 0 0) (.slice none 0 0))) := Rw.new _ _ _ rfl
        have hya : W6.heap.size ≤ Y2.heap.size := by have := H2.out; exact this
        have H3 := Lib.hid hHeld.size
        refine Still.all (rs := [7]) (by kernel_rfl) (by simp) (Still.one (i := 7) rfl rfl (fun K hK => ?_) (by simp))
        refine wp_store_row 37 _ _ rfl Y2.heap.size (vwC V.d.c (.slice oa 1 oc) (.slice ma 2 mc)) (by first | rfl | simp [Act.eval, Act.put]) (by first | rfl | simp [Act.eval, Act.put]) 37 (vwC celZ (.slice none 0 0) (.slice none 0 0)) RA.out sizeView rfl (vwC_one _ _ _ rfl rfl) ?_
        refine hK _ _ (fun _ => below_row hHeld (by omega) _) (fun hh => ?_)
        have hHeld := hh (by decide)
        clear hK K hh
        try simp only [Act.put, List.getElem_toArray, List.getElem_cons_zero, List.getElem_cons_succ, List.setIfInBounds_toArray, List.set_cons_zero, List.set_cons_succ]
        refine Still.all (rs := [8]) (by kernel_rfl) (by simp) (Still.one (i := 8) rfl rfl (fun K hK => ?_) (by simp))
        go_simp
        refine hK _ _ (fun h => absurd rfl h) (fun _ => ?_)
        clear hK K
        refine Still.over (by kernel_rfl) ?_ _
        go_wp2
        go_meet
        exact ⟨_, oa, oc, ma, mc, rfl, rfl, hHeld, RA.out.row _, sl_fresh HN.out _ _⟩
      · go_simp
        refine hK _ _ (fun _ => Below.alloc hHeld hHeld.size _) (fun hh => ?_)
        have hHeld := hh (by decide)
        clear hK K hh
        try simp only [Act.put, List.getElem_toArray, List.getElem_cons_zero, List.getElem_cons_succ, List.setIfInBounds_toArray, List.set_cons_zero, List.set_cons_succ]
        have RA : Hid (Rw (Y1.alloc (.cells (vwC celZ (.slice none 0 0) (.slice none 0 0)) 37)) Y1.heap.size 37 (vwC celZ (.slice none 0 0) (.slice none 0 0))) := Rw.new _ _ _ rfl
        have hya : W6.heap.size ≤ Y1.heap.size := by have := H1.out; exact this
        have hs := HS.out.up ((Below.refl _ _).alloc (Nat.le_refl _) (.cells (vwC celZ (.slice none 0 0) (.slice none 0 0)) 37))
        clear HS
        have HS := Lib.hid hs
        clear hs
        have hHeld : Below W6.heap.size W6 (Y1.alloc (.cells (vwC celZ (.slice none 0 0) (.slice none 0 0)) 37)) := hHeld
        change Still _ _ _ _ _ _ _ _ _ (Y1.alloc (.cells (vwC celZ (.slice none 0 0) (.slice none 0 0)) 37))
        generalize hWg : Y1.alloc (.cells (vwC celZ (.slice none 0 0) (.slice none 0 0)) 37) = Y2 at hHeld RA HS ⊢
        have hlq : Y1.heap.size < Y2.heap.size := RA.out.lt
        clear hWg
        have H2 := Lib.hid hHeld.size
        refine Still.all (rs := [2]) (by kernel_rfl) (by simp) (Still.one (i := 2) rfl rfl (fun K hK => ?_) (by simp))
        refine wp_call 9 _ _ rfl entOf #[.agg #[vp7, vc7, vs7], .agg #[.int .i64 D.tick, .slice ca D.cells.length cc, .slice la D.lines.length lc], .int .i64 1] (by first | rfl | simp [Act.eval, Act.put]) ((HOF.out _ _ _ _ _ _ (HE6.out.up hHeld) HS.out (NB6.out.up hHeld)).mono ?_)
        rintro e Y3 ⟨oa, oc, ma, mc, rfl, hN, hNO, bb⟩
        have z8 := bb.size
        have HNO := Lib.hid hNO
        refine ⟨_, rfl, hK _ _ (fun _ => hHeld.trans (bb.mono hHeld.size)) (fun hh => ?_)⟩
        have hHeld := hh (by decide)
        clear hK K hh
        try simp only [Act.put, List.getElem_toArray, List.getElem_cons_zero, List.getElem_cons_succ, List.setIfInBounds_toArray, List.set_cons_zero, List.set_cons_succ]
        have hla := RA.out.lt
        have ra := RA.out.up bb RA.out.lt
        clear RA
        have RA := Lib.hid ra
        clear ra
        have HN := Lib.hid hN
        clear hN bb hNO
        refine Still.takeBy (i := 3) [] (v := ?v421) (by kernel_rfl) (by kernel_rfl) rfl (by kernel_rfl) (by kernel_rfl) (by kernel_rfl) (fun _ _ _ h => h) (Or.inl ⟨by rfl, ?y421⟩) hHeld ?r421
        case y421 => (intro w' hSw; (try dsimp only at hSw); go_simp; try with_reducible rfl)
        simp only [Act.put, List.getElem_toArray, List.getElem_cons_zero, List.getElem_cons_succ, List.setIfInBounds_toArray, List.set_cons_zero, List.set_cons_succ]
        refine Still.takeBy (i := 4) [] (v := ?v422) (by kernel_rfl) (by kernel_rfl) rfl (by kernel_rfl) (by kernel_rfl) (by kernel_rfl) (fun _ _ _ h => h) (Or.inl ⟨by rfl, ?y422⟩) hHeld ?r422
        case y422 => (intro w' hSw; (try dsimp only at hSw); go_simp; try with_reducible rfl)
        simp only [Act.put, List.getElem_toArray, List.getElem_cons_zero, List.getElem_cons_succ, List.setIfInBounds_toArray, List.set_cons_zero, List.set_cons_succ]
        refine Still.takeBy (i := 5) [] (v := ?v423) (by kernel_rfl) (by kernel_rfl) rfl (by kernel_rfl) (by kernel_rfl) (by kernel_rfl) (fun _ _ _ h => h) (Or.inl ⟨by rfl, ?y423⟩) hHeld ?r423
        case y423 => (intro w' hSw; (try dsimp only at hSw); go_simp; try with_reducible rfl)
        simp only [Act.put, List.getElem_toArray, List.getElem_cons_zero, List.getElem_cons_succ, List.setIfInBounds_toArray, List.set_cons_zero, List.set_cons_succ]
        have H3 := Lib.hid hHeld.size
        refine Still.all (rs := [7]) (by kernel_rfl) (by simp) (Still.one (i := 7) rfl rfl (fun K hK => ?_) (by simp))
        refine wp_store_row 37 _ _ rfl Y1.heap.size (vwC V.d.c (.slice oa 1 oc) (.slice ma 2 mc)) (by first | rfl | simp [Act.eval, Act.put]) (by first | rfl | simp [Act.eval, Act.put]) 37 (vwC celZ (.slice none 0 0) (.slice none 0 0)) RA.out sizeView rfl (vwC_one _ _ _ rfl rfl) ?_
        refine hK _ _ (fun _ => below_row hHeld (by omega) _) (fun hh => ?_)
        have hHeld := hh (by decide)
        clear hK K hh
        try simp only [Act.put, List.getElem_toArray, List.getElem_cons_zero, List.getElem_cons_succ, List.setIfInBounds_toArray, List.set_cons_zero, List.set_cons_succ]
        refine Still.all (rs := [8]) (by kernel_rfl) (by simp) (Still.one (i := 8) rfl rfl (fun K hK => ?_) (by simp))
        go_simp
        refine hK _ _ (fun h => absurd rfl h) (fun _ => ?_)
        clear hK K
        refine Still.over (by kernel_rfl) ?_ _
        go_wp2
        go_meet
        exact ⟨_, oa, oc, ma, mc, rfl, rfl, hHeld, RA.out.row _, HN.out.row _ (fun e => by have := HNO.out _ e; omega)⟩
    · go_simp
      refine hK _ _ (fun _ => Below.alloc hHeld hHeld.size _) (fun hh => ?_)
      have hHeld := hh (by decide)
      clear hK K hh
      try simp only [Act.put, List.getElem_toArray, List.getElem_cons_zero, List.getElem_cons_succ, List.setIfInBounds_toArray, List.set_cons_zero, List.set_cons_succ]
      have RA : Hid (Rw (Y0.alloc (.cells (vwC celZ (.slice none 0 0) (.slice none 0 0)) 37)) Y0.heap.size 37 (vwC celZ (.slice none 0 0) (.slice none 0 0))) := Rw.new _ _ _ rfl
      have hya : W6.heap.size ≤ Y0.heap.size := by have := H0.out; exact this
      have hHeld : Below W6.heap.size W6 (Y0.alloc (.cells (vwC celZ (.slice none 0 0) (.slice none 0 0)) 37)) := hHeld
      change Still _ _ _ _ _ _ _ _ _ (Y0.alloc (.cells (vwC celZ (.slice none 0 0) (.slice none 0 0)) 37))
      generalize hWg : Y0.alloc (.cells (vwC celZ (.slice none 0 0) (.slice none 0 0)) 37) = Y1 at hHeld RA ⊢
      have hlq : Y0.heap.size < Y1.heap.size := RA.out.lt
      clear hWg
      have H1 := Lib.hid hHeld.size
      refine Still.all (rs := [0]) (by kernel_rfl) (by simp) (Still.one (i := 0) rfl rfl (fun K hK => ?_) (by simp))
      refine wp_call 40 _ _ rfl entRelayV #[] (by first | rfl | simp [Act.eval, Act.put]) ((relayV _).mono ?_)
      rintro e Y2 ⟨vp7, vc7, vs7, rfl, hS, bb⟩
      have z7 := bb.size
      refine ⟨_, rfl, hK _ _ (fun _ => hHeld.trans (bb.mono hHeld.size)) (fun hh => ?_)⟩
      have hHeld := hh (by decide)
      clear hK K hh
      try simp only [Act.put, List.getElem_toArray, List.getElem_cons_zero, List.getElem_cons_succ, List.setIfInBounds_toArray, List.set_cons_zero, List.set_cons_succ]
      have HS := Lib.hid hS
      have ra := RA.out.up bb RA.out.lt
      clear RA
      have RA := Lib.hid ra
      clear ra
      clear hS bb
      have H2 := Lib.hid hHeld.size
      refine Still.all (rs := [2]) (by kernel_rfl) (by simp) (Still.one (i := 2) rfl rfl (fun K hK => ?_) (by simp))
      refine wp_call 9 _ _ rfl entOf #[.agg #[vp7, vc7, vs7], .agg #[.int .i64 D.tick, .slice ca D.cells.length cc, .slice la D.lines.length lc], .int .i64 1] (by first | rfl | simp [Act.eval, Act.put]) ((HOF.out _ _ _ _ _ _ (HE6.out.up hHeld) HS.out (NB6.out.up hHeld)).mono ?_)
      rintro e Y3 ⟨oa, oc, ma, mc, rfl, hN, hNO, bb⟩
      have z8 := bb.size
      have HNO := Lib.hid hNO
      refine ⟨_, rfl, hK _ _ (fun _ => hHeld.trans (bb.mono hHeld.size)) (fun hh => ?_)⟩
      have hHeld := hh (by decide)
      clear hK K hh
      try simp only [Act.put, List.getElem_toArray, List.getElem_cons_zero, List.getElem_cons_succ, List.setIfInBounds_toArray, List.set_cons_zero, List.set_cons_succ]
      have hla := RA.out.lt
      have ra := RA.out.up bb RA.out.lt
      clear RA
      have RA := Lib.hid ra
      clear ra
      have HN := Lib.hid hN
      clear hN bb hNO
      refine Still.takeBy (i := 3) [] (v := ?v441) (by kernel_rfl) (by kernel_rfl) rfl (by kernel_rfl) (by kernel_rfl) (by kernel_rfl) (fun _ _ _ h => h) (Or.inl ⟨by rfl, ?y441⟩) hHeld ?r441
      case y441 => (intro w' hSw; (try dsimp only at hSw); go_simp; try with_reducible rfl)
      simp only [Act.put, List.getElem_toArray, List.getElem_cons_zero, List.getElem_cons_succ, List.setIfInBounds_toArray, List.set_cons_zero, List.set_cons_succ]
      refine Still.takeBy (i := 4) [] (v := ?v442) (by kernel_rfl) (by kernel_rfl) rfl (by kernel_rfl) (by kernel_rfl) (by kernel_rfl) (fun _ _ _ h => h) (Or.inl ⟨by rfl, ?y442⟩) hHeld ?r442
      case y442 => (intro w' hSw; (try dsimp only at hSw); go_simp; try with_reducible rfl)
      simp only [Act.put, List.getElem_toArray, List.getElem_cons_zero, List.getElem_cons_succ, List.setIfInBounds_toArray, List.set_cons_zero, List.set_cons_succ]
      refine Still.takeBy (i := 5) [] (v := ?v443) (by kernel_rfl) (by kernel_rfl) rfl (by kernel_rfl) (by kernel_rfl) (by kernel_rfl) (fun _ _ _ h => h) (Or.inl ⟨by rfl, ?y443⟩) hHeld ?r443
      case y443 => (intro w' hSw; (try dsimp only at hSw); go_simp; try with_reducible rfl)
      simp only [Act.put, List.getElem_toArray, List.getElem_cons_zero, List.getElem_cons_succ, List.setIfInBounds_toArray, List.set_cons_zero, List.set_cons_succ]
      have H3 := Lib.hid hHeld.size
      refine Still.all (rs := [7]) (by kernel_rfl) (by simp) (Still.one (i := 7) rfl rfl (fun K hK => ?_) (by simp))
      refine wp_store_row 37 _ _ rfl Y0.heap.size (vwC V.d.c (.slice oa 1 oc) (.slice ma 2 mc)) (by first | rfl | simp [Act.eval, Act.put]) (by first | rfl | simp [Act.eval, Act.put]) 37 (vwC celZ (.slice none 0 0) (.slice none 0 0)) RA.out sizeView rfl (vwC_one _ _ _ rfl rfl) ?_
      refine hK _ _ (fun _ => below_row hHeld (by omega) _) (fun hh => ?_)
      have hHeld := hh (by decide)
      clear hK K hh
      try simp only [Act.put, List.getElem_toArray, List.getElem_cons_zero, List.getElem_cons_succ, List.setIfInBounds_toArray, List.set_cons_zero, List.set_cons_succ]
      refine Still.all (rs := [8]) (by kernel_rfl) (by simp) (Still.one (i := 8) rfl rfl (fun K hK => ?_) (by simp))
      go_simp
      refine hK _ _ (fun h => absurd rfl h) (fun _ => ?_)
      clear hK K
      refine Still.over (by kernel_rfl) ?_ _
      go_wp2
      go_meet
      exact ⟨_, oa, oc, ma, mc, rfl, rfl, hHeld, RA.out.row _, HN.out.row _ (fun e => by have := HNO.out _ e; omega)⟩
  case rest =>
    obtain ⟨g3, oa, oc, ma, mc, rfl, rfl, HB7, RV, SV⟩ := hcut
    have HE7 := Lib.hid (HE6.out.up HB7.out)
    have HD7 := Lib.hid (HD6.out.trans (HB7.out.mono (by omega)))
    clear HB7 HE6 HD6 RB6 NB6 HOF
    go_wp2_with fail
    refine (relayV _).mono ?_
    rintro e r1 ⟨vp1, vc1, vs1, rfl, hS1, b1⟩
    have HS1 := Lib.hid hS1
    have HE8 := Lib.hid (HE7.out.up b1)
    have B1 := Lib.hid b1
    clear hS1 b1
    go_wp2_with fail
    refine (purge7 _ _ _ _ HE8.out HS1.out).mono ?_
    rintro e u1 ⟨pb, po, pcap, pa1, pl1, pc1, pa2, pl2, pc2, q0, y0, q2, y2, q3, y3, rfl, hpb, k0, k2, k3, b1⟩
    have hz1 := B1.out.size
    have BB1 := Lib.hid (B1.out.trans (b1.mono hz1))
    have HE9 := Lib.hid (HE8.out.up b1)
    have K0 := Lib.hid k0
    have K2 := Lib.hid k2
    have K3 := Lib.hid k3
    clear b1 B1 HS1 HE7 HE8 k0 k2 k3
    go_wp2_with (refine wpList_store_rowW rfl 26 (.tmp 5) (.tmp 25) rfl u1.heap.size #[.slice (some ⟨pb, po, none⟩) 4 pcap, .slice pa1 pl1 pc1, .slice pa2 pl2 pc2] rfl rfl 26 #[.slice none 0 0, .slice none 0 0, .slice none 0 0] (by repeat (first | exact Rw.new _ _ _ (by first | rfl | (simp; done) | omega | (simp; omega)) | refine Rw.alloc ?_ _)) sizeSys rfl (by simp [Value.oneCell']) ?_)
    intro U1 HU1
    have bU1 : Below u1.heap.size u1 U1 := by rw [HU1.out]; exact below_row ((Below.refl _ _).alloc (Nat.le_refl _) _) (Nat.le_refl _) _
    have R5 : Hid (Rw U1 u1.heap.size 26 #[.slice (some ⟨pb, po, none⟩) 4 pcap, .slice pa1 pl1 pc1, .slice pa2 pl2 pc2]) := by
      show Rw _ _ _ _
      rw [HU1.out]
      exact Rw.row (cs := #[.slice none 0 0, .slice none 0 0, .slice none 0 0]) (by repeat (first | exact Rw.new _ _ _ (by first | rfl | (simp; done) | omega | (simp; omega)) | refine Rw.alloc ?_ _)) _
    have zU1 := bU1.size
    have zb1 := BB1.out.size
    have BU1 := Lib.hid (BB1.out.trans (bU1.mono zb1))
    have HE10 := Lib.hid (HE9.out.up bU1)
    have KK0 := Lib.hid (bcl bU1 hpb K0.out)
    have KK2 := Lib.hid (bcl bU1 hpb K2.out)
    have KK3 := Lib.hid (bcl bU1 hpb K3.out)
    clear HU1 bU1 BB1 HE9 K0 K2 K3
    go_wp2_with fail
    refine (relayV _).mono ?_
    rintro e r2 ⟨vp2, vc2, vs2, rfl, hS2, b2⟩
    have HS2 := Lib.hid hS2
    have HE11 := Lib.hid (HE10.out.up b2)
    have B2 := Lib.hid b2
    clear hS2 b2 HE10
    go_wp2_with fail
    refine (other7 _ _ _ _ _ _ (HE11.out.up ((Below.refl _ _).alloc (Nat.le_refl _) _)) (HS2.out.up ((Below.refl _ _).alloc (Nat.le_refl _) _)) (litP _ 14 _ rfl)).mono ?_
    rintro e u2 ⟨qb, qo, qcap, qa1, ql1, qc1, qa2, ql2, qc2, cb, co, cz, rfl, hqb, hcb, m6, m14, b2⟩
    have b2' : Below r2.heap.size r2 u2 := ((Below.refl _ _).alloc (Nat.le_refl _) _).trans (b2.mono (by simp))
    have hz2 := B2.out.size
    have BB2 := Lib.hid (B2.out.trans (b2'.mono hz2))
    have HE12 := Lib.hid (HE11.out.up b2')
    have M6 := Lib.hid m6
    have M14 := Lib.hid m14
    clear b2 b2' B2 HS2 HE11 m6 m14
    go_wp2_with (refine wpList_store_rowW rfl 26 (.tmp 7) (.tmp 33) rfl u2.heap.size #[.slice (some ⟨qb, qo, none⟩) 4 qcap, .slice qa1 ql1 qc1, .slice qa2 ql2 qc2] rfl rfl 26 #[.slice none 0 0, .slice none 0 0, .slice none 0 0] (by repeat (first | exact Rw.new _ _ _ (by first | rfl | (simp; done) | omega | (simp; omega)) | refine Rw.alloc ?_ _)) sizeSys rfl (by simp [Value.oneCell']) ?_)
    intro U2 HU2
    have bU2 : Below u2.heap.size u2 U2 := by rw [HU2.out]; exact below_row ((Below.refl _ _).alloc (Nat.le_refl _) _) (Nat.le_refl _) _
    have R7 : Hid (Rw U2 u2.heap.size 26 #[.slice (some ⟨qb, qo, none⟩) 4 qcap, .slice qa1 ql1 qc1, .slice qa2 ql2 qc2]) := by
      show Rw _ _ _ _
      rw [HU2.out]
      exact Rw.row (cs := #[.slice none 0 0, .slice none 0 0, .slice none 0 0]) (by repeat (first | exact Rw.new _ _ _ (by first | rfl | (simp; done) | omega | (simp; omega)) | refine Rw.alloc ?_ _)) _
    have zb2 := BB2.out.size
    have BU2 := Lib.hid (BB2.out.trans (bU2.mono zb2))
    have HE13 := Lib.hid (HE12.out.up bU2)
    have MM6 := Lib.hid (bcl bU2 hqb M6.out)
    have MM14 := Lib.hid (bcl bU2 hcb M14.out)
    have zU2 := bU2.size
    clear HU2 bU2 BB2 HE12 M6 M14
    go_wp2_with fail
    refine (relayV _).mono ?_
    rintro e r3 ⟨vp3, vc3, vs3, rfl, hS3, b3⟩
    have HS3 := Lib.hid hS3
    have HE14 := Lib.hid (HE13.out.up b3)
    have B3 := Lib.hid b3
    clear hS3 b3 HE13
    go_wp2_with fail
    refine (other7b _ _ _ _ _ _ (HE14.out.up ((Below.refl _ _).alloc (Nat.le_refl _) _)) (HS3.out.up ((Below.refl _ _).alloc (Nat.le_refl _) _)) (litP _ 12 _ rfl)).mono ?_
    rintro e u3 ⟨ra0, rl0, rc0, ra1, rl1, rc1, ra2, rl2, rc2, rfl, b3⟩
    have b3' : Below r3.heap.size r3 u3 := ((Below.refl _ _).alloc (Nat.le_refl _) _).trans (b3.mono (by simp))
    have hz3 := B3.out.size
    have BB3 := Lib.hid (B3.out.trans (b3'.mono hz3))
    clear b3 b3' B3 HS3 HE14
    go_wp2_with (refine wpList_store_rowW rfl 26 (.tmp 9) (.tmp 41) rfl u3.heap.size #[.slice ra0 rl0 rc0, .slice ra1 rl1 rc1, .slice ra2 rl2 rc2] rfl rfl 26 #[.slice none 0 0, .slice none 0 0, .slice none 0 0] (by repeat (first | exact Rw.new _ _ _ (by first | rfl | (simp; done) | omega | (simp; omega)) | refine Rw.alloc ?_ _)) sizeSys rfl (by simp [Value.oneCell']) ?_)
    intro U3 HU3
    have bU3 : Below u3.heap.size u3 U3 := by rw [HU3.out]; exact below_row ((Below.refl _ _).alloc (Nat.le_refl _) _) (Nat.le_refl _) _
    have zb3 := BB3.out.size
    have BU3 := Lib.hid (BB3.out.trans (bU3.mono zb3))
    have hr3 := RV.out.lt
    have hr5 := R5.out.lt
    have hr7 := R7.out.lt
    have ALL := Lib.hid (BU2.out.trans (BU3.out.mono BU2.out.size))
    have ALL1 := Lib.hid (BU1.out.trans (ALL.out.mono BU1.out.size))
    have RVf := Lib.hid (RV.out.up ALL1.out hr3)
    have R5f := Lib.hid (R5.out.up ALL.out hr5)
    have R7f := Lib.hid (R7.out.up BU3.out hr7)
    have SVf := Lib.hid (SV.out.up ALL1.out)
    have HDf := Lib.hid (HD7.out.trans (ALL1.out.mono HD7.out.size))
    have G0 := Lib.hid (bcl ALL.out (by omega) KK0.out)
    have G2 := Lib.hid (bcl ALL.out (by omega) KK2.out)
    have G3 := Lib.hid (bcl ALL.out (by omega) KK3.out)
    have G6 := Lib.hid (bcl BU3.out (by omega) MM6.out)
    have G14 := Lib.hid (bcl BU3.out (by omega) MM14.out)
    have v16 := RVf.out.cell (j := 16) (v := .slice ma 2 mc) rfl
    have v14 := RVf.out.cell (j := 14) (v := .slice oa 1 oc) rfl
    have zA := ALL.out.size
    have zC := BU3.out.size
    clear HU3 bU3 BB3 BU1 BU2 BU3 ALL ALL1 RV R5 R7 SV HD7 KK0 KK2 KK3 MM6 MM14
    go_wp2_with fail
    refine (sameInts_any [6] [6] _ _ _ (SVf.out.up ((Below.refl _ _).alloc (Nat.le_refl _) _)) (sl_one_at _ 6 _ 1 _ rfl (by omega)) (by decide) true (by simp)).mono ?_
    rintro e f1 ⟨rfl, b9⟩
    have b9' : Below U3.heap.size U3 f1 := ((Below.refl _ _).alloc (Nat.le_refl _) _).trans (b9.mono (by simp))
    have g50 := (R5f.out.up b9' R5f.out.lt).cell (j := 0) (v := .slice (some ⟨pb, po, none⟩) 4 pcap) rfl
    have g70 := (R7f.out.up b9' R7f.out.lt).cell (j := 0) (v := .slice (some ⟨qb, qo, none⟩) 4 qcap) rfl
    have g0 := bcl b9' (by omega) G0.out
    have g2 := bcl b9' (by omega) G2.out
    have gg3 := bcl b9' (by omega) G3.out
    have g6 := bcl b9' (by omega) G6.out
    have g14 := bcl b9' (by omega) G14.out
    have HDz := Lib.hid (HDf.out.trans (b9'.mono HDf.out.size))
    clear b9 b9' v16 v14 G0 G2 G3 G6 G14 RVf R5f R7f SVf HDf
    go_wp2
    go_ret
    exact ⟨rfl, HDz.out⟩
end Go.Proofs.YtehhhiodfcdnmaaGreatDoor

namespace Go.Proofs.YtehhhiodfcdnmaaGreatDoor
set_option linter.unusedSimpArgs false
set_option linter.unusedVariables false
open Go.RowKit Go.Sort
theorem loadRowG {P : Program} {ops : Array Oper} {rest : List Oper} {o : Oper} {a : Act} {w : World} {Q : Exit → Act → World → Prop} (hgd : Region.wanted o (yielded ops a.tmps) = true) (ty : TypeId) (x : Operand) (ho : o.op = .load ty x)
    (g : Nat) (hx : a.eval x = .pointer (some ⟨g, 0, none⟩)) (t : TypeId) (cs : Array Value) (fr : Nat × Nat) (d : TypeDesc) (hg : w.heap[g]? = some (.cells cs t fr))
    (hu : P.underlying ty = some d) (hd : (match d with | .struct _ | .array _ _ => true | _ => false) = true) (hi : (P.info? ty).map (·.size) = some cs.size)
    (h : wpList P ops Q rest (a.put o.dst (.agg cs)) w) : wpList P ops Q (o :: rest) a w :=
  BigFrame.wpList_want hgd fun _ hK => wp_load_row ty x ho g hx t cs fr d hg hu hd hi (hK _ _ h)
end Go.Proofs.YtehhhiodfcdnmaaGreatDoor

namespace Go.Proofs.YtehhhiodfcdnmaaGreatDoor
set_option linter.unusedSimpArgs false
set_option linter.unusedVariables false
open Go.RowKit Go.Sort
theorem Sl.drewN {w : World} {size : Nat} {v : Value} {m : Nat} {xs : List Value} (h : Sl w size v m xs) (n : Nat) : Sl (w.drewN n) size v m xs := h
theorem quiet_n {f : Nat} {args : Array Value} {w : World} {n x : Nat} {v : Value} (h : Calls Tryz.prog f args (w.drewN (n + x)) fun e w' => e = .returned v ∧ ∃ m, w' = (w.drewN (n + x)).drewN m) : Calls Tryz.prog f args (w.drewN (n + x)) fun e w'' => e = .returned v ∧ ∃ m, w'' = w.drewN (n + m) :=
  h.mono fun _ _ ⟨he, m, hm⟩ => ⟨he, x + m, by rw [hm, World.drewN_drewN, Nat.add_assoc]⟩
set_option maxHeartbeats 1000000 in
theorem sameInts_q (xs : List Int) (v u : Value) (w : World) (hx : Sl w 1 v xs.length (ints xs)) (hy : Sl w 1 u xs.length (ints xs)) (hm : xs.length < 4294967281) :
    Calls Tryz.prog 41 #[v, u] w fun e w' => e = .returned (.bool true) ∧ ∃ n, w' = w.drewN n := by
  obtain ⟨ax, cx, rfl⟩ := hx.form
  obtain ⟨ay, cy, rfl⟩ := hy.form
  have hl' : ((xs.length : Int) != (xs.length : Int)) = false := by simp
  have HX := Lib.hid hx
  have HY := Lib.hid hy
  clear hx hy
  go_enter Tryz.func41, Tryz.ntmps41
  go_wp2
  go_loopw [5] (fun i wr => ∃ k : Nat, i = .int .i64 k ∧ k ≤ xs.length ∧ ∃ n, wr = w.drewN n) (fun i _ => xs.length - (intOf i).toNat)
  case atStart => exact ⟨0, rfl, Nat.zero_le _, 0, rfl⟩
  case round =>
    obtain ⟨k, rfl, hk, n, rfl⟩ := hrel
    by_cases hlt : k < xs.length
    · obtain ⟨b, off, cap, e1, hcap, hbw, hc⟩ := HX.out.open (by omega)
      obtain ⟨b', off', cap', e2, hcap', hbw', hc'⟩ := HY.out.open (by omega)
      cases e1
      cases e2
      have c0 := hc k _ (ints_at xs k hlt)
      have c1 := hc' k _ (ints_at xs k hlt)
      have i1 : (0 : Int) ≤ k := by omega
      have i2 : (k : Int) < xs.length := by omega
      have hq' : (xs[k] != xs[k]) = false := by simp
      clear hc hc'
      go_wp2
      go_quiet (fail)
      all_goals go_wp2
      all_goals
        go_roundw
        case rel => exact ⟨k + 1, by go_num, by omega, _, rfl⟩
        case measure => simp [intOf]; omega
    · have hkc : ¬ (k : Int) < xs.length := by omega
      go_wp2
      go_ret
      exact ⟨rfl, n, rfl⟩
set_option maxHeartbeats 1000000 in
theorem sameCode_q (l : List Ins) (v u : Value) (w : World) (hx : Sl w 4 v l.length (codeC l)) (hy : Sl w 4 u l.length (codeC l)) (hm : l.length < 4294967281) :
    Calls Tryz.prog 53 #[v, u] w fun e w' => e = .returned (.bool true) ∧ ∃ n, w' = w.drewN n := by
  obtain ⟨ax, cx, rfl⟩ := hx.form
  obtain ⟨ay, cy, rfl⟩ := hy.form
  have hl' : ((l.length : Int) != (l.length : Int)) = false := by simp
  have HX := Lib.hid hx
  have HY := Lib.hid hy
  clear hx hy
  go_enter Tryz.func53, Tryz.ntmps53
  go_wp2
  go_loopw [5] (fun i wr => ∃ k : Nat, i = .int .i64 k ∧ k ≤ l.length ∧ ∃ n, wr = w.drewN n) (fun i _ => l.length - (intOf i).toNat)
  case atStart => exact ⟨0, rfl, Nat.zero_le _, 0, rfl⟩
  case round =>
    obtain ⟨k, rfl, hk, n, rfl⟩ := hrel
    by_cases hlt : k < l.length
    · obtain ⟨b, off, cap, e1, hcap, hbw, hc⟩ := HX.out.open (by omega)
      obtain ⟨b', off', cap', e2, hcap', hbw', hc'⟩ := HY.out.open (by omega)
      cases e1
      cases e2
      obtain ⟨c0, c1, c2, c3⟩ := code_cells hc k hlt
      obtain ⟨d0, d1, d2, d3⟩ := code_cells hc' k hlt
      have i1 : (0 : Int) ≤ k := by omega
      have i2 : (k : Int) < l.length := by omega
      have k1 : (l[k].op == l[k].op) = true := by simp
      have k2 : (l[k].a == l[k].a) = true := by simp
      have k3 : (l[k].b == l[k].b) = true := by simp
      have k4 : (l[k].n == l[k].n) = true := by simp
      clear hc hc'
      go_wp2
      go_quiet (fail)
      all_goals go_wp2
      all_goals
        go_roundw
        case rel => exact ⟨k + 1, by go_num, by omega, _, rfl⟩
        case measure => simp [intOf]; omega
    · have hkc : ¬ (k : Int) < l.length := by omega
      go_wp2
      go_ret
      exact ⟨rfl, n, rfl⟩
set_option maxRecDepth 100000 in
set_option maxHeartbeats 4000000 in
theorem sameSys_any (S : SysD) (hb4 : S.parts.length ≤ 1000) (hb6 : S.chans.length ≤ 1000) (hb7 : S.slots.length ≤ 1000) (hcl : ∀ j (hj : j < S.parts.length), S.parts[j].code.length ≤ 1000 ∧ S.parts[j].inn.length ≤ 1000) (vp vc vs up uc us : Value) (w : World) (hS : Sys w vp vc vs S) (hT : Sys w up uc us S) :
    Calls Tryz.prog 19 #[.agg #[vp, vc, vs], .agg #[up, uc, us]] w fun e w' => e = .returned (.bool true) ∧ Below w.heap.size w w' := by
  obtain ⟨pa, pc, rfl⟩ := hS.p.form
  obtain ⟨ca, cc, rfl⟩ := hS.c.form
  obtain ⟨sa, sc, rfl⟩ := hS.s.form
  obtain ⟨pa', pc', rfl⟩ := hT.p.form
  obtain ⟨ca', cc', rfl⟩ := hT.c.form
  obtain ⟨sa', sc', rfl⟩ := hT.s.form
  have n1 : ((S.parts.length : Int) != (S.parts.length : Int)) = false := by simp
  have n2 : ((S.chans.length : Int) != (S.chans.length : Int)) = false := by simp
  have n3 : ((S.slots.length : Int) != (S.slots.length : Int)) = false := by simp
  have hA := box_new w (.slice pa S.parts.length pc) (.slice ca S.chans.length cc) (.slice sa S.slots.length sc) 26 _ rfl
  have hA' := hA.up (w' := (w.alloc (.cells #[.slice pa S.parts.length pc, .slice ca S.chans.length cc, .slice sa S.slots.length sc] 26)).alloc (.cells #[.slice pa' S.parts.length pc', .slice ca' S.chans.length cc', .slice sa' S.slots.length sc'] 26)) ((Below.refl _ _).alloc (Nat.le_refl _) _)
  have hB := box_new (w.alloc (.cells #[.slice pa S.parts.length pc, .slice ca S.chans.length cc, .slice sa S.slots.length sc] 26)) (.slice pa' S.parts.length pc') (.slice ca' S.chans.length cc') (.slice sa' S.slots.length sc') 26 (w.heap.size + 1) (by simp)
  have hD : Below w.heap.size w ((w.alloc (.cells #[.slice pa S.parts.length pc, .slice ca S.chans.length cc, .slice sa S.slots.length sc] 26)).alloc (.cells #[.slice pa' S.parts.length pc', .slice ca' S.chans.length cc', .slice sa' S.slots.length sc'] 26)) := (by repeat (first | exact Below.refl _ _ | assumption | refine Below.drew ?_ | refine Below.alloc ?_ (by first | (simp; done) | (simp; omega)) _ | refine Below.setCell ?_ (by first | (simp; done) | (simp; omega)) _))
  have HS := Lib.hid (hS.up hD)
  have HT := Lib.hid (hT.up hD)
  have HCL := Lib.hid hcl
  clear hS hT hcl hA
  go_enter Tryz.func19, Tryz.ntmps19
  go_wp2
  generalize (w.alloc (.cells #[.slice pa S.parts.length pc, .slice ca S.chans.length cc, .slice sa S.slots.length sc] 26)).alloc (.cells #[.slice pa' S.parts.length pc', .slice ca' S.chans.length cc', .slice sa' S.slots.length sc'] 26) = W at *
  have HD := Lib.hid hD
  have a0 := hA'.p
  have a1 := hA'.c
  have a2 := hA'.s
  have b0 := hB.p
  have b1 := hB.c
  have b2 := hB.s
  clear hA' hB hD
  go_loopw [5] (fun i wr => ∃ k : Nat, i = .int .i64 k ∧ k ≤ S.parts.length ∧ ∃ n, wr = W.drewN n) (fun i _ => S.parts.length - (intOf i).toNat)
  case atStart => exact ⟨0, rfl, Nat.zero_le _, 0, rfl⟩
  case round =>
    obtain ⟨k, rfl, hk, n, rfl⟩ := hrel
    by_cases hlt : k < S.parts.length
    · have hli : (k : Int) < S.parts.length := by omega
      have h0 : (0 : Int) ≤ k := by omega
      obtain ⟨x1, y1, z1, e1, _, _, hpp⟩ := HS.out.p.open (by omega)
      obtain ⟨x2, y2, z2, e2, _, _, hqq⟩ := HT.out.p.open (by omega)
      cases e1
      cases e2
      obtain ⟨c, i, c0, c1, hpr⟩ := hpp k hlt
      obtain ⟨c', i', d0, d1, hqr⟩ := hqq k hlt
      obtain ⟨f1, g1, rfl⟩ := hpr.code.form
      obtain ⟨f2, g2, rfl⟩ := hpr.inn.form
      obtain ⟨f3, g3, rfl⟩ := hqr.code.form
      obtain ⟨f4, g4, rfl⟩ := hqr.inn.form
      have HPR := Lib.hid hpr
      have HQR := Lib.hid hqr
      have hl2 := HCL.out k hlt
      clear hpp hqq hpr hqr
      go_wp2
      go_quiet (first | (go_at_call 53; exact quiet_n (sameCode_q _ _ _ _ (HPR.out.code.drewN _) (HQR.out.code.drewN _) (by omega))) | (go_at_call 41; exact quiet_n (sameInts_q _ _ _ _ (HPR.out.inn.drewN _) (HQR.out.inn.drewN _) (by omega))))
      all_goals go_wp2
      all_goals
        go_roundw
        case rel => exact ⟨k + 1, by go_num, by omega, _, rfl⟩
        case measure => simp [intOf]; omega
    · have hli : ¬ (k : Int) < S.parts.length := by omega
      clear hlt hk
      go_wp2
      go_loopw [6] (fun i wr => ∃ k : Nat, i = .int .i64 k ∧ k ≤ S.chans.length ∧ ∃ n, wr = W.drewN n) (fun i _ => S.chans.length - (intOf i).toNat)
      case atStart => exact ⟨0, rfl, Nat.zero_le _, _, rfl⟩
      case round =>
        clear hli
        obtain ⟨k, rfl, hk, n, rfl⟩ := hrel
        by_cases hlt : k < S.chans.length
        · have hli : (k : Int) < S.chans.length := by omega
          have h0 : (0 : Int) ≤ k := by omega
          obtain ⟨x1, y1, z1, e1, _, _, hpp⟩ := HS.out.c.open (by omega)
          obtain ⟨x2, y2, z2, e2, _, _, hqq⟩ := HT.out.c.open (by omega)
          cases e1
          cases e2
          obtain ⟨c0, c1, c2⟩ := chan_cells hpp k hlt
          obtain ⟨d0, d1, d2⟩ := chan_cells hqq k hlt
          have q1 : (S.chans[k].kd == S.chans[k].kd) = true := by simp
          have q2 : (S.chans[k].fr == S.chans[k].fr) = true := by simp
          have q3 : (S.chans[k].tt == S.chans[k].tt) = true := by simp
          clear hpp hqq
          go_wp2
          go_quiet (fail)
          all_goals go_wp2
          all_goals
            go_roundw
            case rel => exact ⟨k + 1, by go_num, by omega, _, rfl⟩
            case measure => simp [intOf]; omega
        · have hli : ¬ (k : Int) < S.chans.length := by omega
          clear hlt hk
          go_wp2
          go_loopw [7] (fun i wr => ∃ k : Nat, i = .int .i64 k ∧ k ≤ S.slots.length ∧ ∃ n, wr = W.drewN n) (fun i _ => S.slots.length - (intOf i).toNat)
          case atStart => exact ⟨0, rfl, Nat.zero_le _, _, rfl⟩
          case round =>
            clear hli
            obtain ⟨k, rfl, hk, n, rfl⟩ := hrel
            by_cases hlt : k < S.slots.length
            · have hli : (k : Int) < S.slots.length := by omega
              have h0 : (0 : Int) ≤ k := by omega
              obtain ⟨x1, y1, z1, e1, _, _, hpp⟩ := HS.out.s.open (by omega)
              obtain ⟨x2, y2, z2, e2, _, _, hqq⟩ := HT.out.s.open (by omega)
              cases e1
              cases e2
              obtain ⟨c0, c1⟩ := slot_cells hpp k hlt
              obtain ⟨d0, d1⟩ := slot_cells hqq k hlt
              have q1 : (S.slots[k].pt == S.slots[k].pt) = true := by simp
              have q2 : (S.slots[k].tk == S.slots[k].tk) = true := by simp
              clear hpp hqq
              go_wp2
              go_quiet (fail)
              all_goals go_wp2
              all_goals
                go_roundw
                case rel => exact ⟨k + 1, by go_num, by omega, _, rfl⟩
                case measure => simp [intOf]; omega
            · have hli : ¬ (k : Int) < S.slots.length := by omega
              clear hlt hk
              go_wp2
              go_ret
              exact ⟨rfl, below_drewN HD.out _⟩
end Go.Proofs.YtehhhiodfcdnmaaGreatDoor

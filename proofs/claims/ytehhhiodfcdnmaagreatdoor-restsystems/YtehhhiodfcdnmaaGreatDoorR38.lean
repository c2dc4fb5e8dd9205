/- kernBegun: what must be in any case. -/
import Derived.Test.YtehhhiodfcdnmaaGreatDoorR32
import Derived.Test.YtehhhiodfcdnmaaGreatDoorR33
namespace Go.Proofs.YtehhhiodfcdnmaaGreatDoor
set_option linter.unusedSimpArgs false
set_option linter.unusedVariables false
set_option maxRecDepth 100000
set_option maxHeartbeats 16000000
open Go.RowKit Go.Sort
def wB : WldD := ⟨0, [⟨⟨0, 0, 0, 0, 0, 0, 0, 0, 0, 0, 0, 0, 0, 0, 0⟩, []⟩, ⟨⟨0, 0, 0, 0, 0, 0, 0, 0, 0, 0, 0, 0, 0, 0, 0⟩, []⟩, ⟨⟨0, 0, 0, 0, 0, 0, 0, 0, 0, 0, 0, 0, 0, 0, 0⟩, []⟩, ⟨⟨0, 0, 0, 0, 0, 0, 0, 0, 0, 0, 0, 0, 0, 0, 0⟩, []⟩], [[], []]⟩
def w12 : WldD := ⟨12, [⟨⟨2, 1, 0, 0, 0, 0, 0, 0, 0, 0, 0, 0, 0, 1, 1⟩, []⟩, ⟨⟨4, 6, 1, 0, 0, 0, 0, 0, 0, 0, 0, 0, 0, 0, 0⟩, [6]⟩, ⟨⟨3, 6, 1, 0, 0, 0, 0, 0, 0, 0, 0, 0, 0, 0, 1⟩, [6]⟩, ⟨⟨1, 0, 0, 0, 0, 0, 0, 0, 0, 0, 0, 0, 0, 0, 0⟩, [0]⟩], [[], [6]]⟩
def wX : WldD := ⟨1, [⟨⟨1, 6, 0, 0, 0, 0, 0, 0, 0, 0, 0, 0, 0, 1, 0⟩, []⟩, ⟨⟨0, 0, 0, 0, 0, 0, 0, 0, 0, 0, 0, 0, 0, 0, 0⟩, []⟩, ⟨⟨0, 0, 0, 0, 0, 0, 0, 0, 0, 0, 0, 0, 0, 0, 0⟩, []⟩, ⟨⟨0, 0, 0, 0, 0, 0, 0, 0, 0, 0, 0, 0, 0, 0, 0⟩, []⟩], [[], []]⟩
theorem relayB : beginR relayS = wB := by kernel_rfl
theorem relay12 : runR relayS 12 = w12 := by kernel_rfl
theorem relayX : stepR relayS wB = wX := by kernel_rfl
theorem relayE12 : runE relayS 12 = 0 := by kernel_rfl
theorem relayEX : stepW relayS wB = 0 := by kernel_rfl
theorem relayC : chkW relayS wB = 0 := by kernel_rfl
theorem relayC1 : chkW relayS wldZ = 1 := by kernel_rfl
theorem ent_relay : Enters 40 := enters Tryz.func40 kr kr
theorem ent_kStep : Enters 27 := enters Tryz.func27 kr kr
theorem ent_kCheck : Enters 30 := enters Tryz.func30 kr kr
theorem relay_s (w : World) : Calls Tryz.prog 40 #[] w fun e w' => ∃ vp vc vs, e = .returned (.agg #[vp, vc, vs]) ∧ Sys w' vp vc vs relayS ∧ Below w.heap.size w w' := by
 refine (relay_any w).mono ?_
 rintro e w' ⟨vp, vc, vs, h1, h2, h3⟩
 exact ⟨vp, vc, vs, h1, h2.sys, h3⟩
theorem kBegin_r (vp vc vs : Value) (w : World) (he : Env w) (hS : Sys w vp vc vs relayS) :
  Calls Tryz.prog 66 #[.agg #[vp, vc, vs]] w fun e w' => ∃ ca cc la lc, e = .returned (.tuple #[.agg #[.int .i64 0, .slice ca 4 cc, .slice la 2 lc], .int .i64 0]) ∧ WldF w.heap.size w' (.slice ca 4 cc) (.slice la 2 lc) wB ∧ Below w.heap.size w w' := by
 refine (kernBegin_any relayS vp vc vs w he hS 0 relay_chk wB relayB).mono ?_
 rintro e w' ⟨xc, xl, rfl, h2, h3⟩
 obtain ⟨ca, cc, rfl⟩ := h2.wld.c.form
 obtain ⟨la, lc, rfl⟩ := h2.wld.l.form
 exact ⟨ca, cc, la, lc, rfl, h2, h3⟩
theorem kRun_r (vp vc vs : Value) (w : World) (he : Env w) (hS : Sys w vp vc vs relayS) :
  Calls Tryz.prog 39 #[.agg #[vp, vc, vs], .int .i64 12] w fun e w' => ∃ ca cc la lc, e = .returned (.tuple #[.agg #[.int .i64 12, .slice ca 4 cc, .slice la 2 lc], .int .i64 0]) ∧ WldF w.heap.size w' (.slice ca 4 cc) (.slice la 2 lc) w12 ∧ Below w.heap.size w w' := by
 refine (kernRun_any relayS 12 vp vc vs w he hS 0 relayE12 w12 relay12).mono ?_
 rintro e w' ⟨xc, xl, rfl, h2, h3⟩
 obtain ⟨ca, cc, rfl⟩ := h2.wld.c.form
 obtain ⟨la, lc, rfl⟩ := h2.wld.l.form
 exact ⟨ca, cc, la, lc, rfl, h2, h3⟩
theorem kStep_r (vp vc vs uc ul : Value) (w : World) (he : Env w) (hS : Sys w vp vc vs relayS) (hW : Wld w uc ul wB) :
  Calls Tryz.prog 27 #[.agg #[vp, vc, vs], .agg #[.int .i64 0, uc, ul]] w fun e w' => ∃ ca cc la lc, e = .returned (.tuple #[.agg #[.int .i64 1, .slice ca 4 cc, .slice la 2 lc], .int .i64 0]) ∧ WldF w.heap.size w' (.slice ca 4 cc) (.slice la 2 lc) wX ∧ Below w.heap.size w w' := by
 refine (kernStep_any relayS wB vp vc vs uc ul w he hS hW 0 relayEX wX relayX).mono ?_
 rintro e w' ⟨xc, xl, rfl, h2, h3⟩
 obtain ⟨ca, cc, rfl⟩ := h2.wld.c.form
 obtain ⟨la, lc, rfl⟩ := h2.wld.l.form
 exact ⟨ca, cc, la, lc, rfl, h2, h3⟩
theorem kCheck_r (vp vc vs uc ul : Value) (w : World) (he : Env w) (hS : Sys w vp vc vs relayS) (hW : Wld w uc ul wB) :
  Calls Tryz.prog 30 #[.agg #[vp, vc, vs], .agg #[.int .i64 0, uc, ul]] w fun e w' => e = .returned (.int .i64 0) ∧ Below w.heap.size w w' := by
 have h := kernCheck_any relayS wB vp vc vs uc ul w he hS hW
 rw [relayC] at h
 exact h
theorem kCheck_z (vp vc vs : Value) (w : World) (he : Env w) (hS : Sys w vp vc vs relayS) :
  Calls Tryz.prog 30 #[.agg #[vp, vc, vs], .agg #[.int .i64 0, .slice none 0 0, .slice none 0 0]] w fun e w' => e = .returned (.int .i64 1) ∧ Below w.heap.size w w' := by
 have h := kernCheck_any relayS wldZ vp vc vs (.slice none 0 0) (.slice none 0 0) w he hS (WldF.nil 0 w).wld
 rw [relayC1] at h
 exact h
theorem cells12 {w : World} {ca : Option Addr} {cc : Nat} (h : CellsR w (.slice ca 4 cc) w12.cells) : ∃ b off a1 d1 a2 d2 a3 d3, ca = some ⟨b, off, none⟩ ∧ b < w.heap.size ∧ w.cell? ⟨b, off + 15, none⟩ = some (.int .i64 1) ∧ w.cell? ⟨b, off + 16 + 14, none⟩ = some (.slice a1 1 d1) ∧ w.cell? ⟨b, off + 32 + 14, none⟩ = some (.slice a2 1 d2) ∧ w.cell? ⟨b, off + 32 + 15, none⟩ = some (.int .i64 1) ∧ w.cell? ⟨b, off + 48 + 14, none⟩ = some (.slice a3 1 d3) ∧ Sl w 1 (.slice a1 1 d1) 1 (ints [6]) ∧ Sl w 1 (.slice a2 1 d2) 1 (ints [6]) ∧ Sl w 1 (.slice a3 1 d3) 1 (ints [0]) := by
 obtain ⟨b, off, cap, e, _, hb, hc⟩ := h.open (by decide)
 injection e with e _ _
 obtain ⟨a0, d0, r0, _⟩ := hc 0 (by decide)
 obtain ⟨a1, d1, r1, s1⟩ := hc 1 (by decide)
 obtain ⟨a2, d2, r2, s2⟩ := hc 2 (by decide)
 obtain ⟨a3, d3, r3, s3⟩ := hc 3 (by decide)
 exact ⟨b, off, a1, d1, a2, d2, a3, d3, e, hb, r0 15 _ rfl, r1 14 _ rfl, r2 14 _ rfl, r2 15 _ rfl, r3 14 _ rfl, s1, s2, s3⟩
theorem cellsX {w : World} {ca : Option Addr} {cc : Nat} (h : CellsR w (.slice ca 4 cc) wX.cells) : ∃ b off, ca = some ⟨b, off, none⟩ ∧ b < w.heap.size ∧ w.cell? ⟨b, off + 13, none⟩ = some (.int .i64 1) := by
 obtain ⟨b, off, cap, e, _, hb, hc⟩ := h.open (by decide)
 injection e with e _ _
 obtain ⟨a0, d0, r0, _⟩ := hc 0 (by decide)
 exact ⟨b, off, e, hb, r0 13 _ rfl⟩
theorem kernBegun_any (w : World) (he : Env w) : Calls Tryz.prog 24 #[] w fun e w' => e = .returned (.bool true) ∧ Below w.heap.size w w' := by
 have HE := hd he
 clear he
 go_enter Tryz.func24, Tryz.ntmps24
 go_wp2_with fail
 refine (relay_s _).mono ?_
 rintro e w1 ⟨vp, vc, vs, rfl, hS, b1⟩
 have HE1 := hd (HE.out.up b1)
 have HD1 := hd b1
 have HS := hd hS
 clear hS b1
 go_wp2_with fail
 refine (kBegin_r _ _ _ _ HE1.out HS.out).mono ?_
 rintro e w2 ⟨ca, cc, la, lc, rfl, hN, b2⟩
 have z1 := HD1.out.size
 have HE2 := hd (HE1.out.up b2)
 have HD2 := hd (HD1.out.trans (b2.mono z1))
 have HN := hd hN
 have z2 := b2.size
 clear b2 hN HS HE1 HD1
 go_wp2_with (refine wpList_store_rowW rfl 30 (.tmp 1) (.tmp 10) rfl w2.heap.size #[.int .i64 0, .slice ca 4 cc, .slice la 2 lc] rfl rfl 30 #[.int .i64 0, .slice none 0 0, .slice none 0 0] rn0 sizeWld rfl (world_one _ _ _ _ _ _ _) ?_)
 intro W3 HW3
 have b3 : Below w2.heap.size w2 W3 := by rw [HW3.out]; exact below_row ((Below.refl _ _).alloc (Nat.le_refl _) _) (Nat.le_refl _) _
 have RB : Hid (Rw W3 w2.heap.size 30 #[.int .i64 0, .slice ca 4 cc, .slice la 2 lc]) := by
  show Rw _ _ _ _
  rw [HW3.out]
  exact Rw.row (cs := #[.int .i64 0, .slice none 0 0, .slice none 0 0]) rn0 _
 have NB3 : Hid (Wld W3 (.slice ca 4 cc) (.slice la 2 lc) wB) := by
  show Wld _ _ _ _
  rw [HW3.out]
  exact (HN.out.fresh _ _).wld
 have z3 : w2.heap.size < W3.heap.size := RB.out.lt
 have HE3 := hd (HE2.out.up b3)
 have HD3 := hd (HD2.out.trans (b3.mono om))
 clear HW3 b3 HN HE2 HD2
 go_wp2_with fail
 refine (relay_s _).mono ?_
 rintro e w4 ⟨vp4, vc4, vs4, rfl, hS, b4⟩
 have HE4 := hd (HE3.out.up b4)
 have z4 := b4.size
 have HD4 := hd (HD3.out.trans (b4.mono om))
 have RB4 := hd (RB.out.up b4 om)
 have NB4 := hd (NB3.out.up b4)
 have HS := hd hS
 clear hS b4 RB NB3 HE3 HD3
 go_wp2_with fail
 refine (kRun_r _ _ _ _ HE4.out HS.out).mono ?_
 rintro e w5 ⟨ca5, cc5, la5, lc5, rfl, hN, b5⟩
 have z5 := b5.size
 have HE5 := hd (HE4.out.up b5)
 have HD5 := hd (HD4.out.trans (b5.mono om))
 have RB5 := hd (RB4.out.up b5 om)
 have NB5 := hd (NB4.out.up b5)
 have HN := hd hN
 clear b5 hN HS HE4 HD4 RB4 NB4
 go_wp2_with (refine wpList_store_rowW rfl 30 (.tmp 3) (.tmp 15) rfl w5.heap.size #[.int .i64 12, .slice ca5 4 cc5, .slice la5 2 lc5] rfl rfl 30 #[.int .i64 0, .slice none 0 0, .slice none 0 0] rn0 sizeWld rfl (world_one _ _ _ _ _ _ _) ?_)
 intro W6 HW6
 have b6 : Below w5.heap.size w5 W6 := by rw [HW6.out]; exact below_row ((Below.refl _ _).alloc (Nat.le_refl _) _) (Nat.le_refl _) _
 have RR6 : Hid (Rw W6 w5.heap.size 30 #[.int .i64 12, .slice ca5 4 cc5, .slice la5 2 lc5]) := by
  show Rw _ _ _ _
  rw [HW6.out]
  exact Rw.row (cs := #[.int .i64 0, .slice none 0 0, .slice none 0 0]) rn0 _
 have NR6 : Hid (Wld W6 (.slice ca5 4 cc5) (.slice la5 2 lc5) w12) := by
  show Wld _ _ _ _
  rw [HW6.out]
  exact (HN.out.fresh _ _).wld
 have z6 : w5.heap.size < W6.heap.size := RR6.out.lt
 have HE6 := hd (HE5.out.up b6)
 have HD6 := hd (HD5.out.trans (b6.mono om))
 have RB6 := hd (RB5.out.up b6 om)
 have NB6 := hd (NB5.out.up b6)
 clear HW6 b6 HN HE5 HD5 RB5 NB5
 go_upto_region 3 with fail
 go_cut [5, 6] from 17 to 22 (fun p5 p6 wd => ∃ g ca7 cc7 la7 lc7, p5 = .pointer (some ⟨g, 0, none⟩) ∧ p6 = .int .i64 0 ∧ Hid (Below W6.heap.size W6 wd) ∧ Hid (Rw wd g 30 #[.int .i64 1, .slice ca7 4 cc7, .slice la7 2 lc7]) ∧ Hid (Wld wd (.slice ca7 4 cc7) (.slice la7 2 lc7) wX))
 case first =>
  refine region_still (S := fun w' => Below W6.heap.size W6 w') 8 kr (Below.refl _ _).drew (fun hHeld => ?_)
  refine Still.y 1 [] rfl (yields_load rfl _ _ rfl _ ev _ (fun w' hSw => Rw.loadAt (RB6.out.up hSw om) Tryz.underlying30 rfl sizeWld)) hHeld ?_
  generalize World.drew _ = Y0 at hHeld ⊢
  have H0 := hd hHeld.size
  refine Still.all (rs := [0, 6]) kr (by simp) (Still.one (i := 0) rfl rfl (fun K hK => ?_) (Still.one (i := 6) rfl rfl (fun K hK => ?_) (by simp)))
  ·refine wp_call 40 _ _ rfl ent_relay #[] ev ((relay_s _).mono ?_)
   rintro e Y1 ⟨vp7, vc7, vs7, rfl, hS, bb⟩
   have z7 := bb.size
   refine ⟨_, rfl, hK _ _ (fun _ => hHeld.trans (bb.mono hHeld.size)) (fun hh => ?_)⟩
   have hHeld := hh (by decide)
   clear hK K hh
   try simp only [Act.put, l1, l2, l3, l4, l5, l6]
   have HS := hd hS
   clear hS bb
   have H1 := hd hHeld.size
   refine Still.all (rs := [2, 6]) kr (by simp) (Still.one (i := 2) rfl rfl (fun K hK => ?_) (Still.one (i := 6) rfl rfl (fun K hK => ?_) (by simp)))
   ·refine wp_call 27 _ _ rfl ent_kStep #[.agg #[vp7, vc7, vs7], .agg #[.int .i64 0, .slice ca 4 cc, .slice la 2 lc]] ev ((kStep_r _ _ _ _ _ _ (HE6.out.up hHeld) HS.out (NB6.out.up hHeld)).mono ?_)
    rintro e Y2 ⟨ca7, cc7, la7, lc7, rfl, hN, bb⟩
    have z8 := bb.size
    refine ⟨_, rfl, hK _ _ (fun _ => hHeld.trans (bb.mono hHeld.size)) (fun hh => ?_)⟩
    have hHeld := hh (by decide)
    clear hK K hh
    try simp only [Act.put, l1, l2, l3, l4, l5, l6]
    have HN := hd hN
    clear hN bb
    refine Still.t 3 [] hHeld ?_
    refine Still.t 4 [] hHeld ?_
    refine Still.t 5 [] hHeld ?_
    have H2 := hd hHeld.size
    refine Still.o 6 rfl rfl (fun K hK => ?_)
    go_simp
    refine hK _ _ (fun _ => Below.alloc hHeld hHeld.size _) (fun hh => ?_)
    have hHeld := hh (by decide)
    clear hK K hh
    try simp only [Act.put, l1, l2, l3, l4, l5, l6]
    have RA : Hid (Rw (Y2.alloc (.cells #[.int .i64 0, .slice none 0 0, .slice none 0 0] 30)) Y2.heap.size 30 #[.int .i64 0, .slice none 0 0, .slice none 0 0]) := Rw.new _ _ _ rfl
    have hya : W6.heap.size ≤ Y2.heap.size := by have := H2.out; exact this
    have H3 := hd hHeld.size
    refine Still.o 7 rfl rfl (fun K hK => ?_)
    refine wp_store_row 30 _ _ rfl Y2.heap.size #[.int .i64 1, .slice ca7 4 cc7, .slice la7 2 lc7] ev ev 30 #[.int .i64 0, .slice none 0 0, .slice none 0 0] RA.out sizeWld rfl (world_one _ _ _ _ _ _ _) ?_
    refine hK _ _ (fun _ => below_row hHeld om _) (fun hh => ?_)
    have hHeld := hh (by decide)
    clear hK K hh
    try simp only [Act.put, l1, l2, l3, l4, l5, l6]
    refine Still.o 8 rfl rfl (fun K hK => ?_)
    go_simp
    refine hK _ _ ab (fun _ => Still.vv ?_)
    clear hK K
    go_wp2
    go_meet
    exact ⟨_, ca7, cc7, la7, lc7, rfl, rfl, hHeld, RA.out.row _, (HN.out.fresh _ _).wld⟩
   ·go_simp
    refine hK _ _ (fun _ => Below.alloc hHeld hHeld.size _) (fun hh => ?_)
    have hHeld := hh (by decide)
    clear hK K hh
    try simp only [Act.put, l1, l2, l3, l4, l5, l6]
    have RA : Hid (Rw (Y1.alloc (.cells #[.int .i64 0, .slice none 0 0, .slice none 0 0] 30)) Y1.heap.size 30 #[.int .i64 0, .slice none 0 0, .slice none 0 0]) := Rw.new _ _ _ rfl
    have hya : W6.heap.size ≤ Y1.heap.size := by have := H1.out; exact this
    have hs := HS.out.up ((Below.refl _ _).alloc (Nat.le_refl _) (.cells #[.int .i64 0, .slice none 0 0, .slice none 0 0] 30))
    clear HS
    have HS := hd hs
    clear hs
    generalize hWg : World.alloc _ _ = Y2 at hHeld RA HS ⊢
    have hlq : Y1.heap.size < Y2.heap.size := RA.out.lt
    clear hWg
    have H2 := hd hHeld.size
    refine Still.o 2 rfl rfl (fun K hK => ?_)
    refine wp_call 27 _ _ rfl ent_kStep #[.agg #[vp7, vc7, vs7], .agg #[.int .i64 0, .slice ca 4 cc, .slice la 2 lc]] ev ((kStep_r _ _ _ _ _ _ (HE6.out.up hHeld) HS.out (NB6.out.up hHeld)).mono ?_)
    rintro e Y3 ⟨ca7, cc7, la7, lc7, rfl, hN, bb⟩
    have z8 := bb.size
    refine ⟨_, rfl, hK _ _ (fun _ => hHeld.trans (bb.mono hHeld.size)) (fun hh => ?_)⟩
    have hHeld := hh (by decide)
    clear hK K hh
    try simp only [Act.put, l1, l2, l3, l4, l5, l6]
    have hla := RA.out.lt
    have ra := RA.out.up bb RA.out.lt
    clear RA
    have RA := hd ra
    clear ra
    have HN := hd hN
    clear hN bb
    refine Still.t 3 [] hHeld ?_
    refine Still.t 4 [] hHeld ?_
    refine Still.t 5 [] hHeld ?_
    have H3 := hd hHeld.size
    refine Still.o 7 rfl rfl (fun K hK => ?_)
    refine wp_store_row 30 _ _ rfl Y1.heap.size #[.int .i64 1, .slice ca7 4 cc7, .slice la7 2 lc7] ev ev 30 #[.int .i64 0, .slice none 0 0, .slice none 0 0] RA.out sizeWld rfl (world_one _ _ _ _ _ _ _) ?_
    refine hK _ _ (fun _ => below_row hHeld om _) (fun hh => ?_)
    have hHeld := hh (by decide)
    clear hK K hh
    try simp only [Act.put, l1, l2, l3, l4, l5, l6]
    refine Still.o 8 rfl rfl (fun K hK => ?_)
    go_simp
    refine hK _ _ ab (fun _ => Still.vv ?_)
    clear hK K
    go_wp2
    go_meet
    exact ⟨_, ca7, cc7, la7, lc7, rfl, rfl, hHeld, RA.out.row _, (HN.out.row om _).wld⟩
  ·go_simp
   refine hK _ _ (fun _ => Below.alloc hHeld hHeld.size _) (fun hh => ?_)
   have hHeld := hh (by decide)
   clear hK K hh
   try simp only [Act.put, l1, l2, l3, l4, l5, l6]
   have RA : Hid (Rw (Y0.alloc (.cells #[.int .i64 0, .slice none 0 0, .slice none 0 0] 30)) Y0.heap.size 30 #[.int .i64 0, .slice none 0 0, .slice none 0 0]) := Rw.new _ _ _ rfl
   have hya : W6.heap.size ≤ Y0.heap.size := by have := H0.out; exact this
   generalize hWg : World.alloc _ _ = Y1 at hHeld RA ⊢
   have hlq : Y0.heap.size < Y1.heap.size := RA.out.lt
   clear hWg
   have H1 := hd hHeld.size
   refine Still.o 0 rfl rfl (fun K hK => ?_)
   refine wp_call 40 _ _ rfl ent_relay #[] ev ((relay_s _).mono ?_)
   rintro e Y2 ⟨vp7, vc7, vs7, rfl, hS, bb⟩
   have z7 := bb.size
   refine ⟨_, rfl, hK _ _ (fun _ => hHeld.trans (bb.mono hHeld.size)) (fun hh => ?_)⟩
   have hHeld := hh (by decide)
   clear hK K hh
   try simp only [Act.put, l1, l2, l3, l4, l5, l6]
   have HS := hd hS
   have ra := RA.out.up bb RA.out.lt
   clear RA
   have RA := hd ra
   clear ra
   clear hS bb
   have H2 := hd hHeld.size
   refine Still.o 2 rfl rfl (fun K hK => ?_)
   refine wp_call 27 _ _ rfl ent_kStep #[.agg #[vp7, vc7, vs7], .agg #[.int .i64 0, .slice ca 4 cc, .slice la 2 lc]] ev ((kStep_r _ _ _ _ _ _ (HE6.out.up hHeld) HS.out (NB6.out.up hHeld)).mono ?_)
   rintro e Y3 ⟨ca7, cc7, la7, lc7, rfl, hN, bb⟩
   have z8 := bb.size
   refine ⟨_, rfl, hK _ _ (fun _ => hHeld.trans (bb.mono hHeld.size)) (fun hh => ?_)⟩
   have hHeld := hh (by decide)
   clear hK K hh
   try simp only [Act.put, l1, l2, l3, l4, l5, l6]
   have hla := RA.out.lt
   have ra := RA.out.up bb RA.out.lt
   clear RA
   have RA := hd ra
   clear ra
   have HN := hd hN
   clear hN bb
   refine Still.t 3 [] hHeld ?_
   refine Still.t 4 [] hHeld ?_
   refine Still.t 5 [] hHeld ?_
   have H3 := hd hHeld.size
   refine Still.o 7 rfl rfl (fun K hK => ?_)
   refine wp_store_row 30 _ _ rfl Y0.heap.size #[.int .i64 1, .slice ca7 4 cc7, .slice la7 2 lc7] ev ev 30 #[.int .i64 0, .slice none 0 0, .slice none 0 0] RA.out sizeWld rfl (world_one _ _ _ _ _ _ _) ?_
   refine hK _ _ (fun _ => below_row hHeld om _) (fun hh => ?_)
   have hHeld := hh (by decide)
   clear hK K hh
   try simp only [Act.put, l1, l2, l3, l4, l5, l6]
   refine Still.o 8 rfl rfl (fun K hK => ?_)
   go_simp
   refine hK _ _ ab (fun _ => Still.vv ?_)
   clear hK K
   go_wp2
   go_meet
   exact ⟨_, ca7, cc7, la7, lc7, rfl, rfl, hHeld, RA.out.row _, (HN.out.row om _).wld⟩
 case rest =>
  obtain ⟨g7, ca7, cc7, la7, lc7, rfl, rfl, HB7, RX, NX⟩ := hcut
  have z7 := HB7.out.size
  have HE7 := hd (HE6.out.up HB7.out)
  have HD7 := hd (HD6.out.trans (HB7.out.mono om))
  have RB7 := hd (RB6.out.up HB7.out om)
  have NB7 := hd (NB6.out.up HB7.out)
  have RR7 := hd (RR6.out.up HB7.out om)
  have NR7 := NR6.out.up HB7.out
  obtain ⟨b, off, a1, d1, a2, d2, a3, d3, rfl, hb, c0, c1, c2, c2e, c3, s1, s2, s3⟩ := cells12 NR7.c
  obtain ⟨xb, xo, rfl, hxb, x0⟩ := cellsX NX.out.c
  have C0 := hd c0
  have C1 := hd c1
  have C2 := hd c2
  have C2E := hd c2e
  have C3 := hd c3
  have S1 := hd s1
  have S2 := hd s2
  have S3 := hd s3
  have X0 := hd x0
  clear c0 c1 c2 c2e c3 s1 s2 s3 x0 NR7 NR6 RR6 NB6 RB6 HD6 HE6 HB7 NX
  go_upto_region 4 with fail
  refine region_still (S := fun w' => Below wc.heap.size wc w') 84 kr (Below.refl _ _).drew (fun hHeld => ?_)
  refine Still.y 1 [] rfl (yields_load rfl _ _ rfl _ ev _ (fun w' hSw => Rw.loadAt (RB7.out.up hSw om) Tryz.underlying30 rfl sizeWld)) hHeld ?_
  refine Still.o 0 rfl rfl (fun K hK => ?_)
  refine wp_call 40 _ _ rfl ent_relay #[] ev ((relay_s _).mono ?_)
  rintro e V ⟨vp8, vc8, vs8, rfl, hS, bb⟩
  refine ⟨_, rfl, hK _ _ (fun _ => hHeld.trans (bb.mono hHeld.size)) (fun hh => ?_)⟩
  have hHeld := hh (by decide)
  clear hK K hh
  try simp only [Act.put, l1, l2, l3, l4, l5, l6]
  have HS := hd hS
  clear hS bb
  refine Still.o 2 rfl rfl (fun K hK => ?_)
  refine wp_call 30 _ _ rfl ent_kCheck #[.agg #[vp8, vc8, vs8], .agg #[.int .i64 0, .slice ca 4 cc, .slice la 2 lc]] ev ((kCheck_r _ _ _ _ _ _ (HE7.out.up hHeld) HS.out (NB7.out.up hHeld)).mono ?_)
  rintro e V ⟨rfl, bb⟩
  refine ⟨_, rfl, hK _ _ (fun _ => hHeld.trans (bb.mono hHeld.size)) (fun hh => ?_)⟩
  have hHeld := hh (by decide)
  clear hK K hh
  try simp only [Act.put, l1, l2, l3, l4, l5, l6]
  clear bb HS
  refine Still.t 3 [] hHeld ?_
  refine Still.t 4 [] hHeld ?_
  refine Still.t 6 [] hHeld ?_
  refine Still.all (rs := [5]) kr (by simp) (Still.oneG (i := 5) rfl kr (fun K hK => ?_) (by simp))
  refine wp_call 40 _ _ rfl ent_relay #[] ev ((relay_s _).mono ?_)
  rintro e V ⟨vp8, vc8, vs8, rfl, hS, bb⟩
  refine ⟨_, rfl, hK _ _ (fun _ => hHeld.trans (bb.mono hHeld.size)) (fun hh => ?_)⟩
  have hHeld := hh (by decide)
  clear hK K hh
  try simp only [Act.put, l1, l2, l3, l4, l5, l6]
  have HS := hd hS
  clear hS bb
  refine Still.all (rs := [7]) kr (by simp) (Still.oneG (i := 7) rfl kr (fun K hK => ?_) (by simp))
  refine wp_call 30 _ _ rfl ent_kCheck #[.agg #[vp8, vc8, vs8], .agg #[.int .i64 0, .slice none 0 0, .slice none 0 0]] ev ((kCheck_z _ _ _ _ (HE7.out.up hHeld) HS.out).mono ?_)
  rintro e V ⟨rfl, bb⟩
  refine ⟨_, rfl, hK _ _ (fun _ => hHeld.trans (bb.mono hHeld.size)) (fun hh => ?_)⟩
  have hHeld := hh (by decide)
  clear hK K hh
  try simp only [Act.put, l1, l2, l3, l4, l5, l6]
  clear bb HS
  refine Still.t 8 [] hHeld ?_
  refine Still.t 9 [] hHeld ?_
  refine Still.t 10 [] hHeld ?_
  refine Still.t 11 [] hHeld ?_
  refine Still.t 12 [] hHeld ?_
  refine Still.t 13 [] hHeld ?_
  refine Still.t 14 [] hHeld ?_
  refine Still.t 15 [] hHeld ?_
  refine Still.t 16 [] hHeld ?_
  refine Still.t 17 [] hHeld ?_
  refine Still.t 18 [] hHeld ?_
  refine Still.t 19 [] hHeld ?_
  refine Still.t 20 [] hHeld ?_
  refine Still.t 21 [] hHeld ?_
  refine Still.t 22 [] hHeld ?_
  have hq := fun w' (hSw : (fun w' => Below wc.heap.size wc w') w') => (RR7.out.up hSw RR7.out.lt).cell (j := 1) (v := .slice (some ⟨b, off, none⟩) 4 cc5) rfl
  refine Still.u 23 [] hHeld hq ?_
  refine Still.u 24 [] hHeld hq ?_
  refine Still.u 25 [] hHeld hq ?_
  refine Still.u 26 [] hHeld hq ?_
  refine Still.u 27 [] hHeld hq ?_
  refine Still.u 28 [] hHeld hq ?_
  have hq := fun w' (hSw : (fun w' => Below wc.heap.size wc w') w') => And.intro ((RR7.out.up hSw RR7.out.lt).cell (j := 1) (v := .slice (some ⟨b, off, none⟩) 4 cc5) rfl) (bcl hSw hb C0.out)
  refine Still.u 29 [] hHeld hq ?_
  refine Still.u 30 [] hHeld hq ?_
  refine Still.u 31 [] hHeld hq ?_
  refine Still.u 32 [] hHeld hq ?_
  refine Still.u 33 [] hHeld hq ?_
  refine Still.u 34 [] hHeld hq ?_
  refine Still.u 35 [] hHeld hq ?_
  refine Still.u 36 [] hHeld hq ?_
  have hq := fun w' (hSw : (fun w' => Below wc.heap.size wc w') w') => And.intro ((RR7.out.up hSw RR7.out.lt).cell (j := 1) (v := .slice (some ⟨b, off, none⟩) 4 cc5) rfl) (bcl hSw hb C1.out)
  refine Still.u 37 [] hHeld hq ?_
  refine Still.u 38 [] hHeld hq ?_
  refine Still.u 39 [] hHeld hq ?_
  refine Still.u 40 [] hHeld hq ?_
  refine Still.u 41 [] hHeld hq ?_
  refine Still.all (rs := [42]) kr (by simp) (Still.oneG (i := 42) rfl kr (fun K hK => ?_) (by simp))
  go_simp
  refine hK _ _ (fun _ => Below.alloc hHeld hHeld.size _) (fun hh => ?_)
  have hHeld0 := hHeld
  have hHeld := hh (by decide)
  clear hK K hh
  try simp only [Act.put, l1, l2, l3, l4, l5, l6]
  refine Still.all (rs := [43]) kr (by simp) (Still.oneG (i := 43) rfl kr (fun K hK => ?_) (by simp))
  refine wp_call 41 _ _ rfl ent_sameInts #[.slice a1 1 d1, .slice (some ⟨_, 0, none⟩) 1 1] ev ((sameInts_yes [6] _ _ _ (S1.out.up hHeld) (lit_sl _ [.int .i64 6] _ _ 1 1 rfl rfl) (by decide)).mono ?_)
  rintro e V ⟨rfl, bb⟩
  refine ⟨_, rfl, hK _ _ (fun _ => hHeld.trans (bb.mono hHeld.size)) (fun hh => ?_)⟩
  have hHeld := hh (by decide)
  clear hK K hh hHeld0
  try simp only [Act.put, l1, l2, l3, l4, l5, l6]
  clear bb
  refine Still.t 44 [] hHeld ?_
  refine Still.t 45 [] hHeld ?_
  have hq := fun w' (hSw : (fun w' => Below wc.heap.size wc w') w') => And.intro ((RR7.out.up hSw RR7.out.lt).cell (j := 1) (v := .slice (some ⟨b, off, none⟩) 4 cc5) rfl) (bcl hSw hb C2.out)
  refine Still.u 46 [] hHeld hq ?_
  refine Still.u 47 [] hHeld hq ?_
  refine Still.u 48 [] hHeld hq ?_
  refine Still.u 49 [] hHeld hq ?_
  refine Still.u 50 [] hHeld hq ?_
  refine Still.all (rs := [51]) kr (by simp) (Still.oneG (i := 51) rfl kr (fun K hK => ?_) (by simp))
  go_simp
  refine hK _ _ (fun _ => Below.alloc hHeld hHeld.size _) (fun hh => ?_)
  have hHeld0 := hHeld
  have hHeld := hh (by decide)
  clear hK K hh
  try simp only [Act.put, l1, l2, l3, l4, l5, l6]
  refine Still.all (rs := [52]) kr (by simp) (Still.oneG (i := 52) rfl kr (fun K hK => ?_) (by simp))
  refine wp_call 41 _ _ rfl ent_sameInts #[.slice a2 1 d2, .slice (some ⟨_, 0, none⟩) 1 1] ev ((sameInts_yes [6] _ _ _ (S2.out.up hHeld) (lit_sl _ [.int .i64 6] _ _ 1 1 rfl rfl) (by decide)).mono ?_)
  rintro e V ⟨rfl, bb⟩
  refine ⟨_, rfl, hK _ _ (fun _ => hHeld.trans (bb.mono hHeld.size)) (fun hh => ?_)⟩
  have hHeld := hh (by decide)
  clear hK K hh hHeld0
  try simp only [Act.put, l1, l2, l3, l4, l5, l6]
  clear bb
  refine Still.t 53 [] hHeld ?_
  refine Still.t 54 [] hHeld ?_
  have hq := fun w' (hSw : (fun w' => Below wc.heap.size wc w') w') => And.intro ((RR7.out.up hSw RR7.out.lt).cell (j := 1) (v := .slice (some ⟨b, off, none⟩) 4 cc5) rfl) (bcl hSw hb C2E.out)
  refine Still.u 55 [] hHeld hq ?_
  refine Still.u 56 [] hHeld hq ?_
  refine Still.u 57 [] hHeld hq ?_
  refine Still.u 58 [] hHeld hq ?_
  refine Still.u 59 [] hHeld hq ?_
  refine Still.u 60 [] hHeld hq ?_
  refine Still.u 61 [] hHeld hq ?_
  refine Still.u 62 [] hHeld hq ?_
  have hq := fun w' (hSw : (fun w' => Below wc.heap.size wc w') w') => And.intro ((RR7.out.up hSw RR7.out.lt).cell (j := 1) (v := .slice (some ⟨b, off, none⟩) 4 cc5) rfl) (bcl hSw hb C3.out)
  refine Still.u 63 [] hHeld hq ?_
  refine Still.u 64 [] hHeld hq ?_
  refine Still.u 65 [] hHeld hq ?_
  refine Still.u 66 [] hHeld hq ?_
  refine Still.u 67 [] hHeld hq ?_
  refine Still.all (rs := [68]) kr (by simp) (Still.oneG (i := 68) rfl kr (fun K hK => ?_) (by simp))
  go_simp
  refine hK _ _ (fun _ => Below.alloc hHeld hHeld.size _) (fun hh => ?_)
  have hHeld0 := hHeld
  have hHeld := hh (by decide)
  clear hK K hh
  try simp only [Act.put, l1, l2, l3, l4, l5, l6]
  refine Still.all (rs := [69]) kr (by simp) (Still.oneG (i := 69) rfl kr (fun K hK => ?_) (by simp))
  refine wp_call 41 _ _ rfl ent_sameInts #[.slice a3 1 d3, .slice (some ⟨_, 0, none⟩) 1 1] ev ((sameInts_yes [0] _ _ _ (S3.out.up hHeld) (lit_sl _ [.int .i64 0] _ _ 1 1 rfl rfl) (by decide)).mono ?_)
  rintro e V ⟨rfl, bb⟩
  refine ⟨_, rfl, hK _ _ (fun _ => hHeld.trans (bb.mono hHeld.size)) (fun hh => ?_)⟩
  have hHeld := hh (by decide)
  clear hK K hh hHeld0
  try simp only [Act.put, l1, l2, l3, l4, l5, l6]
  clear bb
  refine Still.t 70 [] hHeld ?_
  refine Still.t 71 [] hHeld ?_
  have hq := fun w' (hSw : (fun w' => Below wc.heap.size wc w') w') => And.intro ((RX.out.up hSw RX.out.lt).cell (j := 1) (v := .slice (some ⟨xb, xo, none⟩) 4 cc7) rfl) (And.intro ((RX.out.up hSw RX.out.lt).cell (j := 0) (v := .int .i64 1) rfl) (bcl hSw hxb X0.out))
  refine Still.u 72 [] hHeld hq ?_
  refine Still.u 73 [] hHeld hq ?_
  refine Still.u 74 [] hHeld hq ?_
  refine Still.u 75 [] hHeld hq ?_
  refine Still.u 76 [] hHeld hq ?_
  refine Still.u 77 [] hHeld hq ?_
  refine Still.u 78 [] hHeld hq ?_
  refine Still.u 79 [] hHeld hq ?_
  refine Still.u 80 [] hHeld hq ?_
  refine Still.u 81 [] hHeld hq ?_
  refine Still.u 82 [] hHeld hq ?_
  refine Still.u 83 [] hHeld hq ?_
  refine Still.o 84 rfl rfl (fun K hK => ?_)
  go_simp
  refine hK _ _ ab (fun _ => Still.vv ?_)
  clear hK K
  go_wp2
  go_ret
  exact ⟨rfl, HD7.out.trans (hHeld.mono HD7.out.size)⟩
end Go.Proofs.YtehhhiodfcdnmaaGreatDoor

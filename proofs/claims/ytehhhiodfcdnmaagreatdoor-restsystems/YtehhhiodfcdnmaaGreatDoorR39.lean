/- kernBegun, walked. -/
import Derived.Test.YtehhhiodfcdnmaaGreatDoorR38
namespace Go.Proofs.YtehhhiodfcdnmaaGreatDoor
set_option linter.unusedSimpArgs false
set_option linter.unusedVariables false
set_option maxRecDepth 100000
set_option maxHeartbeats 16000000
open Go.RowKit Go.Sort
theorem kernBegun_any (w : World) (he : Env w) : Calls Tryz.prog 24 #[] w fun e w' => e = .returned (.bool true) ∧ Below w.heap.size w w' := by
 have HE := hd he
 clear he
 go_enter Tryz.func24, Tryz.ntmps24
 go_wp2_with fail
 refine (relay_s _).mono ?_
 rintro e w1 ⟨vp, vc, vs, rfl, hS, b1⟩
 have HE1 := hd (HE.out.up b1)
 have HD1 := hd b1
 have HS := hd hS
 clear hS b1
 go_wp2_with fail
 refine (kBegin_r _ _ _ _ HE1.out HS.out).mono ?_
 rintro e w2 ⟨ca, cc, la, lc, rfl, hN, b2⟩
 have z1 := HD1.out.size
 have HE2 := hd (HE1.out.up b2)
 have HD2 := hd (HD1.out.trans (b2.mono z1))
 have HN := hd hN
 have z2 := b2.size
 clear b2 hN HS HE1 HD1
 go_wp2_with (refine wpList_store_rowW rfl 30 (.tmp 1) (.tmp 10) rfl w2.heap.size #[.int .i64 0, .slice ca 4 cc, .slice la 2 lc] rfl rfl 30 #[.int .i64 0, .slice none 0 0, .slice none 0 0] rn0 sizeWld rfl (world_one _ _ _ _ _ _ _) ?_)
 intro W3 HW3
 have b3 : Below w2.heap.size w2 W3 := by rw [HW3.out]; exact below_row ((Below.refl _ _).alloc (Nat.le_refl _) _) (Nat.le_refl _) _
 have RB : Hid (Rw W3 w2.heap.size 30 #[.int .i64 0, .slice ca 4 cc, .slice la 2 lc]) := by
  show Rw _ _ _ _
  rw [HW3.out]
  exact Rw.row (cs := #[.int .i64 0, .slice none 0 0, .slice none 0 0]) rn0 _
 have NB3 : Hid (Wld W3 (.slice ca 4 cc) (.slice la 2 lc) wB) := by
  show Wld _ _ _ _
  rw [HW3.out]
  exact (HN.out.fresh _ _).wld
 have z3 : w2.heap.size < W3.heap.size := RB.out.lt
 have HE3 := hd (HE2.out.up b3)
 have HD3 := hd (HD2.out.trans (b3.mono om))
 clear HW3 b3 HN HE2 HD2
 go_wp2_with fail
 refine (relay_s _).mono ?_
 rintro e w4 ⟨vp4, vc4, vs4, rfl, hS, b4⟩
 have HE4 := hd (HE3.out.up b4)
 have z4 := b4.size
 have HD4 := hd (HD3.out.trans (b4.mono om))
 have RB4 := hd (RB.out.up b4 om)
 have NB4 := hd (NB3.out.up b4)
 have HS := hd hS
 clear hS b4 RB NB3 HE3 HD3
 go_wp2_with fail
 refine (kRun_r _ _ _ _ HE4.out HS.out).mono ?_
 rintro e w5 ⟨ca5, cc5, la5, lc5, rfl, hN, b5⟩
 have z5 := b5.size
 have HE5 := hd (HE4.out.up b5)
 have HD5 := hd (HD4.out.trans (b5.mono om))
 have RB5 := hd (RB4.out.up b5 om)
 have NB5 := hd (NB4.out.up b5)
 have HN := hd hN
 clear b5 hN HS HE4 HD4 RB4 NB4
 go_wp2_with (refine wpList_store_rowW rfl 30 (.tmp 3) (.tmp 15) rfl w5.heap.size #[.int .i64 12, .slice ca5 4 cc5, .slice la5 2 lc5] rfl rfl 30 #[.int .i64 0, .slice none 0 0, .slice none 0 0] rn0 sizeWld rfl (world_one _ _ _ _ _ _ _) ?_)
 intro W6 HW6
 have b6 : Below w5.heap.size w5 W6 := by rw [HW6.out]; exact below_row ((Below.refl _ _).alloc (Nat.le_refl _) _) (Nat.le_refl _) _
 have RR6 : Hid (Rw W6 w5.heap.size 30 #[.int .i64 12, .slice ca5 4 cc5, .slice la5 2 lc5]) := by
  show Rw _ _ _ _
  rw [HW6.out]
  exact Rw.row (cs := #[.int .i64 0, .slice none 0 0, .slice none 0 0]) rn0 _
 have NR6 : Hid (Wld W6 (.slice ca5 4 cc5) (.slice la5 2 lc5) w12) := by
  show Wld _ _ _ _
  rw [HW6.out]
  exact (HN.out.fresh _ _).wld
 have z6 : w5.heap.size < W6.heap.size := RR6.out.lt
 have HE6 := hd (HE5.out.up b6)
 have HD6 := hd (HD5.out.trans (b6.mono om))
 have RB6 := hd (RB5.out.up b6 om)
 have NB6 := hd (NB5.out.up b6)
 clear HW6 b6 HN HE5 HD5 RB5 NB5
 go_upto_region 3 with fail
 go_cut [5, 6] from 17 to 22 (fun p5 p6 wd => ∃ g ca7 cc7 la7 lc7, p5 = .pointer (some ⟨g, 0, none⟩) ∧ p6 = .int .i64 0 ∧ Hid (Below W6.heap.size W6 wd) ∧ Hid (Rw wd g 30 #[.int .i64 1, .slice ca7 4 cc7, .slice la7 2 lc7]) ∧ Hid (Wld wd (.slice ca7 4 cc7) (.slice la7 2 lc7) wX))
 case first =>
  refine region_still (S := fun w' => Below W6.heap.size W6 w') 8 kr (Below.refl _ _).drew (fun hHeld => ?_)
  refine Still.takeBy (i := 1) [] kr kr rfl kr kr kr (fun _ _ _ h => h) (yields_load rfl _ _ rfl _ ev _ (fun w' hSw => Rw.loadAt (RB6.out.up hSw om) Tryz.underlying30 rfl sizeWld)) hHeld ?r151
  simp only [Act.put, l1, l2, l3, l4, l5, l6]
  generalize World.drew _ = Y0 at hHeld ⊢
  have H0 := hd hHeld.size
  refine Still.all (rs := [0, 6]) kr (by simp) (Still.one (i := 0) rfl rfl (fun K hK => ?_) (Still.one (i := 6) rfl rfl (fun K hK => ?_) (by simp)))
  ·refine wp_call 40 _ _ rfl ent_relay #[] ev ((relay_s _).mono ?_)
   rintro e Y1 ⟨vp7, vc7, vs7, rfl, hS, bb⟩
   have z7 := bb.size
   refine ⟨_, rfl, hK _ _ (fun _ => hHeld.trans (bb.mono hHeld.size)) (fun hh => ?_)⟩
   have hHeld := hh (by decide)
   clear hK K hh
   try simp only [Act.put, l1, l2, l3, l4, l5, l6]
   have HS := hd hS
   clear hS bb
   have H1 := hd hHeld.size
   refine Still.all (rs := [2, 6]) kr (by simp) (Still.one (i := 2) rfl rfl (fun K hK => ?_) (Still.one (i := 6) rfl rfl (fun K hK => ?_) (by simp)))
   ·refine wp_call 27 _ _ rfl ent_kStep #[.agg #[vp7, vc7, vs7], .agg #[.int .i64 0, .slice ca 4 cc, .slice la 2 lc]] ev ((kStep_r _ _ _ _ _ _ (HE6.out.up hHeld) HS.out (NB6.out.up hHeld)).mono ?_)
    rintro e Y2 ⟨ca7, cc7, la7, lc7, rfl, hN, bb⟩
    have z8 := bb.size
    refine ⟨_, rfl, hK _ _ (fun _ => hHeld.trans (bb.mono hHeld.size)) (fun hh => ?_)⟩
    have hHeld := hh (by decide)
    clear hK K hh
    try simp only [Act.put, l1, l2, l3, l4, l5, l6]
    have HN := hd hN
    clear hN bb
    refine Still.takeBy (i := 3) [] (v := ?v401) kr kr rfl kr kr kr (fun _ _ _ h => h) (Or.inl ⟨by rfl, ?y401⟩) hHeld ?r401
    case y401 => (intro w' hSw; (try dsimp only at hSw); go_simp; try with_reducible rfl)
    simp only [Act.put, l1, l2, l3, l4, l5, l6]
    refine Still.takeBy (i := 4) [] (v := ?v402) kr kr rfl kr kr kr (fun _ _ _ h => h) (Or.inl ⟨by rfl, ?y402⟩) hHeld ?r402
    case y402 => (intro w' hSw; (try dsimp only at hSw); go_simp; try with_reducible rfl)
    simp only [Act.put, l1, l2, l3, l4, l5, l6]
    refine Still.takeBy (i := 5) [] (v := ?v403) kr kr rfl kr kr kr (fun _ _ _ h => h) (Or.inl ⟨by rfl, ?y403⟩) hHeld ?r403
    case y403 => (intro w' hSw; (try dsimp only at hSw); go_simp; try with_reducible rfl)
    simp only [Act.put, l1, l2, l3, l4, l5, l6]
    have H2 := hd hHeld.size
    refine Still.all (rs := [6]) kr (by simp) (Still.one (i := 6) rfl rfl (fun K hK => ?_) (by simp))
    go_simp
    refine hK _ _ (fun _ => Below.alloc hHeld hHeld.size _) (fun hh => ?_)
    have hHeld := hh (by decide)
    clear hK K hh
    try simp only [Act.put, l1, l2, l3, l4, l5, l6]
    have RA : Hid (Rw (Y2.alloc (.cells #[.int .i64 0, .slice none 0 0, .slice none 0 0] 30)) Y2.heap.size 30 #[.int .i64 0, .slice none 0 0, .slice none 0 0]) := Rw.new _ _ _ rfl
    have hya : W6.heap.size ≤ Y2.heap.size := by have := H2.out; exact this
    have H3 := hd hHeld.size
    refine Still.all (rs := [7]) kr (by simp) (Still.one (i := 7) rfl rfl (fun K hK => ?_) (by simp))
    refine wp_store_row 30 _ _ rfl Y2.heap.size #[.int .i64 1, .slice ca7 4 cc7, .slice la7 2 lc7] ev ev 30 #[.int .i64 0, .slice none 0 0, .slice none 0 0] RA.out sizeWld rfl (world_one _ _ _ _ _ _ _) ?_
    refine hK _ _ (fun _ => below_row hHeld om _) (fun hh => ?_)
    have hHeld := hh (by decide)
    clear hK K hh
    try simp only [Act.put, l1, l2, l3, l4, l5, l6]
    refine Still.all (rs := [8]) kr (by simp) (Still.one (i := 8) rfl rfl (fun K hK => ?_) (by simp))
    go_simp
    refine hK _ _ ab (fun _ => Still.vv ?_)
    clear hK K
    go_wp2
    go_meet
    exact ⟨_, ca7, cc7, la7, lc7, rfl, rfl, hHeld, RA.out.row _, (HN.out.fresh _ _).wld⟩
   ·go_simp
    refine hK _ _ (fun _ => Below.alloc hHeld hHeld.size _) (fun hh => ?_)
    have hHeld := hh (by decide)
    clear hK K hh
    try simp only [Act.put, l1, l2, l3, l4, l5, l6]
    have RA : Hid (Rw (Y1.alloc (.cells #[.int .i64 0, .slice none 0 0, .slice none 0 0] 30)) Y1.heap.size 30 #[.int .i64 0, .slice none 0 0, .slice none 0 0]) := Rw.new _ _ _ rfl
    have hya : W6.heap.size ≤ Y1.heap.size := by have := H1.out; exact this
    have hs := HS.out.up ((Below.refl _ _).alloc (Nat.le_refl _) (.cells #[.int .i64 0, .slice none 0 0, .slice none 0 0] 30))
    clear HS
    have HS := hd hs
    clear hs
    generalize hWg : World.alloc _ _ = Y2 at hHeld RA HS ⊢
    have hlq : Y1.heap.size < Y2.heap.size := RA.out.lt
    clear hWg
    have H2 := hd hHeld.size
    refine Still.all (rs := [2]) kr (by simp) (Still.one (i := 2) rfl rfl (fun K hK => ?_) (by simp))
    refine wp_call 27 _ _ rfl ent_kStep #[.agg #[vp7, vc7, vs7], .agg #[.int .i64 0, .slice ca 4 cc, .slice la 2 lc]] ev ((kStep_r _ _ _ _ _ _ (HE6.out.up hHeld) HS.out (NB6.out.up hHeld)).mono ?_)
    rintro e Y3 ⟨ca7, cc7, la7, lc7, rfl, hN, bb⟩
    have z8 := bb.size
    refine ⟨_, rfl, hK _ _ (fun _ => hHeld.trans (bb.mono hHeld.size)) (fun hh => ?_)⟩
    have hHeld := hh (by decide)
    clear hK K hh
    try simp only [Act.put, l1, l2, l3, l4, l5, l6]
    have hla := RA.out.lt
    have ra := RA.out.up bb RA.out.lt
    clear RA
    have RA := hd ra
    clear ra
    have HN := hd hN
    clear hN bb
    refine Still.takeBy (i := 3) [] (v := ?v421) kr kr rfl kr kr kr (fun _ _ _ h => h) (Or.inl ⟨by rfl, ?y421⟩) hHeld ?r421
    case y421 => (intro w' hSw; (try dsimp only at hSw); go_simp; try with_reducible rfl)
    simp only [Act.put, l1, l2, l3, l4, l5, l6]
    refine Still.takeBy (i := 4) [] (v := ?v422) kr kr rfl kr kr kr (fun _ _ _ h => h) (Or.inl ⟨by rfl, ?y422⟩) hHeld ?r422
    case y422 => (intro w' hSw; (try dsimp only at hSw); go_simp; try with_reducible rfl)
    simp only [Act.put, l1, l2, l3, l4, l5, l6]
    refine Still.takeBy (i := 5) [] (v := ?v423) kr kr rfl kr kr kr (fun _ _ _ h => h) (Or.inl ⟨by rfl, ?y423⟩) hHeld ?r423
    case y423 => (intro w' hSw; (try dsimp only at hSw); go_simp; try with_reducible rfl)
    simp only [Act.put, l1, l2, l3, l4, l5, l6]
    have H3 := hd hHeld.size
    refine Still.all (rs := [7]) kr (by simp) (Still.one (i := 7) rfl rfl (fun K hK => ?_) (by simp))
    refine wp_store_row 30 _ _ rfl Y1.heap.size #[.int .i64 1, .slice ca7 4 cc7, .slice la7 2 lc7] ev ev 30 #[.int .i64 0, .slice none 0 0, .slice none 0 0] RA.out sizeWld rfl (world_one _ _ _ _ _ _ _) ?_
    refine hK _ _ (fun _ => below_row hHeld om _) (fun hh => ?_)
    have hHeld := hh (by decide)
    clear hK K hh
    try simp only [Act.put, l1, l2, l3, l4, l5, l6]
    refine Still.all (rs := [8]) kr (by simp) (Still.one (i := 8) rfl rfl (fun K hK => ?_) (by simp))
    go_simp
    refine hK _ _ ab (fun _ => Still.vv ?_)
    clear hK K
    go_wp2
    go_meet
    exact ⟨_, ca7, cc7, la7, lc7, rfl, rfl, hHeld, RA.out.row _, (HN.out.row om _).wld⟩
  ·go_simp
   refine hK _ _ (fun _ => Below.alloc hHeld hHeld.size _) (fun hh => ?_)
   have hHeld := hh (by decide)
   clear hK K hh
   try simp only [Act.put, l1, l2, l3, l4, l5, l6]
   have RA : Hid (Rw (Y0.alloc (.cells #[.int .i64 0, .slice none 0 0, .slice none 0 0] 30)) Y0.heap.size 30 #[.int .i64 0, .slice none 0 0, .slice none 0 0]) := Rw.new _ _ _ rfl
   have hya : W6.heap.size ≤ Y0.heap.size := by have := H0.out; exact this
   generalize hWg : World.alloc _ _ = Y1 at hHeld RA ⊢
   have hlq : Y0.heap.size < Y1.heap.size := RA.out.lt
   clear hWg
   have H1 := hd hHeld.size
   refine Still.all (rs := [0]) kr (by simp) (Still.one (i := 0) rfl rfl (fun K hK => ?_) (by simp))
   refine wp_call 40 _ _ rfl ent_relay #[] ev ((relay_s _).mono ?_)
   rintro e Y2 ⟨vp7, vc7, vs7, rfl, hS, bb⟩
   have z7 := bb.size
   refine ⟨_, rfl, hK _ _ (fun _ => hHeld.trans (bb.mono hHeld.size)) (fun hh => ?_)⟩
   have hHeld := hh (by decide)
   clear hK K hh
   try simp only [Act.put, l1, l2, l3, l4, l5, l6]
   have HS := hd hS
   have ra := RA.out.up bb RA.out.lt
   clear RA
   have RA := hd ra
   clear ra
   clear hS bb
   have H2 := hd hHeld.size
   refine Still.all (rs := [2]) kr (by simp) (Still.one (i := 2) rfl rfl (fun K hK => ?_) (by simp))
   refine wp_call 27 _ _ rfl ent_kStep #[.agg #[vp7, vc7, vs7], .agg #[.int .i64 0, .slice ca 4 cc, .slice la 2 lc]] ev ((kStep_r _ _ _ _ _ _ (HE6.out.up hHeld) HS.out (NB6.out.up hHeld)).mono ?_)
   rintro e Y3 ⟨ca7, cc7, la7, lc7, rfl, hN, bb⟩
   have z8 := bb.size
   refine ⟨_, rfl, hK _ _ (fun _ => hHeld.trans (bb.mono hHeld.size)) (fun hh => ?_)⟩
   have hHeld := hh (by decide)
   clear hK K hh
   try simp only [Act.put, l1, l2, l3, l4, l5, l6]
   have hla := RA.out.lt
   have ra := RA.out.up bb RA.out.lt
   clear RA
   have RA := hd ra
   clear ra
   have HN := hd hN
   clear hN bb
   refine Still.takeBy (i := 3) [] (v := ?v441) kr kr rfl kr kr kr (fun _ _ _ h => h) (Or.inl ⟨by rfl, ?y441⟩) hHeld ?r441
   case y441 => (intro w' hSw; (try dsimp only at hSw); go_simp; try with_reducible rfl)
   simp only [Act.put, l1, l2, l3, l4, l5, l6]
   refine Still.takeBy (i := 4) [] (v := ?v442) kr kr rfl kr kr kr (fun _ _ _ h => h) (Or.inl ⟨by rfl, ?y442⟩) hHeld ?r442
   case y442 => (intro w' hSw; (try dsimp only at hSw); go_simp; try with_reducible rfl)
   simp only [Act.put, l1, l2, l3, l4, l5, l6]
   refine Still.takeBy (i := 5) [] (v := ?v443) kr kr rfl kr kr kr (fun _ _ _ h => h) (Or.inl ⟨by rfl, ?y443⟩) hHeld ?r443
   case y443 => (intro w' hSw; (try dsimp only at hSw); go_simp; try with_reducible rfl)
   simp only [Act.put, l1, l2, l3, l4, l5, l6]
   have H3 := hd hHeld.size
   refine Still.all (rs := [7]) kr (by simp) (Still.one (i := 7) rfl rfl (fun K hK => ?_) (by simp))
   refine wp_store_row 30 _ _ rfl Y0.heap.size #[.int .i64 1, .slice ca7 4 cc7, .slice la7 2 lc7] ev ev 30 #[.int .i64 0, .slice none 0 0, .slice none 0 0] RA.out sizeWld rfl (world_one _ _ _ _ _ _ _) ?_
   refine hK _ _ (fun _ => below_row hHeld om _) (fun hh => ?_)
   have hHeld := hh (by decide)
   clear hK K hh
   try simp only [Act.put, l1, l2, l3, l4, l5, l6]
   refine Still.all (rs := [8]) kr (by simp) (Still.one (i := 8) rfl rfl (fun K hK => ?_) (by simp))
   go_simp
   refine hK _ _ ab (fun _ => Still.vv ?_)
   clear hK K
   go_wp2
   go_meet
   exact ⟨_, ca7, cc7, la7, lc7, rfl, rfl, hHeld, RA.out.row _, (HN.out.row om _).wld⟩
 case rest =>
  obtain ⟨g7, ca7, cc7, la7, lc7, rfl, rfl, HB7, RX, NX⟩ := hcut
  have z7 := HB7.out.size
  have HE7 := hd (HE6.out.up HB7.out)
  have HD7 := hd (HD6.out.trans (HB7.out.mono om))
  have RB7 := hd (RB6.out.up HB7.out om)
  have NB7 := hd (NB6.out.up HB7.out)
  have RR7 := hd (RR6.out.up HB7.out om)
  have NR7 := NR6.out.up HB7.out
  obtain ⟨b, off, a1, d1, a2, d2, a3, d3, rfl, hb, c0, c1, c2, c2e, c3, s1, s2, s3⟩ := cells12 NR7.c
  obtain ⟨xb, xo, rfl, hxb, x0⟩ := cellsX NX.out.c
  have C0 := hd c0
  have C1 := hd c1
  have C2 := hd c2
  have C2E := hd c2e
  have C3 := hd c3
  have S1 := hd s1
  have S2 := hd s2
  have S3 := hd s3
  have X0 := hd x0
  clear c0 c1 c2 c2e c3 s1 s2 s3 x0 NR7 NR6 RR6 NB6 RB6 HD6 HE6 HB7 NX
  go_upto_region 4 with fail
  refine region_still (S := fun w' => Below wc.heap.size wc w') 84 kr (Below.refl _ _).drew (fun hHeld => ?_)
  refine Still.takeBy (i := 1) [] kr kr rfl kr kr kr (fun _ _ _ h => h) (yields_load rfl _ _ rfl _ ev _ (fun w' hSw => Rw.loadAt (RB7.out.up hSw om) Tryz.underlying30 rfl sizeWld)) hHeld ?r701
  simp only [Act.put, l1, l2, l3, l4, l5, l6]
  refine Still.all (rs := [0]) kr (by simp) (Still.one (i := 0) rfl rfl (fun K hK => ?_) (by simp))
  refine wp_call 40 _ _ rfl ent_relay #[] ev ((relay_s _).mono ?_)
  rintro e V ⟨vp8, vc8, vs8, rfl, hS, bb⟩
  refine ⟨_, rfl, hK _ _ (fun _ => hHeld.trans (bb.mono hHeld.size)) (fun hh => ?_)⟩
  have hHeld := hh (by decide)
  clear hK K hh
  try simp only [Act.put, l1, l2, l3, l4, l5, l6]
  have HS := hd hS
  clear hS bb
  refine Still.all (rs := [2]) kr (by simp) (Still.one (i := 2) rfl rfl (fun K hK => ?_) (by simp))
  refine wp_call 30 _ _ rfl ent_kCheck #[.agg #[vp8, vc8, vs8], .agg #[.int .i64 0, .slice ca 4 cc, .slice la 2 lc]] ev ((kCheck_r _ _ _ _ _ _ (HE7.out.up hHeld) HS.out (NB7.out.up hHeld)).mono ?_)
  rintro e V ⟨rfl, bb⟩
  refine ⟨_, rfl, hK _ _ (fun _ => hHeld.trans (bb.mono hHeld.size)) (fun hh => ?_)⟩
  have hHeld := hh (by decide)
  clear hK K hh
  try simp only [Act.put, l1, l2, l3, l4, l5, l6]
  clear bb HS
  refine Still.takeBy (i := 3) [] (v := ?v702) kr kr rfl kr kr kr (fun _ _ _ h => h) (Or.inl ⟨by kernel_rfl, ?y702⟩) hHeld ?r702
  case y702 => (intro w' hSw; (try dsimp only at hSw); go_simp; try with_reducible rfl)
  simp only [Act.put, l1, l2, l3, l4, l5, l6]
  refine Still.takeBy (i := 4) [] (v := ?v703) kr kr rfl kr kr kr (fun _ _ _ h => h) (Or.inl ⟨by kernel_rfl, ?y703⟩) hHeld ?r703
  case y703 => (intro w' hSw; (try dsimp only at hSw); go_simp; try with_reducible rfl)
  simp only [Act.put, l1, l2, l3, l4, l5, l6]
  refine Still.takeBy (i := 6) [] (v := ?v704) kr kr rfl kr kr kr (fun _ _ _ h => h) (Or.inl ⟨by kernel_rfl, ?y704⟩) hHeld ?r704
  case y704 => (intro w' hSw; (try dsimp only at hSw); go_simp; try with_reducible rfl)
  simp only [Act.put, l1, l2, l3, l4, l5, l6]
  refine Still.all (rs := [5]) kr (by simp) (Still.oneG (i := 5) rfl kr (fun K hK => ?_) (by simp))
  refine wp_call 40 _ _ rfl ent_relay #[] ev ((relay_s _).mono ?_)
  rintro e V ⟨vp8, vc8, vs8, rfl, hS, bb⟩
  refine ⟨_, rfl, hK _ _ (fun _ => hHeld.trans (bb.mono hHeld.size)) (fun hh => ?_)⟩
  have hHeld := hh (by decide)
  clear hK K hh
  try simp only [Act.put, l1, l2, l3, l4, l5, l6]
  have HS := hd hS
  clear hS bb
  refine Still.all (rs := [7]) kr (by simp) (Still.oneG (i := 7) rfl kr (fun K hK => ?_) (by simp))
  refine wp_call 30 _ _ rfl ent_kCheck #[.agg #[vp8, vc8, vs8], .agg #[.int .i64 0, .slice none 0 0, .slice none 0 0]] ev ((kCheck_z _ _ _ _ (HE7.out.up hHeld) HS.out).mono ?_)
  rintro e V ⟨rfl, bb⟩
  refine ⟨_, rfl, hK _ _ (fun _ => hHeld.trans (bb.mono hHeld.size)) (fun hh => ?_)⟩
  have hHeld := hh (by decide)
  clear hK K hh
  try simp only [Act.put, l1, l2, l3, l4, l5, l6]
  clear bb HS
  refine Still.takeBy (i := 8) [] (v := ?v705) kr kr rfl kr kr kr (fun _ _ _ h => h) (Or.inl ⟨by kernel_rfl, ?y705⟩) hHeld ?r705
  case y705 => (intro w' hSw; (try dsimp only at hSw); go_simp; try with_reducible rfl)
  simp only [Act.put, l1, l2, l3, l4, l5, l6]
  refine Still.takeBy (i := 9) [] (v := ?v706) kr kr rfl kr kr kr (fun _ _ _ h => h) (Or.inl ⟨by kernel_rfl, ?y706⟩) hHeld ?r706
  case y706 => (intro w' hSw; (try dsimp only at hSw); go_simp; try with_reducible rfl)
  simp only [Act.put, l1, l2, l3, l4, l5, l6]
  refine Still.takeBy (i := 10) [] (v := ?v707) kr kr rfl kr kr kr (fun _ _ _ h => h) (Or.inl ⟨by kernel_rfl, ?y707⟩) hHeld ?r707
  case y707 => (intro w' hSw; (try dsimp only at hSw); go_simp; try with_reducible rfl)
  simp only [Act.put, l1, l2, l3, l4, l5, l6]
  refine Still.takeBy (i := 11) [] (v := ?v708) kr kr rfl kr kr kr (fun _ _ _ h => h) (Or.inl ⟨by kernel_rfl, ?y708⟩) hHeld ?r708
  case y708 => (intro w' hSw; (try dsimp only at hSw); go_simp; try with_reducible rfl)
  simp only [Act.put, l1, l2, l3, l4, l5, l6]
  refine Still.takeBy (i := 12) [] (v := ?v709) kr kr rfl kr kr kr (fun _ _ _ h => h) (Or.inl ⟨by kernel_rfl, ?y709⟩) hHeld ?r709
  case y709 => (intro w' hSw; (try dsimp only at hSw); go_simp; try with_reducible rfl)
  simp only [Act.put, l1, l2, l3, l4, l5, l6]
  refine Still.takeBy (i := 13) [] (v := ?v710) kr kr rfl kr kr kr (fun _ _ _ h => h) (Or.inl ⟨by kernel_rfl, ?y710⟩) hHeld ?r710
  case y710 => (intro w' hSw; (try dsimp only at hSw); go_simp; try with_reducible rfl)
  simp only [Act.put, l1, l2, l3, l4, l5, l6]
  refine Still.takeBy (i := 14) [] (v := ?v711) kr kr rfl kr kr kr (fun _ _ _ h => h) (Or.inl ⟨by kernel_rfl, ?y711⟩) hHeld ?r711
  case y711 => (intro w' hSw; (try dsimp only at hSw); go_simp; try with_reducible rfl)
  simp only [Act.put, l1, l2, l3, l4, l5, l6]
  refine Still.takeBy (i := 15) [] (v := ?v712) kr kr rfl kr kr kr (fun _ _ _ h => h) (Or.inl ⟨by kernel_rfl, ?y712⟩) hHeld ?r712
  case y712 => (intro w' hSw; (try dsimp only at hSw); go_simp; try with_reducible rfl)
  simp only [Act.put, l1, l2, l3, l4, l5, l6]
  refine Still.takeBy (i := 16) [] (v := ?v713) kr kr rfl kr kr kr (fun _ _ _ h => h) (Or.inl ⟨by kernel_rfl, ?y713⟩) hHeld ?r713
  case y713 => (intro w' hSw; (try dsimp only at hSw); go_simp; try with_reducible rfl)
  simp only [Act.put, l1, l2, l3, l4, l5, l6]
  refine Still.takeBy (i := 17) [] (v := ?v714) kr kr rfl kr kr kr (fun _ _ _ h => h) (Or.inl ⟨by kernel_rfl, ?y714⟩) hHeld ?r714
  case y714 => (intro w' hSw; (try dsimp only at hSw); go_simp; try with_reducible rfl)
  simp only [Act.put, l1, l2, l3, l4, l5, l6]
  refine Still.takeBy (i := 18) [] (v := ?v715) kr kr rfl kr kr kr (fun _ _ _ h => h) (Or.inl ⟨by kernel_rfl, ?y715⟩) hHeld ?r715
  case y715 => (intro w' hSw; (try dsimp only at hSw); go_simp; try with_reducible rfl)
  simp only [Act.put, l1, l2, l3, l4, l5, l6]
  refine Still.takeBy (i := 19) [] (v := ?v716) kr kr rfl kr kr kr (fun _ _ _ h => h) (Or.inl ⟨by kernel_rfl, ?y716⟩) hHeld ?r716
  case y716 => (intro w' hSw; (try dsimp only at hSw); go_simp; try with_reducible rfl)
  simp only [Act.put, l1, l2, l3, l4, l5, l6]
  refine Still.takeBy (i := 20) [] (v := ?v717) kr kr rfl kr kr kr (fun _ _ _ h => h) (Or.inl ⟨by kernel_rfl, ?y717⟩) hHeld ?r717
  case y717 => (intro w' hSw; (try dsimp only at hSw); go_simp; try with_reducible rfl)
  simp only [Act.put, l1, l2, l3, l4, l5, l6]
  refine Still.takeBy (i := 21) [] (v := ?v718) kr kr rfl kr kr kr (fun _ _ _ h => h) (Or.inl ⟨by kernel_rfl, ?y718⟩) hHeld ?r718
  case y718 => (intro w' hSw; (try dsimp only at hSw); go_simp; try with_reducible rfl)
  simp only [Act.put, l1, l2, l3, l4, l5, l6]
  refine Still.takeBy (i := 22) [] (v := ?v719) kr kr rfl kr kr kr (fun _ _ _ h => h) (Or.inl ⟨by kernel_rfl, ?y719⟩) hHeld ?r719
  case y719 => (intro w' hSw; (try dsimp only at hSw); go_simp; try with_reducible rfl)
  simp only [Act.put, l1, l2, l3, l4, l5, l6]
  refine Still.takeBy (i := 23) [] (v := ?v720) kr kr rfl kr kr kr (fun _ _ _ h => h) (Or.inl ⟨by kernel_rfl, ?y720⟩) hHeld ?r720
  case y720 => (intro w' hSw; (try dsimp only at hSw); have q1 := (RR7.out.up hSw RR7.out.lt).cell (j := 1) (v := .slice (some ⟨b, off, none⟩) 4 cc5) rfl; clear hSw; go_simp; try with_reducible rfl)
  simp only [Act.put, l1, l2, l3, l4, l5, l6]
  refine Still.takeBy (i := 24) [] (v := ?v721) kr kr rfl kr kr kr (fun _ _ _ h => h) (Or.inl ⟨by kernel_rfl, ?y721⟩) hHeld ?r721
  case y721 => (intro w' hSw; (try dsimp only at hSw); have q1 := (RR7.out.up hSw RR7.out.lt).cell (j := 1) (v := .slice (some ⟨b, off, none⟩) 4 cc5) rfl; clear hSw; go_simp; try with_reducible rfl)
  simp only [Act.put, l1, l2, l3, l4, l5, l6]
  refine Still.takeBy (i := 25) [] (v := ?v722) kr kr rfl kr kr kr (fun _ _ _ h => h) (Or.inl ⟨by kernel_rfl, ?y722⟩) hHeld ?r722
  case y722 => (intro w' hSw; (try dsimp only at hSw); have q1 := (RR7.out.up hSw RR7.out.lt).cell (j := 1) (v := .slice (some ⟨b, off, none⟩) 4 cc5) rfl; clear hSw; go_simp; try with_reducible rfl)
  simp only [Act.put, l1, l2, l3, l4, l5, l6]
  refine Still.takeBy (i := 26) [] (v := ?v723) kr kr rfl kr kr kr (fun _ _ _ h => h) (Or.inl ⟨by kernel_rfl, ?y723⟩) hHeld ?r723
  case y723 => (intro w' hSw; (try dsimp only at hSw); have q1 := (RR7.out.up hSw RR7.out.lt).cell (j := 1) (v := .slice (some ⟨b, off, none⟩) 4 cc5) rfl; clear hSw; go_simp; try with_reducible rfl)
  simp only [Act.put, l1, l2, l3, l4, l5, l6]
  refine Still.takeBy (i := 27) [] (v := ?v724) kr kr rfl kr kr kr (fun _ _ _ h => h) (Or.inl ⟨by kernel_rfl, ?y724⟩) hHeld ?r724
  case y724 => (intro w' hSw; (try dsimp only at hSw); have q1 := (RR7.out.up hSw RR7.out.lt).cell (j := 1) (v := .slice (some ⟨b, off, none⟩) 4 cc5) rfl; clear hSw; go_simp; try with_reducible rfl)
  simp only [Act.put, l1, l2, l3, l4, l5, l6]
  refine Still.takeBy (i := 28) [] (v := ?v725) kr kr rfl kr kr kr (fun _ _ _ h => h) (Or.inl ⟨by kernel_rfl, ?y725⟩) hHeld ?r725
  case y725 => (intro w' hSw; (try dsimp only at hSw); have q1 := (RR7.out.up hSw RR7.out.lt).cell (j := 1) (v := .slice (some ⟨b, off, none⟩) 4 cc5) rfl; clear hSw; go_simp; try with_reducible rfl)
  simp only [Act.put, l1, l2, l3, l4, l5, l6]
  refine Still.takeBy (i := 29) [] (v := ?v726) kr kr rfl kr kr kr (fun _ _ _ h => h) (Or.inl ⟨by kernel_rfl, ?y726⟩) hHeld ?r726
  case y726 => (intro w' hSw; (try dsimp only at hSw); have q1 := (RR7.out.up hSw RR7.out.lt).cell (j := 1) (v := .slice (some ⟨b, off, none⟩) 4 cc5) rfl; have q2 := bcl hSw hb C0.out; clear hSw; go_simp; try with_reducible rfl)
  simp only [Act.put, l1, l2, l3, l4, l5, l6]
  refine Still.takeBy (i := 30) [] (v := ?v727) kr kr rfl kr kr kr (fun _ _ _ h => h) (Or.inl ⟨by kernel_rfl, ?y727⟩) hHeld ?r727
  case y727 => (intro w' hSw; (try dsimp only at hSw); have q1 := (RR7.out.up hSw RR7.out.lt).cell (j := 1) (v := .slice (some ⟨b, off, none⟩) 4 cc5) rfl; have q2 := bcl hSw hb C0.out; clear hSw; go_simp; try with_reducible rfl)
  simp only [Act.put, l1, l2, l3, l4, l5, l6]
  refine Still.takeBy (i := 31) [] (v := ?v728) kr kr rfl kr kr kr (fun _ _ _ h => h) (Or.inl ⟨by kernel_rfl, ?y728⟩) hHeld ?r728
  case y728 => (intro w' hSw; (try dsimp only at hSw); have q1 := (RR7.out.up hSw RR7.out.lt).cell (j := 1) (v := .slice (some ⟨b, off, none⟩) 4 cc5) rfl; have q2 := bcl hSw hb C0.out; clear hSw; go_simp; try with_reducible rfl)
  simp only [Act.put, l1, l2, l3, l4, l5, l6]
  refine Still.takeBy (i := 32) [] (v := ?v729) kr kr rfl kr kr kr (fun _ _ _ h => h) (Or.inl ⟨by kernel_rfl, ?y729⟩) hHeld ?r729
  case y729 => (intro w' hSw; (try dsimp only at hSw); have q1 := (RR7.out.up hSw RR7.out.lt).cell (j := 1) (v := .slice (some ⟨b, off, none⟩) 4 cc5) rfl; have q2 := bcl hSw hb C0.out; clear hSw; go_simp; try with_reducible rfl)
  simp only [Act.put, l1, l2, l3, l4, l5, l6]
  refine Still.takeBy (i := 33) [] (v := ?v730) kr kr rfl kr kr kr (fun _ _ _ h => h) (Or.inl ⟨by kernel_rfl, ?y730⟩) hHeld ?r730
  case y730 => (intro w' hSw; (try dsimp only at hSw); have q1 := (RR7.out.up hSw RR7.out.lt).cell (j := 1) (v := .slice (some ⟨b, off, none⟩) 4 cc5) rfl; have q2 := bcl hSw hb C0.out; clear hSw; go_simp; try with_reducible rfl)
  simp only [Act.put, l1, l2, l3, l4, l5, l6]
  refine Still.takeBy (i := 34) [] (v := ?v731) kr kr rfl kr kr kr (fun _ _ _ h => h) (Or.inl ⟨by kernel_rfl, ?y731⟩) hHeld ?r731
  case y731 => (intro w' hSw; (try dsimp only at hSw); have q1 := (RR7.out.up hSw RR7.out.lt).cell (j := 1) (v := .slice (some ⟨b, off, none⟩) 4 cc5) rfl; have q2 := bcl hSw hb C0.out; clear hSw; go_simp; try with_reducible rfl)
  simp only [Act.put, l1, l2, l3, l4, l5, l6]
  refine Still.takeBy (i := 35) [] (v := ?v732) kr kr rfl kr kr kr (fun _ _ _ h => h) (Or.inl ⟨by kernel_rfl, ?y732⟩) hHeld ?r732
  case y732 => (intro w' hSw; (try dsimp only at hSw); have q1 := (RR7.out.up hSw RR7.out.lt).cell (j := 1) (v := .slice (some ⟨b, off, none⟩) 4 cc5) rfl; have q2 := bcl hSw hb C0.out; clear hSw; go_simp; try with_reducible rfl)
  simp only [Act.put, l1, l2, l3, l4, l5, l6]
  refine Still.takeBy (i := 36) [] (v := ?v733) kr kr rfl kr kr kr (fun _ _ _ h => h) (Or.inl ⟨by kernel_rfl, ?y733⟩) hHeld ?r733
  case y733 => (intro w' hSw; (try dsimp only at hSw); have q1 := (RR7.out.up hSw RR7.out.lt).cell (j := 1) (v := .slice (some ⟨b, off, none⟩) 4 cc5) rfl; have q2 := bcl hSw hb C0.out; clear hSw; go_simp; try with_reducible rfl)
  simp only [Act.put, l1, l2, l3, l4, l5, l6]
  refine Still.takeBy (i := 37) [] (v := ?v734) kr kr rfl kr kr kr (fun _ _ _ h => h) (Or.inl ⟨by kernel_rfl, ?y734⟩) hHeld ?r734
  case y734 => (intro w' hSw; (try dsimp only at hSw); have q1 := (RR7.out.up hSw RR7.out.lt).cell (j := 1) (v := .slice (some ⟨b, off, none⟩) 4 cc5) rfl; have q2 := bcl hSw hb C1.out; clear hSw; go_simp; try with_reducible rfl)
  simp only [Act.put, l1, l2, l3, l4, l5, l6]
  refine Still.takeBy (i := 38) [] (v := ?v735) kr kr rfl kr kr kr (fun _ _ _ h => h) (Or.inl ⟨by kernel_rfl, ?y735⟩) hHeld ?r735
  case y735 => (intro w' hSw; (try dsimp only at hSw); have q1 := (RR7.out.up hSw RR7.out.lt).cell (j := 1) (v := .slice (some ⟨b, off, none⟩) 4 cc5) rfl; have q2 := bcl hSw hb C1.out; clear hSw; go_simp; try with_reducible rfl)
  simp only [Act.put, l1, l2, l3, l4, l5, l6]
  refine Still.takeBy (i := 39) [] (v := ?v736) kr kr rfl kr kr kr (fun _ _ _ h => h) (Or.inl ⟨by kernel_rfl, ?y736⟩) hHeld ?r736
  case y736 => (intro w' hSw; (try dsimp only at hSw); have q1 := (RR7.out.up hSw RR7.out.lt).cell (j := 1) (v := .slice (some ⟨b, off, none⟩) 4 cc5) rfl; have q2 := bcl hSw hb C1.out; clear hSw; go_simp; try with_reducible rfl)
  simp only [Act.put, l1, l2, l3, l4, l5, l6]
  refine Still.takeBy (i := 40) [] (v := ?v737) kr kr rfl kr kr kr (fun _ _ _ h => h) (Or.inl ⟨by kernel_rfl, ?y737⟩) hHeld ?r737
  case y737 => (intro w' hSw; (try dsimp only at hSw); have q1 := (RR7.out.up hSw RR7.out.lt).cell (j := 1) (v := .slice (some ⟨b, off, none⟩) 4 cc5) rfl; have q2 := bcl hSw hb C1.out; clear hSw; go_simp; try with_reducible rfl)
  simp only [Act.put, l1, l2, l3, l4, l5, l6]
  refine Still.takeBy (i := 41) [] (v := ?v738) kr kr rfl kr kr kr (fun _ _ _ h => h) (Or.inl ⟨by kernel_rfl, ?y738⟩) hHeld ?r738
  case y738 => (intro w' hSw; (try dsimp only at hSw); have q1 := (RR7.out.up hSw RR7.out.lt).cell (j := 1) (v := .slice (some ⟨b, off, none⟩) 4 cc5) rfl; have q2 := bcl hSw hb C1.out; clear hSw; go_simp; try with_reducible rfl)
  simp only [Act.put, l1, l2, l3, l4, l5, l6]
  refine Still.all (rs := [42]) kr (by simp) (Still.oneG (i := 42) rfl kr (fun K hK => ?_) (by simp))
  go_simp
  refine hK _ _ (fun _ => Below.alloc hHeld hHeld.size _) (fun hh => ?_)
  have hHeld0 := hHeld
  have hHeld := hh (by decide)
  clear hK K hh
  try simp only [Act.put, l1, l2, l3, l4, l5, l6]
  refine Still.all (rs := [43]) kr (by simp) (Still.oneG (i := 43) rfl kr (fun K hK => ?_) (by simp))
  refine wp_call 41 _ _ rfl ent_sameInts #[.slice a1 1 d1, .slice (some ⟨_, 0, none⟩) 1 1] ev ((sameInts_yes [6] _ _ _ (S1.out.up hHeld) (lit_sl _ [.int .i64 6] _ _ 1 1 rfl rfl) (by decide)).mono ?_)
  rintro e V ⟨rfl, bb⟩
  refine ⟨_, rfl, hK _ _ (fun _ => hHeld.trans (bb.mono hHeld.size)) (fun hh => ?_)⟩
  have hHeld := hh (by decide)
  clear hK K hh hHeld0
  try simp only [Act.put, l1, l2, l3, l4, l5, l6]
  clear bb
  refine Still.takeBy (i := 44) [] (v := ?v739) kr kr rfl kr kr kr (fun _ _ _ h => h) (Or.inl ⟨by kernel_rfl, ?y739⟩) hHeld ?r739
  case y739 => (intro w' hSw; (try dsimp only at hSw); go_simp; try with_reducible rfl)
  simp only [Act.put, l1, l2, l3, l4, l5, l6]
  refine Still.takeBy (i := 45) [] (v := ?v740) kr kr rfl kr kr kr (fun _ _ _ h => h) (Or.inl ⟨by kernel_rfl, ?y740⟩) hHeld ?r740
  case y740 => (intro w' hSw; (try dsimp only at hSw); go_simp; try with_reducible rfl)
  simp only [Act.put, l1, l2, l3, l4, l5, l6]
  refine Still.takeBy (i := 46) [] (v := ?v741) kr kr rfl kr kr kr (fun _ _ _ h => h) (Or.inl ⟨by kernel_rfl, ?y741⟩) hHeld ?r741
  case y741 => (intro w' hSw; (try dsimp only at hSw); have q1 := (RR7.out.up hSw RR7.out.lt).cell (j := 1) (v := .slice (some ⟨b, off, none⟩) 4 cc5) rfl; have q2 := bcl hSw hb C2.out; clear hSw; go_simp; try with_reducible rfl)
  simp only [Act.put, l1, l2, l3, l4, l5, l6]
  refine Still.takeBy (i := 47) [] (v := ?v742) kr kr rfl kr kr kr (fun _ _ _ h => h) (Or.inl ⟨by kernel_rfl, ?y742⟩) hHeld ?r742
  case y742 => (intro w' hSw; (try dsimp only at hSw); have q1 := (RR7.out.up hSw RR7.out.lt).cell (j := 1) (v := .slice (some ⟨b, off, none⟩) 4 cc5) rfl; have q2 := bcl hSw hb C2.out; clear hSw; go_simp; try with_reducible rfl)
  simp only [Act.put, l1, l2, l3, l4, l5, l6]
  refine Still.takeBy (i := 48) [] (v := ?v743) kr kr rfl kr kr kr (fun _ _ _ h => h) (Or.inl ⟨by kernel_rfl, ?y743⟩) hHeld ?r743
  case y743 => (intro w' hSw; (try dsimp only at hSw); have q1 := (RR7.out.up hSw RR7.out.lt).cell (j := 1) (v := .slice (some ⟨b, off, none⟩) 4 cc5) rfl; have q2 := bcl hSw hb C2.out; clear hSw; go_simp; try with_reducible rfl)
  simp only [Act.put, l1, l2, l3, l4, l5, l6]
  refine Still.takeBy (i := 49) [] (v := ?v744) kr kr rfl kr kr kr (fun _ _ _ h => h) (Or.inl ⟨by kernel_rfl, ?y744⟩) hHeld ?r744
  case y744 => (intro w' hSw; (try dsimp only at hSw); have q1 := (RR7.out.up hSw RR7.out.lt).cell (j := 1) (v := .slice (some ⟨b, off, none⟩) 4 cc5) rfl; have q2 := bcl hSw hb C2.out; clear hSw; go_simp; try with_reducible rfl)
  simp only [Act.put, l1, l2, l3, l4, l5, l6]
  refine Still.takeBy (i := 50) [] (v := ?v745) kr kr rfl kr kr kr (fun _ _ _ h => h) (Or.inl ⟨by kernel_rfl, ?y745⟩) hHeld ?r745
  case y745 => (intro w' hSw; (try dsimp only at hSw); have q1 := (RR7.out.up hSw RR7.out.lt).cell (j := 1) (v := .slice (some ⟨b, off, none⟩) 4 cc5) rfl; have q2 := bcl hSw hb C2.out; clear hSw; go_simp; try with_reducible rfl)
  simp only [Act.put, l1, l2, l3, l4, l5, l6]
  refine Still.all (rs := [51]) kr (by simp) (Still.oneG (i := 51) rfl kr (fun K hK => ?_) (by simp))
  go_simp
  refine hK _ _ (fun _ => Below.alloc hHeld hHeld.size _) (fun hh => ?_)
  have hHeld0 := hHeld
  have hHeld := hh (by decide)
  clear hK K hh
  try simp only [Act.put, l1, l2, l3, l4, l5, l6]
  refine Still.all (rs := [52]) kr (by simp) (Still.oneG (i := 52) rfl kr (fun K hK => ?_) (by simp))
  refine wp_call 41 _ _ rfl ent_sameInts #[.slice a2 1 d2, .slice (some ⟨_, 0, none⟩) 1 1] ev ((sameInts_yes [6] _ _ _ (S2.out.up hHeld) (lit_sl _ [.int .i64 6] _ _ 1 1 rfl rfl) (by decide)).mono ?_)
  rintro e V ⟨rfl, bb⟩
  refine ⟨_, rfl, hK _ _ (fun _ => hHeld.trans (bb.mono hHeld.size)) (fun hh => ?_)⟩
  have hHeld := hh (by decide)
  clear hK K hh hHeld0
  try simp only [Act.put, l1, l2, l3, l4, l5, l6]
  clear bb
  refine Still.takeBy (i := 53) [] (v := ?v746) kr kr rfl kr kr kr (fun _ _ _ h => h) (Or.inl ⟨by kernel_rfl, ?y746⟩) hHeld ?r746
  case y746 => (intro w' hSw; (try dsimp only at hSw); go_simp; try with_reducible rfl)
  simp only [Act.put, l1, l2, l3, l4, l5, l6]
  refine Still.takeBy (i := 54) [] (v := ?v747) kr kr rfl kr kr kr (fun _ _ _ h => h) (Or.inl ⟨by kernel_rfl, ?y747⟩) hHeld ?r747
  case y747 => (intro w' hSw; (try dsimp only at hSw); go_simp; try with_reducible rfl)
  simp only [Act.put, l1, l2, l3, l4, l5, l6]
  refine Still.takeBy (i := 55) [] (v := ?v748) kr kr rfl kr kr kr (fun _ _ _ h => h) (Or.inl ⟨by kernel_rfl, ?y748⟩) hHeld ?r748
  case y748 => (intro w' hSw; (try dsimp only at hSw); have q1 := (RR7.out.up hSw RR7.out.lt).cell (j := 1) (v := .slice (some ⟨b, off, none⟩) 4 cc5) rfl; have q2 := bcl hSw hb C2E.out; clear hSw; go_simp; try with_reducible rfl)
  simp only [Act.put, l1, l2, l3, l4, l5, l6]
  refine Still.takeBy (i := 56) [] (v := ?v749) kr kr rfl kr kr kr (fun _ _ _ h => h) (Or.inl ⟨by kernel_rfl, ?y749⟩) hHeld ?r749
  case y749 => (intro w' hSw; (try dsimp only at hSw); have q1 := (RR7.out.up hSw RR7.out.lt).cell (j := 1) (v := .slice (some ⟨b, off, none⟩) 4 cc5) rfl; have q2 := bcl hSw hb C2E.out; clear hSw; go_simp; try with_reducible rfl)
  simp only [Act.put, l1, l2, l3, l4, l5, l6]
  refine Still.takeBy (i := 57) [] (v := ?v750) kr kr rfl kr kr kr (fun _ _ _ h => h) (Or.inl ⟨by kernel_rfl, ?y750⟩) hHeld ?r750
  case y750 => (intro w' hSw; (try dsimp only at hSw); have q1 := (RR7.out.up hSw RR7.out.lt).cell (j := 1) (v := .slice (some ⟨b, off, none⟩) 4 cc5) rfl; have q2 := bcl hSw hb C2E.out; clear hSw; go_simp; try with_reducible rfl)
  simp only [Act.put, l1, l2, l3, l4, l5, l6]
  refine Still.takeBy (i := 58) [] (v := ?v751) kr kr rfl kr kr kr (fun _ _ _ h => h) (Or.inl ⟨by kernel_rfl, ?y751⟩) hHeld ?r751
  case y751 => (intro w' hSw; (try dsimp only at hSw); have q1 := (RR7.out.up hSw RR7.out.lt).cell (j := 1) (v := .slice (some ⟨b, off, none⟩) 4 cc5) rfl; have q2 := bcl hSw hb C2E.out; clear hSw; go_simp; try with_reducible rfl)
  simp only [Act.put, l1, l2, l3, l4, l5, l6]
  refine Still.takeBy (i := 59) [] (v := ?v752) kr kr rfl kr kr kr (fun _ _ _ h => h) (Or.inl ⟨by kernel_rfl, ?y752⟩) hHeld ?r752
  case y752 => (intro w' hSw; (try dsimp only at hSw); have q1 := (RR7.out.up hSw RR7.out.lt).cell (j := 1) (v := .slice (some ⟨b, off, none⟩) 4 cc5) rfl; have q2 := bcl hSw hb C2E.out; clear hSw; go_simp; try with_reducible rfl)
  simp only [Act.put, l1, l2, l3, l4, l5, l6]
  refine Still.takeBy (i := 60) [] (v := ?v753) kr kr rfl kr kr kr (fun _ _ _ h => h) (Or.inl ⟨by kernel_rfl, ?y753⟩) hHeld ?r753
  case y753 => (intro w' hSw; (try dsimp only at hSw); have q1 := (RR7.out.up hSw RR7.out.lt).cell (j := 1) (v := .slice (some ⟨b, off, none⟩) 4 cc5) rfl; have q2 := bcl hSw hb C2E.out; clear hSw; go_simp; try with_reducible rfl)
  simp only [Act.put, l1, l2, l3, l4, l5, l6]
  refine Still.takeBy (i := 61) [] (v := ?v754) kr kr rfl kr kr kr (fun _ _ _ h => h) (Or.inl ⟨by kernel_rfl, ?y754⟩) hHeld ?r754
  case y754 => (intro w' hSw; (try dsimp only at hSw); have q1 := (RR7.out.up hSw RR7.out.lt).cell (j := 1) (v := .slice (some ⟨b, off, none⟩) 4 cc5) rfl; have q2 := bcl hSw hb C2E.out; clear hSw; go_simp; try with_reducible rfl)
  simp only [Act.put, l1, l2, l3, l4, l5, l6]
  refine Still.takeBy (i := 62) [] (v := ?v755) kr kr rfl kr kr kr (fun _ _ _ h => h) (Or.inl ⟨by kernel_rfl, ?y755⟩) hHeld ?r755
  case y755 => (intro w' hSw; (try dsimp only at hSw); have q1 := (RR7.out.up hSw RR7.out.lt).cell (j := 1) (v := .slice (some ⟨b, off, none⟩) 4 cc5) rfl; have q2 := bcl hSw hb C2E.out; clear hSw; go_simp; try with_reducible rfl)
  simp only [Act.put, l1, l2, l3, l4, l5, l6]
  refine Still.takeBy (i := 63) [] (v := ?v756) kr kr rfl kr kr kr (fun _ _ _ h => h) (Or.inl ⟨by kernel_rfl, ?y756⟩) hHeld ?r756
  case y756 => (intro w' hSw; (try dsimp only at hSw); have q1 := (RR7.out.up hSw RR7.out.lt).cell (j := 1) (v := .slice (some ⟨b, off, none⟩) 4 cc5) rfl; have q2 := bcl hSw hb C3.out; clear hSw; go_simp; try with_reducible rfl)
  simp only [Act.put, l1, l2, l3, l4, l5, l6]
  refine Still.takeBy (i := 64) [] (v := ?v757) kr kr rfl kr kr kr (fun _ _ _ h => h) (Or.inl ⟨by kernel_rfl, ?y757⟩) hHeld ?r757
  case y757 => (intro w' hSw; (try dsimp only at hSw); have q1 := (RR7.out.up hSw RR7.out.lt).cell (j := 1) (v := .slice (some ⟨b, off, none⟩) 4 cc5) rfl; have q2 := bcl hSw hb C3.out; clear hSw; go_simp; try with_reducible rfl)
  simp only [Act.put, l1, l2, l3, l4, l5, l6]
  refine Still.takeBy (i := 65) [] (v := ?v758) kr kr rfl kr kr kr (fun _ _ _ h => h) (Or.inl ⟨by kernel_rfl, ?y758⟩) hHeld ?r758
  case y758 => (intro w' hSw; (try dsimp only at hSw); have q1 := (RR7.out.up hSw RR7.out.lt).cell (j := 1) (v := .slice (some ⟨b, off, none⟩) 4 cc5) rfl; have q2 := bcl hSw hb C3.out; clear hSw; go_simp; try with_reducible rfl)
  simp only [Act.put, l1, l2, l3, l4, l5, l6]
  refine Still.takeBy (i := 66) [] (v := ?v759) kr kr rfl kr kr kr (fun _ _ _ h => h) (Or.inl ⟨by kernel_rfl, ?y759⟩) hHeld ?r759
  case y759 => (intro w' hSw; (try dsimp only at hSw); have q1 := (RR7.out.up hSw RR7.out.lt).cell (j := 1) (v := .slice (some ⟨b, off, none⟩) 4 cc5) rfl; have q2 := bcl hSw hb C3.out; clear hSw; go_simp; try with_reducible rfl)
  simp only [Act.put, l1, l2, l3, l4, l5, l6]
  refine Still.takeBy (i := 67) [] (v := ?v760) kr kr rfl kr kr kr (fun _ _ _ h => h) (Or.inl ⟨by kernel_rfl, ?y760⟩) hHeld ?r760
  case y760 => (intro w' hSw; (try dsimp only at hSw); have q1 := (RR7.out.up hSw RR7.out.lt).cell (j := 1) (v := .slice (some ⟨b, off, none⟩) 4 cc5) rfl; have q2 := bcl hSw hb C3.out; clear hSw; go_simp; try with_reducible rfl)
  simp only [Act.put, l1, l2, l3, l4, l5, l6]
  refine Still.all (rs := [68]) kr (by simp) (Still.oneG (i := 68) rfl kr (fun K hK => ?_) (by simp))
  go_simp
  refine hK _ _ (fun _ => Below.alloc hHeld hHeld.size _) (fun hh => ?_)
  have hHeld0 := hHeld
  have hHeld := hh (by decide)
  clear hK K hh
  try simp only [Act.put, l1, l2, l3, l4, l5, l6]
  refine Still.all (rs := [69]) kr (by simp) (Still.oneG (i := 69) rfl kr (fun K hK => ?_) (by simp))
  refine wp_call 41 _ _ rfl ent_sameInts #[.slice a3 1 d3, .slice (some ⟨_, 0, none⟩) 1 1] ev ((sameInts_yes [0] _ _ _ (S3.out.up hHeld) (lit_sl _ [.int .i64 0] _ _ 1 1 rfl rfl) (by decide)).mono ?_)
  rintro e V ⟨rfl, bb⟩
  refine ⟨_, rfl, hK _ _ (fun _ => hHeld.trans (bb.mono hHeld.size)) (fun hh => ?_)⟩
  have hHeld := hh (by decide)
  clear hK K hh hHeld0
  try simp only [Act.put, l1, l2, l3, l4, l5, l6]
  clear bb
  refine Still.takeBy (i := 70) [] (v := ?v761) kr kr rfl kr kr kr (fun _ _ _ h => h) (Or.inl ⟨by kernel_rfl, ?y761⟩) hHeld ?r761
  case y761 => (intro w' hSw; (try dsimp only at hSw); go_simp; try with_reducible rfl)
  simp only [Act.put, l1, l2, l3, l4, l5, l6]
  refine Still.takeBy (i := 71) [] (v := ?v762) kr kr rfl kr kr kr (fun _ _ _ h => h) (Or.inl ⟨by kernel_rfl, ?y762⟩) hHeld ?r762
  case y762 => (intro w' hSw; (try dsimp only at hSw); go_simp; try with_reducible rfl)
  simp only [Act.put, l1, l2, l3, l4, l5, l6]
  refine Still.takeBy (i := 72) [] (v := ?v763) kr kr rfl kr kr kr (fun _ _ _ h => h) (Or.inl ⟨by kernel_rfl, ?y763⟩) hHeld ?r763
  case y763 => (intro w' hSw; (try dsimp only at hSw); have q1 := (RX.out.up hSw RX.out.lt).cell (j := 1) (v := .slice (some ⟨xb, xo, none⟩) 4 cc7) rfl; have q0 := (RX.out.up hSw RX.out.lt).cell (j := 0) (v := .int .i64 1) rfl; have q2 := bcl hSw hxb X0.out; clear hSw; go_simp; try with_reducible rfl)
  simp only [Act.put, l1, l2, l3, l4, l5, l6]
  refine Still.takeBy (i := 73) [] (v := ?v764) kr kr rfl kr kr kr (fun _ _ _ h => h) (Or.inl ⟨by kernel_rfl, ?y764⟩) hHeld ?r764
  case y764 => (intro w' hSw; (try dsimp only at hSw); have q1 := (RX.out.up hSw RX.out.lt).cell (j := 1) (v := .slice (some ⟨xb, xo, none⟩) 4 cc7) rfl; have q0 := (RX.out.up hSw RX.out.lt).cell (j := 0) (v := .int .i64 1) rfl; have q2 := bcl hSw hxb X0.out; clear hSw; go_simp; try with_reducible rfl)
  simp only [Act.put, l1, l2, l3, l4, l5, l6]
  refine Still.takeBy (i := 74) [] (v := ?v765) kr kr rfl kr kr kr (fun _ _ _ h => h) (Or.inl ⟨by kernel_rfl, ?y765⟩) hHeld ?r765
  case y765 => (intro w' hSw; (try dsimp only at hSw); have q1 := (RX.out.up hSw RX.out.lt).cell (j := 1) (v := .slice (some ⟨xb, xo, none⟩) 4 cc7) rfl; have q0 := (RX.out.up hSw RX.out.lt).cell (j := 0) (v := .int .i64 1) rfl; have q2 := bcl hSw hxb X0.out; clear hSw; go_simp; try with_reducible rfl)
  simp only [Act.put, l1, l2, l3, l4, l5, l6]
  refine Still.takeBy (i := 75) [] (v := ?v766) kr kr rfl kr kr kr (fun _ _ _ h => h) (Or.inl ⟨by kernel_rfl, ?y766⟩) hHeld ?r766
  case y766 => (intro w' hSw; (try dsimp only at hSw); have q1 := (RX.out.up hSw RX.out.lt).cell (j := 1) (v := .slice (some ⟨xb, xo, none⟩) 4 cc7) rfl; have q0 := (RX.out.up hSw RX.out.lt).cell (j := 0) (v := .int .i64 1) rfl; have q2 := bcl hSw hxb X0.out; clear hSw; go_simp; try with_reducible rfl)
  simp only [Act.put, l1, l2, l3, l4, l5, l6]
  refine Still.takeBy (i := 76) [] (v := ?v767) kr kr rfl kr kr kr (fun _ _ _ h => h) (Or.inl ⟨by kernel_rfl, ?y767⟩) hHeld ?r767
  case y767 => (intro w' hSw; (try dsimp only at hSw); have q1 := (RX.out.up hSw RX.out.lt).cell (j := 1) (v := .slice (some ⟨xb, xo, none⟩) 4 cc7) rfl; have q0 := (RX.out.up hSw RX.out.lt).cell (j := 0) (v := .int .i64 1) rfl; have q2 := bcl hSw hxb X0.out; clear hSw; go_simp; try with_reducible rfl)
  simp only [Act.put, l1, l2, l3, l4, l5, l6]
  refine Still.takeBy (i := 77) [] (v := ?v768) kr kr rfl kr kr kr (fun _ _ _ h => h) (Or.inl ⟨by kernel_rfl, ?y768⟩) hHeld ?r768
  case y768 => (intro w' hSw; (try dsimp only at hSw); have q1 := (RX.out.up hSw RX.out.lt).cell (j := 1) (v := .slice (some ⟨xb, xo, none⟩) 4 cc7) rfl; have q0 := (RX.out.up hSw RX.out.lt).cell (j := 0) (v := .int .i64 1) rfl; have q2 := bcl hSw hxb X0.out; clear hSw; go_simp; try with_reducible rfl)
  simp only [Act.put, l1, l2, l3, l4, l5, l6]
  refine Still.takeBy (i := 78) [] (v := ?v769) kr kr rfl kr kr kr (fun _ _ _ h => h) (Or.inl ⟨by kernel_rfl, ?y769⟩) hHeld ?r769
  case y769 => (intro w' hSw; (try dsimp only at hSw); have q1 := (RX.out.up hSw RX.out.lt).cell (j := 1) (v := .slice (some ⟨xb, xo, none⟩) 4 cc7) rfl; have q0 := (RX.out.up hSw RX.out.lt).cell (j := 0) (v := .int .i64 1) rfl; have q2 := bcl hSw hxb X0.out; clear hSw; go_simp; try with_reducible rfl)
  simp only [Act.put, l1, l2, l3, l4, l5, l6]
  refine Still.takeBy (i := 79) [] (v := ?v770) kr kr rfl kr kr kr (fun _ _ _ h => h) (Or.inl ⟨by kernel_rfl, ?y770⟩) hHeld ?r770
  case y770 => (intro w' hSw; (try dsimp only at hSw); have q1 := (RX.out.up hSw RX.out.lt).cell (j := 1) (v := .slice (some ⟨xb, xo, none⟩) 4 cc7) rfl; have q0 := (RX.out.up hSw RX.out.lt).cell (j := 0) (v := .int .i64 1) rfl; have q2 := bcl hSw hxb X0.out; clear hSw; go_simp; try with_reducible rfl)
  simp only [Act.put, l1, l2, l3, l4, l5, l6]
  refine Still.takeBy (i := 80) [] (v := ?v771) kr kr rfl kr kr kr (fun _ _ _ h => h) (Or.inl ⟨by kernel_rfl, ?y771⟩) hHeld ?r771
  case y771 => (intro w' hSw; (try dsimp only at hSw); have q1 := (RX.out.up hSw RX.out.lt).cell (j := 1) (v := .slice (some ⟨xb, xo, none⟩) 4 cc7) rfl; have q0 := (RX.out.up hSw RX.out.lt).cell (j := 0) (v := .int .i64 1) rfl; have q2 := bcl hSw hxb X0.out; clear hSw; go_simp; try with_reducible rfl)
  simp only [Act.put, l1, l2, l3, l4, l5, l6]
  refine Still.takeBy (i := 81) [] (v := ?v772) kr kr rfl kr kr kr (fun _ _ _ h => h) (Or.inl ⟨by kernel_rfl, ?y772⟩) hHeld ?r772
  case y772 => (intro w' hSw; (try dsimp only at hSw); have q1 := (RX.out.up hSw RX.out.lt).cell (j := 1) (v := .slice (some ⟨xb, xo, none⟩) 4 cc7) rfl; have q0 := (RX.out.up hSw RX.out.lt).cell (j := 0) (v := .int .i64 1) rfl; have q2 := bcl hSw hxb X0.out; clear hSw; go_simp; try with_reducible rfl)
  simp only [Act.put, l1, l2, l3, l4, l5, l6]
  refine Still.takeBy (i := 82) [] (v := ?v773) kr kr rfl kr kr kr (fun _ _ _ h => h) (Or.inl ⟨by kernel_rfl, ?y773⟩) hHeld ?r773
  case y773 => (intro w' hSw; (try dsimp only at hSw); have q1 := (RX.out.up hSw RX.out.lt).cell (j := 1) (v := .slice (some ⟨xb, xo, none⟩) 4 cc7) rfl; have q0 := (RX.out.up hSw RX.out.lt).cell (j := 0) (v := .int .i64 1) rfl; have q2 := bcl hSw hxb X0.out; clear hSw; go_simp; try with_reducible rfl)
  simp only [Act.put, l1, l2, l3, l4, l5, l6]
  refine Still.takeBy (i := 83) [] (v := ?v774) kr kr rfl kr kr kr (fun _ _ _ h => h) (Or.inl ⟨by kernel_rfl, ?y774⟩) hHeld ?r774
  case y774 => (intro w' hSw; (try dsimp only at hSw); have q1 := (RX.out.up hSw RX.out.lt).cell (j := 1) (v := .slice (some ⟨xb, xo, none⟩) 4 cc7) rfl; have q0 := (RX.out.up hSw RX.out.lt).cell (j := 0) (v := .int .i64 1) rfl; have q2 := bcl hSw hxb X0.out; clear hSw; go_simp; try with_reducible rfl)
  simp only [Act.put, l1, l2, l3, l4, l5, l6]
  refine Still.all (rs := [84]) kr (by simp) (Still.one (i := 84) rfl rfl (fun K hK => ?_) (by simp))
  go_simp
  refine hK _ _ ab (fun _ => Still.vv ?_)
  clear hK K
  go_wp2
  go_ret
  exact ⟨rfl, HD7.out.trans (hHeld.mono HD7.out.size)⟩
end Go.Proofs.YtehhhiodfcdnmaaGreatDoor

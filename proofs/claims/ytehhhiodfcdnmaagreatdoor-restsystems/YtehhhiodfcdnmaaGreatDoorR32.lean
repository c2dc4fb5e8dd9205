/- view.Purge. -/
import Derived.Test.YtehhhiodfcdnmaaGreatDoorR31
import Derived.Test.YtehhhiodfcdnmaaGreatDoorR19
namespace Go.Proofs.YtehhhiodfcdnmaaGreatDoor
set_option linter.unusedSimpArgs false
set_option linter.unusedVariables false
set_option maxRecDepth 100000
set_option maxHeartbeats 8000000
open Go.RowKit Go.Sort
def sysZ : SysD := ⟨[], [], []⟩
theorem SysF.nil (n : Nat) (w : World) : SysF n w (.slice none 0 0) (.slice none 0 0) (.slice none 0 0) sysZ := ⟨⟨[], rfl, Sl.nil _ _, fun k hk => by simp [sysZ] at hk⟩, newB_nil _ _, Sl.nil _ _, Sl.nil _ _, newB_nil _ _, newB_nil _ _⟩
def purgeR (S : SysD) (part : Int) : SysD := if thE S part = 0 then purgeS S part else sysZ
theorem thE_zero {S : SysD} {part : Int} (h : thE S part = 0) : chkS S = 0 ∧ 0 ≤ part ∧ part < S.parts.length := by
 unfold thE at h
 by_cases hk : chkS S = 0
 ·rw [if_pos hk] at h
  by_cases hw : withinB part 0 ((S.parts.length : Int) - 1) = true
  ·simp [withinB] at hw
   exact ⟨hk, by omega, by omega⟩
  ·rw [if_neg hw] at h
   omega
 ·rw [if_neg hk] at h
  exact absurd h hk
theorem small_sys {S : SysD} (hz : chkS S = 0) : SmallS S := by
 have hcnt := (countsB_is (chkS_zero hz).1)
 refine ⟨hcnt.1.2.1, by have := hcnt.1.2.2.1; omega, by have := hcnt.1.2.2.2.2; omega, fun k h => ⟨?_, ?_⟩⟩
 ·have := (chkC_zero ((chkS_zero hz).2.1 k h)).2.1
  omega
 ·have := hcnt.2 k h
  omega
theorem small_purge {S : SysD} (hz : chkS S = 0) (part : Int) : SmallS (purgeS S part) := by
 have h := small_sys hz
 refine ⟨by rw [purgeS_len]; exact h.p, h.c, h.s, fun k hk => ?_⟩
 have hk' : k < S.parts.length := by rw [purgeS_len] at hk; exact hk
 rw [purgeS_at S part k hk hk']
 unfold purgeP
 split
 ·exact h.q k hk'
 ·decide
theorem purge_any (S : SysD) (part : Int) (vp vc vs : Value) (w : World) (he : Env w) (hS : Sys w vp vc vs S) (v0 : Int) (hv0 : thE S part = v0) (D' : SysD) (hD' : purgeR S part = D') :
  Calls Tryz.prog 15 #[.agg #[vp, vc, vs], .int .i64 part] w fun e w' => ∃ xp xc xs, e = .returned (.tuple #[.agg #[xp, xc, xs], .int .i64 v0]) ∧ SysF w.heap.size w' xp xc xs D' ∧ Below w.heap.size w w' := by
 obtain ⟨pa, pc, rfl⟩ := hS.p.form
 obtain ⟨ka, kc, rfl⟩ := hS.c.form
 obtain ⟨sa, sc, rfl⟩ := hS.s.form
 have hmf : ∀ (fn : Go.Fn) (first cap : Array Value) (w : World), (Instr.makeFunc fn first cap).run Tryz.prog w = .ok (.func fn first cap) w := fun _ _ _ _ => rfl
 have HE := hd he
 have HS := hd hS
 have HV := hd hv0
 have HDD := hd hD'
 clear he hS hv0 hD'
 go_enter Tryz.func15, Tryz.ntmps15
 go_wp2_with fail
 refine (vcheckPart_any S _ _ _ part _ (HE.out.up up0) (HS.out.up up0) v0 HV.out).mono ?_
 rintro e w1 ⟨rfl, b1⟩
 have z1 := b1.size
 simp at z1
 have R2 : Hid (Rw w1 w.heap.size 26 #[.slice pa S.parts.length pc, .slice ka S.chans.length kc, .slice sa S.slots.length sc]) := Rw.up rn0 b1 o3
 have R3 : Hid (Rw w1 (w.heap.size + 1) 3 #[.int .i64 part]) := Rw.up rn0 b1 o3
 have R4 : Hid (Rw w1 (w.heap.size + 2) 26 #[.slice none 0 0, .slice none 0 0, .slice none 0 0]) := Rw.up rn0 b1 o3
 have HB : Hid (Below w.heap.size w w1) := by
  refine Below.trans ?_ (b1.mono o3)
  exact up0
 clear b1
 by_cases h0 : v0 = 0
 rotate_left
 ·have h0b : (v0 == 0) = false := by simpa using h0
  have e2 : sysZ = D' := by rw [← HDD.out]; unfold purgeR; rw [if_neg (by rw [HV.out]; exact h0)]
  subst e2
  clear h0 HDD HV R2 R3
  go_wp2_with (refine wpList_store_rowW rfl 26 (.tmp 4) (.tmp 15) rfl (w.heap.size + 1 + 1) #[.slice none 0 0, .slice none 0 0, .slice none 0 0] rfl rfl 26 _ R4.out sizeSys rfl (by simp [Value.oneCell']) ?_)
  intro W9 HW9
  have r9 : Rw W9 (w.heap.size + 1 + 1) 26 #[.slice none 0 0, .slice none 0 0, .slice none 0 0] := by rw [HW9.out]; exact R4.out.row _
  have HB9 := hd (show Below w.heap.size w W9 by rw [HW9.out]; exact below_row HB.out om _)
  clear HW9
  go_wp2
  refine bodyPost_ret (results_row_tmp Tryz.results15 _ _ (w.heap.size + 1 + 1) _ _ rfl rfl (run_loadVar_row _ _ 26 _ _ (0, 0) _ r9 Tryz.underlying26 rfl sizeSys)) rfl ⟨_, _, _, rfl, SysF.nil _ _, HB9.out⟩
 subst h0
 obtain ⟨hk, hp0, hp1⟩ := thE_zero HV.out
 obtain ⟨pn, rfl⟩ : ∃ pn : Nat, part = pn := ⟨part.toNat, by omega⟩
 have hpn : pn < S.parts.length := by omega
 have e2 : purgeS S pn = D' := by rw [← HDD.out]; unfold purgeR; rw [if_pos HV.out]
 have HK := hd hk
 have hrq : reachQ S = S.parts.length := by unfold reachQ; rw [if_pos hk]
 have HRQ := hd hrq
 have hn4 := (small_sys hk).p
 clear hk hp0 hp1 HDD HV hrq
 have s0 := R2.out.cell (j := 0) (v := .slice pa S.parts.length pc) rfl
 have s1 := R2.out.cell (j := 1) (v := .slice ka S.chans.length kc) rfl
 have s2 := R2.out.cell (j := 2) (v := .slice sa S.slots.length sc) rfl
 go_wp2_with fail
 refine (flReach_any S _ _ _ _ (HE.out.up HB.out) (HS.out.up HB.out)).mono ?_
 rw [HRQ.out, HK.out]
 rintro e w2 ⟨tv, rfl, hT, b2, -⟩
 obtain ⟨ta, tc, rfl⟩ := hT.form
 have z2 := b2.size
 have HT := hd hT
 have R22 := hd (R2.out.up b2 R2.out.lt)
 have R32 := hd (R3.out.up b2 R3.out.lt)
 have R42 := hd (R4.out.up b2 R4.out.lt)
 have HB2 := hd (HB.out.trans (b2.mono om))
 clear b2 hT s0 s1 s2 R2 R3 R4 HB
 go_upto_region 5 with fail
 generalize hX : World.alloc _ _ = X
 have hXX : X = w2.alloc (.cells #[.slice ta S.parts.length tc] 59) := by rw [← hX]
 have b3 : Below w2.heap.size w2 X := by rw [hXX]; exact (Below.refl _ _).alloc (Nat.le_refl _) _
 have R7 : Hid (Rw X w2.heap.size 59 #[.slice ta S.parts.length tc]) := hd (by rw [hXX]; exact Rw.new _ _ _ rfl)
 have z3 : X.heap.size = w2.heap.size + 1 := by rw [hXX]; simp
 have R2 := hd (R22.out.up b3 R22.out.lt)
 have R3 := hd (R32.out.up b3 R32.out.lt)
 have R4 := hd (R42.out.up b3 R42.out.lt)
 have HT3 := hd (HT.out.up b3)
 have HB := hd (HB2.out.trans (b3.mono om))
 clear hX hXX b3 R22 R32 R42 HB2 HT
 have s0 := R2.out.cell (j := 0) (v := .slice pa S.parts.length pc) rfl
 have s1 := R2.out.cell (j := 1) (v := .slice ka S.chans.length kc) rfl
 have s2 := R2.out.cell (j := 2) (v := .slice sa S.slots.length sc) rfl
 obtain ⟨P, hP⟩ : ∃ P, (purgeS S pn).parts = P := ⟨_, rfl⟩
 have hPl : P.length = S.parts.length := by rw [← hP]; exact purgeS_len S pn
 have HPL := hd hPl
 have HP := hd hP
 clear hPl hP
 go_wp2_with fail
 refine (turned_any S P HPL.out hn4 0 46 entPurge1 #[.pointer (some ⟨w2.heap.size, 0, none⟩), .pointer (some ⟨w.heap.size + 1, 0, none⟩), .pointer (some ⟨w.heap.size, 0, none⟩)] _ _ _ X (HS.out.up HB.out) (fun k hk hk' c i W h1 h2 h3 => by
  refine (purge1_any S HK.out pn k hpn hk w2.heap.size (w.heap.size + 1) w.heap.size _ _ _ _ c i X W ((HE.out.up HB.out).up h1) h1 ((HS.out.up HB.out).up h1) (HT3.out.up h1) (R7.out.up h1 R7.out.lt) (R3.out.up h1 R3.out.lt) (R2.out.up h1 R2.out.lt) h3).mono ?_
  rintro e W' ⟨c', i', rfl, hq, o1, o2, hb⟩
  have e3 : P[k] = purgeP S pn k S.parts[k] := by
   have := HP.out
   subst this
   exact purgeS_at S pn k hk' hk
  rw [e3]
  exact ⟨c', i', rfl, hq, ⟨fun b _ => Nat.zero_le _, fun b _ => Nat.zero_le _⟩, o1, o2, hb⟩)).mono ?_
 rintro e w4 ⟨xp, rfl, hPF, hNP, b4⟩
 obtain ⟨xa, xb, rfl⟩ := hPF.r.form
 have z4 := b4.size
 have R44 := hd (R4.out.up b4 R4.out.lt)
 have HB4 := hd (HB.out.trans (b4.mono om))
 have HSY : Hid (Sys w4 (.slice xa P.length xb) (.slice ka S.chans.length kc) (.slice sa S.slots.length sc) (purgeS S pn)) := hd ⟨by rw [HP.out]; exact hPF.r, HS.out.c.up HB4.out, HS.out.s.up HB4.out⟩
 clear b4 hPF hNP s0 s1 s2 R2 R3 R4 R7 HT3 HB
 go_wp2_with (refine wpList_store_rowW rfl 26 (.tmp 9) (.tmp 24) rfl w4.heap.size #[.slice xa P.length xb, .slice ka S.chans.length kc, .slice sa S.slots.length sc] rfl rfl 26 #[.slice none 0 0, .slice none 0 0, .slice none 0 0] rn0 sizeSys rfl (by simp [Value.oneCell']) ?_)
 intro W5 HW5
 have b5 : Below w4.heap.size w4 W5 := by rw [HW5.out]; exact below_row ((Below.refl _ _).alloc (Nat.le_refl _) _) (Nat.le_refl _) _
 have R9 : Rw W5 w4.heap.size 26 #[.slice xa P.length xb, .slice ka S.chans.length kc, .slice sa S.slots.length sc] := by
  rw [HW5.out]
  exact Rw.row (cs := #[.slice none 0 0, .slice none 0 0, .slice none 0 0]) rn0 _
 have q0 := R9.cell (j := 0) (v := .slice xa P.length xb) rfl
 have q1 := R9.cell (j := 1) (v := .slice ka S.chans.length kc) rfl
 have q2 := R9.cell (j := 2) (v := .slice sa S.slots.length sc) rfl
 have z5 := b5.size
 have R45 := hd (R44.out.up b5 R44.out.lt)
 have HB5 := hd (HB4.out.trans (b5.mono om))
 have HSY5 := hd (HSY.out.up b5)
 clear HW5 b5 R9 R44 HB4 HSY
 go_wp2_with fail
 refine (whole_any (purgeS S pn) (small_purge HK.out pn) _ _ _ _ HSY5.out).mono ?_
 rintro e w6 ⟨yp, yc, ys, rfl, hF, b6⟩
 rw [e2] at hF
 obtain ⟨ya, yb, rfl⟩ := hF.p.r.form
 obtain ⟨ca, cb, rfl⟩ := hF.c.form
 obtain ⟨da, db, rfl⟩ := hF.s.form
 have z6 := b6.size
 have R46 := hd (R45.out.up b6 R45.out.lt)
 have HB6 := hd (HB5.out.trans (b6.mono om))
 have HF := hd hF
 clear b6 hF q0 q1 q2 R45 HB5 HSY5
 go_wp2_with (refine wpList_store_rowW rfl 26 (.tmp 4) (.tmp 26) rfl (w.heap.size + 1 + 1) #[.slice ya D'.parts.length yb, .slice ca D'.chans.length cb, .slice da D'.slots.length db] rfl rfl 26 _ R46.out sizeSys rfl (by simp [Value.oneCell']) ?_)
 intro W7 HW7
 have r7 : Rw W7 (w.heap.size + 1 + 1) 26 #[.slice ya D'.parts.length yb, .slice ca D'.chans.length cb, .slice da D'.slots.length db] := by rw [HW7.out]; exact R46.out.row _
 have HB7 := hd (show Below w.heap.size w W7 by rw [HW7.out]; exact below_row HB6.out om _)
 have F7 := hd (show SysF w.heap.size W7 _ _ _ D' by rw [HW7.out]; exact (HF.out.row om _).low om)
 clear HW7
 go_wp2
 exact bodyPost_ret (results_row_tmp Tryz.results15 _ _ (w.heap.size + 1 + 1) _ _ rfl rfl (run_loadVar_row _ _ 26 _ _ (0, 0) _ r7 Tryz.underlying26 rfl sizeSys)) rfl ⟨_, _, _, rfl, F7.out, HB7.out⟩
def stepW (S : SysD) (D : WldD) : Int := if chkW S D ≠ 0 then chkW S D else if D.tick = 300 then 3 else 0
def stepR (S : SysD) (D : WldD) : WldD := if stepW S D = 0 then nextC S D else wldZ
theorem stepW_zero {S : SysD} {D : WldD} (h : stepW S D = 0) : chkS S = 0 ∧ Right S D ∧ D.tick < 300 := by
 unfold stepW at h
 split at h
 ·exact absurd h (by assumption)
 ·rename_i h1
  split at h
  ·omega
  ·rename_i h2
   obtain ⟨h3, h4⟩ := chkW_zero (S := S) (D := D) (by simpa using h1)
   have := h4.t1
   exact ⟨h3, h4, by omega⟩
theorem stepW_right {S : SysD} {D : WldD} (hk : chkS S = 0) (h : Right S D) (ht : D.tick < 300) : stepW S D = 0 := by
 unfold stepW
 rw [chkW_right hk h, if_neg (by simp), if_neg om]
theorem kernStep_any (S : SysD) (D : WldD) (vp vc vs uc ul : Value) (w : World) (he : Env w) (hS : Sys w vp vc vs S) (hW : Wld w uc ul D) (e0 : Int) (hk : stepW S D = e0) (D' : WldD) (hD : stepR S D = D') :
  Calls Tryz.prog 27 #[.agg #[vp, vc, vs], .agg #[.int .i64 D.tick, uc, ul]] w fun e w' => ∃ xc xl, e = .returned (.tuple #[.agg #[.int .i64 D'.tick, xc, xl], .int .i64 e0]) ∧ WldF w.heap.size w' xc xl D' ∧ Below w.heap.size w w' := by
 obtain ⟨pa, pc, rfl⟩ := hS.p.form
 obtain ⟨ka, kc, rfl⟩ := hS.c.form
 obtain ⟨sa, sc, rfl⟩ := hS.s.form
 obtain ⟨ua, uc, rfl⟩ := hW.c.form
 obtain ⟨la, lc, rfl⟩ := hW.l.form
 have HC := hd fun w he hS hW => kernCheck_any S D (.slice pa S.parts.length pc) (.slice ka S.chans.length kc) (.slice sa S.slots.length sc) (.slice ua D.cells.length uc) (.slice la D.lines.length lc) w he hS hW
 have HE := hd he
 have HS := hd hS
 have HW := hd hW
 obtain ⟨c0, hc0⟩ : ∃ c0, chkW S D = c0 := ⟨_, rfl⟩
 rw [hc0] at HC
 have HX : Hid (e0 = 0 → next_any = next_any) := hd (fun _ => rfl)
 clear he hS hW
 by_cases h0 : c0 = 0
 ·subst h0
  obtain ⟨hkS, hR⟩ := chkW_zero hc0
  by_cases ht : D.tick = 300
  ·have ht' : (D.tick == 300) = true := by simpa using ht
   have hw3 : stepW S D = 3 := by unfold stepW; rw [hc0, if_neg (by simp), if_pos ht]
   obtain rfl : e0 = 3 := by rw [← hk, hw3]
   have HD : Hid (wldZ = D') := by
    show _ = _
    rw [← hD, stepR, if_neg (by rw [hw3]; decide)]
   clear hk hD hw3 hc0 hkS hR ht HX
   go_enter Tryz.func27, Tryz.ntmps27
   go_wp2_with fail
   refine (HC.out _ (HE.out.up up0) (HS.out.up up0) (HW.out.up up0)).mono ?_
   rintro e w1 ⟨rfl, b1⟩
   have z1 := b1.size
   simp at z1
   have R1 : Hid (Rw w1 (w.heap.size + 1) 30 #[.int .i64 D.tick, .slice ua D.cells.length uc, .slice la D.lines.length lc]) := Rw.up rn0 b1 o3
   have RB : Hid (Rw w1 (w.heap.size + 1 + 1) 30 #[.int .i64 0, .slice none 0 0, .slice none 0 0]) := Rw.up rn0 b1 o3
   have HB : Hid (Below w.heap.size w w1) := by
    refine Below.trans ?_ (b1.mono o3)
    exact up0
   have q0 := R1.out.cell (j := 0) (v := .int .i64 D.tick) rfl
   clear b1 HC
   go_wp2_with (refine wpList_store_row rfl 30 (.tmp 4) (.tmp 17) rfl (w.heap.size + 1 + 1) #[.int .i64 0, .slice none 0 0, .slice none 0 0] rfl rfl 30 #[.int .i64 0, .slice none 0 0, .slice none 0 0] RB.out sizeWld rfl (world_one _ _ _ _ _ _ _) ?_)
   refine bodyPost_ret (results_row_tmp Tryz.results27 _ _ (w.heap.size + 1 + 1) _ _ rfl rfl (run_loadVar_row _ _ 30 _ #[.int .i64 0, .slice none 0 0, .slice none 0 0] (0, 0) _ (RB.out.row _) Tryz.underlying30 rfl sizeWld)) rfl ⟨.slice none 0 0, .slice none 0 0, by rw [← HD.out]; rfl, by rw [← HD.out]; exact WldF.nil _ _, below_row HB.out om _⟩
  ·have ht' : (D.tick == 300) = false := by simpa using ht
   have hw3 : stepW S D = 0 := by unfold stepW; rw [hc0, if_neg (by simp), if_neg ht]
   obtain rfl : e0 = 0 := by rw [← hk, hw3]
   have HD : Hid (nextC S D = D') := by
    show _ = _
    rw [← hD, stepR, if_pos hw3]
   obtain ⟨hnr, hnt⟩ := next_right hkS hR (by have := hR.t1; omega)
   have HT := hd hnt
   have HNX := hd fun w he hS hW => next_any S D (.slice pa S.parts.length pc) (.slice ka S.chans.length kc) (.slice sa S.slots.length sc) (.slice ua D.cells.length uc) (.slice la D.lines.length lc) w he hS hW hkS hR.t0 (by have := hR.t1; omega) hR.c hR.l
   clear hk hD hw3 hc0 hkS hR ht HX hnr hnt
   go_enter Tryz.func27, Tryz.ntmps27
   go_wp2_with fail
   refine (HC.out _ (HE.out.up up0) (HS.out.up up0) (HW.out.up up0)).mono ?_
   rintro e w1 ⟨rfl, b1⟩
   have z1 := b1.size
   simp at z1
   have R0 : Hid (Rw w1 w.heap.size 26 #[.slice pa S.parts.length pc, .slice ka S.chans.length kc, .slice sa S.slots.length sc]) := Rw.up rn0 b1 o3
   have R1 : Hid (Rw w1 (w.heap.size + 1) 30 #[.int .i64 D.tick, .slice ua D.cells.length uc, .slice la D.lines.length lc]) := Rw.up rn0 b1 o3
   have RB : Hid (Rw w1 (w.heap.size + 1 + 1) 30 #[.int .i64 0, .slice none 0 0, .slice none 0 0]) := Rw.up rn0 b1 o3
   have HB : Hid (Below w.heap.size w w1) := by
    refine Below.trans ?_ (b1.mono o3)
    exact up0
   have q0 := R1.out.cell (j := 0) (v := .int .i64 D.tick) rfl
   have q1 := R1.out.cell (j := 1) (v := .slice ua D.cells.length uc) rfl
   have q2 := R1.out.cell (j := 2) (v := .slice la D.lines.length lc) rfl
   have s0 := R0.out.cell (j := 0) (v := .slice pa S.parts.length pc) rfl
   have s1 := R0.out.cell (j := 1) (v := .slice ka S.chans.length kc) rfl
   have s2 := R0.out.cell (j := 2) (v := .slice sa S.slots.length sc) rfl
   clear b1 HC
   go_wp2_with fail
   refine (HNX.out _ (HE.out.up HB.out) (HS.out.up HB.out) (HW.out.up HB.out)).mono ?_
   rintro e w2 ⟨xc, xl, rfl, hN, b2⟩
   obtain ⟨a5, c5, rfl⟩ := hN.wld.c.form
   obtain ⟨a6, c6, rfl⟩ := hN.wld.l.form
   have HN := hd hN
   have RB2 := hd (RB.out.up b2 om)
   have HB2 := hd (HB.out.trans (b2.mono om))
   clear b2 hN q0 q1 q2 s0 s1 s2 R0 R1 RB HNX
   go_wp2_with (refine wpList_store_row rfl 30 (.tmp 4) (.tmp 20) rfl (w.heap.size + 1 + 1) #[.int .i64 (D.tick + 1), .slice a5 (nextC S D).cells.length c5, .slice a6 (nextC S D).lines.length c6] rfl rfl 30 #[.int .i64 0, .slice none 0 0, .slice none 0 0] RB2.out sizeWld rfl (world_one _ _ _ _ _ _ _) ?_)
   refine bodyPost_ret (results_row_tmp Tryz.results27 _ _ (w.heap.size + 1 + 1) _ _ rfl rfl (run_loadVar_row _ _ 30 _ #[.int .i64 (D.tick + 1), .slice a5 (nextC S D).cells.length c5, .slice a6 (nextC S D).lines.length c6] (0, 0) _ (RB2.out.row _) Tryz.underlying30 rfl sizeWld)) rfl ⟨.slice a5 (nextC S D).cells.length c5, .slice a6 (nextC S D).lines.length c6, by rw [← HD.out, HT.out]; rfl, by rw [← HD.out]; exact (HN.out.row om _).low om, below_row HB2.out om _⟩
 ·have h0' : (c0 != 0) = true := by simpa using h0
  have hw3 : stepW S D = c0 := by unfold stepW; rw [hc0, if_pos h0]
  obtain rfl : e0 = c0 := by rw [← hk, hw3]
  have HD : Hid (wldZ = D') := by
   show _ = _
   rw [← hD, stepR, if_neg (by rw [hw3]; exact h0)]
  clear hk hD hw3 hc0 h0 HX
  go_enter Tryz.func27, Tryz.ntmps27
  go_wp2_with fail
  refine (HC.out _ (HE.out.up up0) (HS.out.up up0) (HW.out.up up0)).mono ?_
  rintro e w1 ⟨rfl, b1⟩
  have z1 := b1.size
  simp at z1
  have RB : Hid (Rw w1 (w.heap.size + 1 + 1) 30 #[.int .i64 0, .slice none 0 0, .slice none 0 0]) := Rw.up rn0 b1 o3
  have HB : Hid (Below w.heap.size w w1) := by
   refine Below.trans ?_ (b1.mono o3)
   exact up0
  clear b1 HC
  go_wp2_with (refine wpList_store_row rfl 30 (.tmp 4) (.tmp 12) rfl (w.heap.size + 1 + 1) #[.int .i64 0, .slice none 0 0, .slice none 0 0] rfl rfl 30 #[.int .i64 0, .slice none 0 0, .slice none 0 0] RB.out sizeWld rfl (world_one _ _ _ _ _ _ _) ?_)
  refine bodyPost_ret (results_row_tmp Tryz.results27 _ _ (w.heap.size + 1 + 1) _ _ rfl rfl (run_loadVar_row _ _ 30 _ #[.int .i64 0, .slice none 0 0, .slice none 0 0] (0, 0) _ (RB.out.row _) Tryz.underlying30 rfl sizeWld)) rfl ⟨.slice none 0 0, .slice none 0 0, by rw [← HD.out]; rfl, by rw [← HD.out]; exact WldF.nil _ _, below_row HB.out om _⟩
def runE (S : SysD) (n : Int) : Int := if chkS S ≠ 0 then chkS S else if withinB n 0 300 then 0 else 3
def runR (S : SysD) (n : Int) : WldD := if runE S n = 0 then runN S n.toNat (beginC S) else wldZ
theorem runE_zero {S : SysD} {n : Int} (h : runE S n = 0) : chkS S = 0 ∧ 0 ≤ n ∧ n ≤ 300 := by
 unfold runE at h
 split at h
 ·exact absurd h (by assumption)
 ·rename_i h1
  split at h
  ·rename_i h2
   unfold withinB at h2
   rw [Bool.and_eq_true, decide_eq_true_eq, decide_eq_true_eq] at h2
   exact ⟨by simpa using h1, h2⟩
  ·omega
structure RnS (w W : World) (g : Nat) (vp vc vs : Value) (D : WldD) : Prop where
 d : Below w.heap.size w W
 r0 : Rw W w.heap.size 26 #[vp, vc, vs]
 rb : Rw W (w.heap.size + 1) 30 #[.int .i64 0, .slice none 0 0, .slice none 0 0]
 r1 : ∃ ua uc la lc, Rw W g 30 #[.int .i64 D.tick, .slice ua D.cells.length uc, .slice la D.lines.length lc] ∧ WldF (w.heap.size + 2) W (.slice ua D.cells.length uc) (.slice la D.lines.length lc) D
 g0 : w.heap.size + 2 ≤ g
theorem kernRun_any (S : SysD) (n : Int) (vp vc vs : Value) (w : World) (he : Env w) (hS : Sys w vp vc vs S) (e0 : Int) (hk : runE S n = e0) (D' : WldD) (hD : runR S n = D') :
  Calls Tryz.prog 39 #[.agg #[vp, vc, vs], .int .i64 n] w fun e w' => ∃ xc xl, e = .returned (.tuple #[.agg #[.int .i64 D'.tick, xc, xl], .int .i64 e0]) ∧ WldF w.heap.size w' xc xl D' ∧ Below w.heap.size w w' := by
 obtain ⟨pa, pc, rfl⟩ := hS.p.form
 obtain ⟨ka, kc, rfl⟩ := hS.c.form
 obtain ⟨sa, sc, rfl⟩ := hS.s.form
 obtain ⟨c0, hc0⟩ : ∃ c0, chkS S = c0 := ⟨_, rfl⟩
 obtain ⟨B, hB⟩ : ∃ B, beginR S = B := ⟨_, rfl⟩
 have HC := hd fun w he hS => kernBegin_any S (.slice pa S.parts.length pc) (.slice ka S.chans.length kc) (.slice sa S.slots.length sc) w he hS c0 hc0 B hB
 have HE := hd he
 have HS := hd hS
 clear he hS
 by_cases h0 : c0 = 0
 ·subst h0
  obtain rfl : beginC S = B := by rw [← hB, beginR, if_pos hc0]
  have HI := hd fun V => isRun_any n V
  have HRT := hd (begin_right hc0)
  cases hn : withinB n 0 300
  ·have hw3 : runE S n = 3 := by unfold runE; rw [hc0, if_neg (by simp), hn]; rfl
   obtain rfl : e0 = 3 := by rw [← hk, hw3]
   have HD : Hid (wldZ = D') := by
    show _ = _
    rw [← hD, runR, if_neg (by rw [hw3]; decide)]
   rw [hn] at HI
   clear hk hD hw3 hc0 hn hB HRT
   go_enter Tryz.func39, Tryz.ntmps39
   go_wp2_with fail
   refine (HC.out _ (HE.out.up up0) (HS.out.up up0)).mono ?_
   rintro e w1 ⟨xc, xl, rfl, hN, b1⟩
   obtain ⟨a5, c5, rfl⟩ := hN.wld.c.form
   obtain ⟨a6, c6, rfl⟩ := hN.wld.l.form
   have z1 := b1.size
   simp at z1
   have RB : Hid (Rw w1 (w.heap.size + 1) 30 #[.int .i64 0, .slice none 0 0, .slice none 0 0]) := Rw.up rn0 b1 o3
   have HB : Hid (Below w.heap.size w w1) := by
    refine Below.trans ?_ (b1.mono o3)
    exact up0
   clear b1 HC hN
   go_wp2_with (refine wpList_store_rowW rfl 30 (.tmp 6) (.tmp 11) rfl w1.heap.size #[.int .i64 (beginC S).tick, .slice a5 (beginC S).cells.length c5, .slice a6 (beginC S).lines.length c6] rfl rfl 30 #[.int .i64 0, .slice none 0 0, .slice none 0 0] rn0 sizeWld rfl (world_one _ _ _ _ _ _ _) ?_)
   intro W HW1
   have RB2 : Hid (Rw W (w.heap.size + 1) 30 #[.int .i64 0, .slice none 0 0, .slice none 0 0]) := by
    show Rw _ _ _ _
    rw [HW1.out]
    exact (RB.out.up ((Below.refl _ _).alloc (Nat.le_refl _) _) om).row_other _ om
   have HB2 : Hid (Below w.heap.size w W) := by
    show Below _ _ _
    rw [HW1.out]
    exact below_row (HB.out.alloc om _) om _
   clear HW1 RB HB
   go_wp2_with (first | (go_at_call 73; refine (HI.out _).mono ?_; rintro e w2 ⟨rfl, rfl⟩) | (refine wpList_store_row rfl 30 (.tmp 4) (.tmp 20) rfl (w.heap.size + 1) #[.int .i64 0, .slice none 0 0, .slice none 0 0] rfl rfl 30 #[.int .i64 0, .slice none 0 0, .slice none 0 0] RB2.out sizeWld rfl (world_one _ _ _ _ _ _ _) ?_))
   refine bodyPost_ret (results_row_tmp Tryz.results39 _ _ (w.heap.size + 1) _ _ rfl rfl (run_loadVar_row _ _ 30 _ #[.int .i64 0, .slice none 0 0, .slice none 0 0] (0, 0) _ (RB2.out.row _) Tryz.underlying30 rfl sizeWld)) rfl ⟨.slice none 0 0, .slice none 0 0, by rw [← HD.out]; rfl, by rw [← HD.out]; exact WldF.nil _ _, below_row HB2.out om _⟩
  ·have hw3 : runE S n = 0 := by unfold runE; rw [hc0, if_neg (by simp), hn]; rfl
   obtain rfl : e0 = 0 := by rw [← hk, hw3]
   have HD : Hid (runN S n.toNat (beginC S) = D') := by
    show _ = _
    rw [← hD, runR, if_pos hw3]
   obtain ⟨-, hn0, hn1⟩ := runE_zero hw3
   obtain ⟨m, rfl⟩ := Int.eq_ofNat_of_zero_le hn0
   rw [hn] at HI
   have HNX := hd fun D uc ul w he hS hW hR ht => next_any S D (.slice pa S.parts.length pc) (.slice ka S.chans.length kc) (.slice sa S.slots.length sc) uc ul w he hS hW hc0 (Right.t0 (S := S) hR) ht (Right.c hR) (Right.l hR)
   have HKS := hd hc0
   clear hk hD hw3 hc0 hn hB
   go_enter Tryz.func39, Tryz.ntmps39
   go_wp2_with fail
   refine (HC.out _ (HE.out.up up0) (HS.out.up up0)).mono ?_
   rintro e w1 ⟨xc, xl, rfl, hN, b1⟩
   obtain ⟨a5, c5, rfl⟩ := hN.wld.c.form
   obtain ⟨a6, c6, rfl⟩ := hN.wld.l.form
   have z1 := b1.size
   simp at z1
   have R0 : Hid (Rw w1 w.heap.size 26 #[.slice pa S.parts.length pc, .slice ka S.chans.length kc, .slice sa S.slots.length sc]) := Rw.up rn0 b1 o3
   have RB : Hid (Rw w1 (w.heap.size + 1) 30 #[.int .i64 0, .slice none 0 0, .slice none 0 0]) := Rw.up rn0 b1 o3
   have HB : Hid (Below w.heap.size w w1) := by
    refine Below.trans ?_ (b1.mono o3)
    exact up0
   have HN := hd (hN.low (B' := w.heap.size + 2) (by simp))
   clear b1 HC hN
   go_wp2_with (refine wpList_store_rowW rfl 30 (.tmp 6) (.tmp 11) rfl w1.heap.size #[.int .i64 (beginC S).tick, .slice a5 (beginC S).cells.length c5, .slice a6 (beginC S).lines.length c6] rfl rfl 30 #[.int .i64 0, .slice none 0 0, .slice none 0 0] rn0 sizeWld rfl (world_one _ _ _ _ _ _ _) ?_)
   intro W HW1
   have hRn : RnS w W w1.heap.size (.slice pa S.parts.length pc) (.slice ka S.chans.length kc) (.slice sa S.slots.length sc) (beginC S) := by
    rw [HW1.out]
    have hb0 : Below w1.heap.size w1 (w1.alloc (.cells #[.int .i64 0, .slice none 0 0, .slice none 0 0] 30)) := (Below.refl _ _).alloc (Nat.le_refl _) _
    refine ⟨below_row (HB.out.alloc om _) om _, (R0.out.up hb0 om).row_other _ om, (RB.out.up hb0 om).row_other _ om, ⟨a5, c5, a6, c6, Rw.row (cs := #[.int .i64 0, .slice none 0 0, .slice none 0 0]) rn0 _, HN.out.fresh _ _⟩, by omega⟩
   have RN := hd hRn
   clear HW1 RB HB R0 hRn HN
   go_wp2_with (go_at_call 73; refine (HI.out _).mono ?_; rintro e w2 ⟨rfl, rfl⟩)
   go_loopw [22] (fun i wr => ∃ k : Nat, i = .int .i64 k ∧ k ≤ m ∧ Hid (RnS w wr w1.heap.size (.slice pa S.parts.length pc) (.slice ka S.chans.length kc) (.slice sa S.slots.length sc) (runN S k (beginC S)))) (fun i _ => m - (intOf i).toNat)
   case atStart => exact ⟨0, rfl, Nat.zero_le _, RN⟩
   case round =>
    obtain ⟨k, rfl, hk, HR⟩ := hrel
    have hR := HR.out
    clear HR RN
    by_cases hlt : k < m
    ·have hli : (k : Int) < m := by omega
     obtain ⟨hrt, htk⟩ := runN_right HKS.out k HRT.out (by show (0 : Int) + k ≤ 300; omega)
     have hnr := (next_right HKS.out hrt (by rw [htk]; show (0 : Int) + k < 300; omega)).2
     have hrn := runN_last S k (beginC S)
     have ht : (runN S k (beginC S)).tick < 300 := by rw [htk]; show (0 : Int) + k < 300; omega
     generalize runN S k (beginC S) = D at hR hrt hnr hrn ht
     obtain ⟨ua, uc, la, lc, r1, hwf⟩ := hR.r1
     have q0 := r1.cell (j := 0) (v := .int .i64 D.tick) rfl
     have q1 := r1.cell (j := 1) (v := .slice ua D.cells.length uc) rfl
     have q2 := r1.cell (j := 2) (v := .slice la D.lines.length lc) rfl
     have s0 := hR.r0.cell (j := 0) (v := .slice pa S.parts.length pc) rfl
     have s1 := hR.r0.cell (j := 1) (v := .slice ka S.chans.length kc) rfl
     have s2 := hR.r0.cell (j := 2) (v := .slice sa S.slots.length sc) rfl
     have HR := hd hR
     have HWF := hd hwf
     have R1 := hd r1
     have HRT2 := hd hrt
     have HNR := hd hnr
     have HRN := hd hrn
     clear hR hwf r1 hrt hnr hrn htk
     go_wp2_with fail
     refine (HNX.out D _ _ _ (HE.out.up HR.out.d) (HS.out.up HR.out.d) HWF.out.wld HRT2.out ht).mono ?_
     rintro e w3 ⟨xc, xl, rfl, hN, b3⟩
     obtain ⟨a7, c7, rfl⟩ := hN.wld.c.form
     obtain ⟨a8, c8, rfl⟩ := hN.wld.l.form
     have HN := hd hN
     have B3 := hd b3
     clear b3 hN q0 q1 q2 s0 s1 s2
     go_wp2_with (refine wpList_store_rowW rfl 30 (.tmp 6) (.tmp 26) rfl w1.heap.size #[.int .i64 (D.tick + 1), .slice a7 (nextC S D).cells.length c7, .slice a8 (nextC S D).lines.length c8] rfl rfl 30 _ (R1.out.up B3.out R1.out.lt) sizeWld rfl (world_one _ _ _ _ _ _ _) ?_)
     intro W4 HW4
     have RN4 : Hid (RnS w W4 w1.heap.size (.slice pa S.parts.length pc) (.slice ka S.chans.length kc) (.slice sa S.slots.length sc) (nextC S D)) := by
      show RnS _ _ _ _ _ _ _
      rw [HW4.out]
      have hg := HR.out.g0
      have hl1 := R1.out.lt
      have hsz := HR.out.d.size
      refine ⟨below_row (HR.out.d.trans (B3.out.mono hsz)) om _, (HR.out.r0.up B3.out HR.out.r0.lt).row_other _ om, (HR.out.rb.up B3.out HR.out.rb.lt).row_other _ om, ⟨a7, c7, a8, c8, ?_, (HN.out.row om _).low om⟩, hg⟩
      rw [HNR.out]
      exact (R1.out.up B3.out R1.out.lt).row _
     clear HW4 HN B3 HR HWF R1 HRT2 HNR
     go_wp2
     go_roundw
     case rel => exact ⟨k + 1, by go_num, by omega, by rw [HRN.out]; exact RN4⟩
     case measure => simp [intOf]; omega
    ·obtain rfl : k = m := by omega
     have hli : ¬ (k : Int) < k := by omega
     obtain ⟨hrt, htk⟩ := runN_right HKS.out k HRT.out (by show (0 : Int) + k ≤ 300; omega)
     have HDD := hd (show runN S k (beginC S) = D' by rw [← HD.out, Int.toNat_natCast])
     rw [HDD.out] at hR
     obtain ⟨ua, uc, la, lc, r1, hwf⟩ := hR.r1
     have HR := hd hR
     have HWF := hd hwf
     have R1 := hd r1
     have hsz := hR.d.size
     have hlb := hR.rb.lt
     clear hR hwf r1 hrt htk HDD HD
     go_wp2_with (first | (refine wpList_load_row rfl 30 (.tmp 6) rfl w1.heap.size rfl 30 _ (0, 0) _ R1.out Tryz.underlying30 rfl sizeWld ?_) | (refine wpList_store_row rfl 30 (.tmp 4) (.tmp 28) rfl (w.heap.size + 1) #[.int .i64 D'.tick, .slice ua D'.cells.length uc, .slice la D'.lines.length lc] rfl rfl 30 _ HR.out.rb sizeWld rfl (world_one _ _ _ _ _ _ _) ?_))
     refine bodyPost_ret (results_row_tmp Tryz.results39 _ _ (w.heap.size + 1) _ _ rfl rfl (run_loadVar_row _ _ 30 _ #[.int .i64 D'.tick, .slice ua D'.cells.length uc, .slice la D'.lines.length lc] (0, 0) _ (HR.out.rb.row _) Tryz.underlying30 rfl sizeWld)) rfl ⟨_, _, rfl, (HWF.out.row om _).low om, below_row HR.out.d om _⟩
 ·have h0' : (c0 != 0) = true := by simpa using h0
  have hw3 : runE S n = c0 := by unfold runE; rw [hc0, if_pos h0]
  obtain rfl : e0 = c0 := by rw [← hk, hw3]
  have HD : Hid (wldZ = D') := by
   show _ = _
   rw [← hD, runR, if_neg (by rw [hw3]; exact h0)]
  clear hk hD hw3 hc0 h0 hB
  go_enter Tryz.func39, Tryz.ntmps39
  go_wp2_with fail
  refine (HC.out _ (HE.out.up up0) (HS.out.up up0)).mono ?_
  rintro e w1 ⟨xc, xl, rfl, hN, b1⟩
  obtain ⟨a5, c5, rfl⟩ := hN.wld.c.form
  obtain ⟨a6, c6, rfl⟩ := hN.wld.l.form
  have z1 := b1.size
  simp at z1
  have RB : Hid (Rw w1 (w.heap.size + 1) 30 #[.int .i64 0, .slice none 0 0, .slice none 0 0]) := Rw.up rn0 b1 o3
  have HB : Hid (Below w.heap.size w w1) := by
   refine Below.trans ?_ (b1.mono o3)
   exact up0
  clear b1 HC hN
  go_wp2_with (refine wpList_store_rowW rfl 30 (.tmp 6) (.tmp 11) rfl w1.heap.size #[.int .i64 B.tick, .slice a5 B.cells.length c5, .slice a6 B.lines.length c6] rfl rfl 30 #[.int .i64 0, .slice none 0 0, .slice none 0 0] rn0 sizeWld rfl (world_one _ _ _ _ _ _ _) ?_)
  intro W HW1
  have RB2 : Hid (Rw W (w.heap.size + 1) 30 #[.int .i64 0, .slice none 0 0, .slice none 0 0]) := by
   show Rw _ _ _ _
   rw [HW1.out]
   exact (RB.out.up ((Below.refl _ _).alloc (Nat.le_refl _) _) om).row_other _ om
  have HB2 : Hid (Below w.heap.size w W) := by
   show Below _ _ _
   rw [HW1.out]
   exact below_row (HB.out.alloc om _) om _
  clear HW1 RB HB
  go_wp2_with (refine wpList_store_row rfl 30 (.tmp 4) (.tmp 15) rfl (w.heap.size + 1) #[.int .i64 0, .slice none 0 0, .slice none 0 0] rfl rfl 30 #[.int .i64 0, .slice none 0 0, .slice none 0 0] RB2.out sizeWld rfl (world_one _ _ _ _ _ _ _) ?_)
  refine bodyPost_ret (results_row_tmp Tryz.results39 _ _ (w.heap.size + 1) _ _ rfl rfl (run_loadVar_row _ _ 30 _ #[.int .i64 0, .slice none 0 0, .slice none 0 0] (0, 0) _ (RB2.out.row _) Tryz.underlying30 rfl sizeWld)) rfl ⟨.slice none 0 0, .slice none 0 0, by rw [← HD.out]; rfl, by rw [← HD.out]; exact WldF.nil _ _, below_row HB2.out om _⟩
end Go.Proofs.YtehhhiodfcdnmaaGreatDoor

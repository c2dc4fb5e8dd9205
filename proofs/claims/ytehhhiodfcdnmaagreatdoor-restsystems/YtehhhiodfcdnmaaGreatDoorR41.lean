/- The law RestSystems, walked. -/
import Derived.Test.YtehhhiodfcdnmaaGreatDoorR33
import Derived.Test.YtehhhiodfcdnmaaGreatDoorR34
import Derived.Test.YtehhhiodfcdnmaaGreatDoorR35
import Derived.Test.YtehhhiodfcdnmaaGreatDoorR37
import Derived.Test.YtehhhiodfcdnmaaGreatDoorR39
import Derived.Test.YtehhhiodfcdnmaaGreatDoorR40
import Derived.Test.YtehhhiodfcdnmaaGreatDoorR5
namespace Go.Proofs.YtehhhiodfcdnmaaGreatDoor
set_option linter.unusedSimpArgs false
set_option linter.unusedVariables false
set_option maxRecDepth 100000
set_option maxHeartbeats 32000000
open Go.RowKit Go.Sort
theorem entOwnSysR : Enters 25 := enters Tryz.func25 kr kr
theorem entOwnWldR : Enters 26 := enters Tryz.func26 kr kr
theorem entKernStepR : Enters 29 := enters Tryz.func29 kr kr
theorem entSameWldR : Enters 28 := enters Tryz.func28 kr kr
theorem entPurgeOfR : Enters 17 := enters Tryz.func17 kr kr
theorem entSameSysR : Enters 19 := enters Tryz.func19 kr kr
theorem sizeWldR : (Tryz.prog.info? 30).map (·.size) = some 3 := by kernel_rfl
theorem sizeCellR : (Tryz.prog.info? 35).map (·.size) = some 16 := by kernel_rfl
theorem sizeInsR : (Tryz.prog.info? 83).map (·.size) = some 4 := by kernel_rfl
theorem still_abs {P : Program} {md : Region.Mode} {ops : Array Oper} {Q : Exit → Act → World → Prop} {S : World → Prop} {z n : Nat} {done : Array Bool} {a : Act} {w : World} (h : ∀ a0, a = a0 → Still P md ops Q S z n done a0 w) : Still P md ops Q S z n done a w := h a rfl
theorem wpOp_oneK {P : Program} {ops : Array Oper} {Q : Exit → Act → World → Prop} {i : Nat} {o : Oper} {K : Act → World → Prop} {a : Act} {w : World} (ho : ops[i]? = some o) (hg : o.guard = none) (h : ∀ K' : Act → World → Prop, (∀ a' w', K a' w' → K' a' w') → Oper.wp P o a w K' Q) : wpOp P ops Q i K a w := wpOp_one ho hg (h K (fun _ _ h => h))
def ok3 (s : V7 × V7) : Bool := (!s.1.call || s.1.ld) && (!s.2.call || (s.2.ld && s.1.call)) && (!s.1.st || (s.1.call && s.2.call && s.1.al && s.2.al)) && (!s.2.st || s.1.st)
theorem small4 {S : SysD} (hk : chkS S = 0) : S.parts.length ≤ 1000 ∧ S.chans.length ≤ 1000 ∧ S.slots.length ≤ 1000 ∧ ∀ j (hj : j < S.parts.length), S.parts[j].code.length ≤ 1000 ∧ S.parts[j].inn.length ≤ 1000 := by
 have h := small_sys hk
 exact ⟨by have := h.p; omega, h.c, h.s, h.q⟩
theorem restSystems_any (S : SysD) (hok : S.ok) (D : WldD) (part : Int) (vp vc vs uc ul : Value) (w : World) (he : Env w) (hS : Sys w vp vc vs S) (hW : Wld w uc ul D) :
  Calls Tryz.prog 8 #[.agg #[vp, vc, vs], .agg #[.int .i64 D.tick, uc, ul], .int .i64 part] w fun e w' => e = .returned (.bool true) ∧ Below w.heap.size w w' := by
 obtain ⟨pa, pc, rfl⟩ := hS.p.form
 obtain ⟨ka, kc, rfl⟩ := hS.c.form
 obtain ⟨sa, sc, rfl⟩ := hS.s.form
 obtain ⟨ua, ub, rfl⟩ := hW.c.form
 obtain ⟨la, lb, rfl⟩ := hW.l.form
 have HE := hd he
 have HS := hd hS
 have HW := hd hW
 generalize hr : chkW S D = r
 have HCW := hd fun V h1 h2 => checkWorld_any S hok D (.slice pa S.parts.length pc) (.slice ka S.chans.length kc) (.slice sa S.slots.length sc) (.slice ua D.cells.length ub) (.slice la D.lines.length lb) V h1 h2 r hr
 have HR := hd hr
 have HOK := hd hok
 clear he hS hW hr hok
 go_enter Tryz.func8, Tryz.ntmps8
 go_wp2_with fail
 refine (HCW.out _ (HS.out.up (by repeat (first | exact Below.refl _ _ | assumption | refine Below.drew ?_ | refine Below.alloc ?_ (by first | (simp; done) | (simp; omega)) _ | refine Below.setCell ?_ (by first | (simp; done) | (simp; omega)) _))) (HW.out.up (by repeat (first | exact Below.refl _ _ | assumption | refine Below.drew ?_ | refine Below.alloc ?_ (by first | (simp; done) | (simp; omega)) _ | refine Below.setCell ?_ (by first | (simp; done) | (simp; omega)) _)))).mono ?_
 rintro e w1 ⟨rfl, b1⟩
 have z1 := b1.size
 simp at z1
 have R0 : Hid (Rw w1 w.heap.size 26 #[.slice pa S.parts.length pc, .slice ka S.chans.length kc, .slice sa S.slots.length sc]) := Rw.up rn0 b1 o3
 have R1 : Hid (Rw w1 (w.heap.size + 1) 30 #[.int .i64 D.tick, .slice ua D.cells.length ub, .slice la D.lines.length lb]) := Rw.up rn0 b1 o3
 have HB1 : Hid (Below w.heap.size w w1) := by
  refine Below.trans ?_ (b1.mono o3)
  exact (by repeat (first | exact Below.refl _ _ | assumption | refine Below.drew ?_ | refine Below.alloc ?_ (by first | (simp; done) | (simp; omega)) _ | refine Below.setCell ?_ (by first | (simp; done) | (simp; omega)) _))
 clear b1 HCW
 by_cases h0 : r = 0
 ·subst h0
  obtain ⟨hk, hR⟩ := chkW_zero HR.out
  have hlc := cellsB_len hR.c
  have hll := linesB_len hR.l
  obtain ⟨hct1, hct2⟩ := countsS hk
  have HOS := hd fun V h => ownSystem_any S (.slice pa S.parts.length pc) (.slice ka S.chans.length kc) (.slice sa S.slots.length sc) V h (small4 hk).1 (small4 hk).2.1 (small4 hk).2.2.1 (small4 hk).2.2.2
  have HOW := hd fun V h => ownWorld_any D (.slice ua D.cells.length ub) (.slice la D.lines.length lb) V om om (fun k h => ((fine_iff _ _).1 (celB_is (cellsB_at hR.c k om h)).1).2.2.2.2.2.2) (fun k h => by have := chkL_zero (linesB_at hR.l k om h); omega) h
  obtain ⟨e0, he0⟩ : ∃ e0, stepW S D = e0 := ⟨_, rfl⟩
  obtain ⟨D1, hD1⟩ : ∃ D1, stepR S D = D1 := ⟨_, rfl⟩
  have HST := hd fun V he hS hW => kernStep_any S D (.slice pa S.parts.length pc) (.slice ka S.chans.length kc) (.slice sa S.slots.length sc) (.slice ua D.cells.length ub) (.slice la D.lines.length lb) V he hS hW e0 he0 D1 hD1
  obtain ⟨f0, hf0⟩ : ∃ f0, thE S part = f0 := ⟨_, rfl⟩
  obtain ⟨D2, hD2⟩ : ∃ D2, purgeR S part = D2 := ⟨_, rfl⟩
  have HPU := hd fun V he hS => purge_any S part (.slice pa S.parts.length pc) (.slice ka S.chans.length kc) (.slice sa S.slots.length sc) V he hS f0 hf0 D2 hD2
  obtain ⟨V3, hV3⟩ : ∃ V3, viewR S D part = V3 := ⟨_, rfl⟩
  have HVO := hd fun V he hS hW => viewOf_any S D part (.slice pa S.parts.length pc) (.slice ka S.chans.length kc) (.slice sa S.slots.length sc) (.slice ua D.cells.length ub) (.slice la D.lines.length lb) V he hS hW f0 (by rcases rest_th (part := part) HR.out with ⟨h1, h2⟩ | ⟨h1, h2⟩ <;> omega) V3 hV3
  have HTHR := hd fun V h => ThereT_any S HOK.out (.slice pa S.parts.length pc) (.slice ka S.chans.length kc) (.slice sa S.slots.length sc) part V h f0 hf0
  have HSM1 : Hid (WSmall D1) := hd (hD1 ▸ small_step S D)
  have HSM : Hid (WSmall D) := hd (small_right hk hR)
  have HSM2 : Hid (SmallS D2) := hd (hD2 ▸ small_purgeR hk part)
  have hV1 : V3.d.out.length ≤ 1000 := hV3 ▸ small_view hk hR part
  have hc1 : D1.cells.length ≤ 1000 := HSM1.out.c
  have hl1 : D1.lines.length ≤ 1000 := HSM1.out.l
  have hp2 : D2.parts.length ≤ 1000 := by have := HSM2.out.p; omega
  have HTK : Hid ((e0 = 0 ∧ D.tick < 300 ∧ D1 = nextC S D ∧ D1.tick = D.tick + 1) ∨ (e0 = 3 ∧ ¬ D.tick < 300)) := hd (by
   by_cases ht : D.tick < 300
   ·have hz := stepW_right hk hR ht
    refine .inl ⟨he0 ▸ hz, ht, ?_, ?_⟩
    ·rw [← hD1]; unfold stepR; rw [if_pos hz]
    ·rw [← hD1]; unfold stepR; rw [if_pos hz]; exact (next_right hk hR ht).2
   ·refine .inr ⟨?_, ht⟩
    rw [← he0]; unfold stepW; rw [if_neg (by rw [HR.out]; simp), if_pos (by have := hR.t1; omega)])
  have HPK : Hid (f0 = 0 ∧ D2 = purgeS S part ∨ f0 = 5) := hd (by
   rcases rest_th (part := part) HR.out with ⟨_, h2⟩ | ⟨_, h2⟩
   ·refine .inl ⟨hf0 ▸ h2, ?_⟩
    rw [← hD2]; unfold purgeR; rw [if_pos h2]
   ·exact .inr (hf0 ▸ h2))
  have HK := hd hk
  have HRT := hd hR
  clear hk hR he0 hD1 hf0 hD2 hV3 hlc hll hct1 hct2
  go_upto_region 3 with fail
  go_cut [7, 8] from 32 to 36 (fun v7 v8 wd => ∃ (g7 g8 : Nat) (xp xc xs yc yl : Value), v7 = .pointer (some ⟨g7, 0, none⟩) ∧ v8 = .pointer (some ⟨g8, 0, none⟩) ∧ Hid (Below w1.heap.size w1 wd) ∧ Hid (Rw wd g7 26 #[xp, xc, xs]) ∧ Hid (Rw wd g8 30 #[.int .i64 D.tick, yc, yl]) ∧ Hid (Sys wd xp xc xs S) ∧ Hid (Wld wd yc yl D))
  case first =>
   refine region_still (S := fun _ => True) 0 kr trivial (fun _ => ?_)
   refine still_abs (fun a0 ha0 => ?_)
   have E3 : Hid (a0.eval (.tmp 3) = .pointer (some ⟨w.heap.size, 0, none⟩)) := hd (by rw [← ha0]; rfl)
   have E4 : Hid (a0.eval (.tmp 4) = .pointer (some ⟨w.heap.size + 1, 0, none⟩)) := hd (by rw [← ha0]; rfl)
   have hz : a0.tmps.size = 249 := by rw [← ha0]; rfl
   have HA0 := hd ha0
   clear ha0
   refine Still.walk dn3 cnt3 (fun s a V => ok3 s = true ∧ Inv3 w1 a0 S D #[.slice pa S.parts.length pc, .slice ka S.chans.length kc, .slice sa S.slots.length sc] #[.int .i64 D.tick, .slice ua D.cells.length ub, .slice la D.lines.length lb] s a V) ?_ 8 (.o, .o) a0 w1.drew rfl ⟨rfl, Inv3.begin ..⟩
   rintro ⟨s1, s2⟩ a V ⟨hI0, hI⟩
   cases s1 <;> cases s2
   ·refine Or.inr ⟨[0, 2, 4, 5], 7, rfl, by kernel_rfl, by simp, all_cons (wpOp_oneK rfl rfl (fun K hK => ?_)) (all_cons (wpOp_oneK rfl rfl (fun K hK => ?_)) (all_cons (wpOp_oneK rfl rfl (fun K hK => ?_)) (all_cons (wpOp_oneK rfl rfl (fun K hK => ?_)) all_nil)))⟩
    ·exact wp_load_row 26 _ rfl w.heap.size (hI.e3.trans E3.out) 26 #[.slice pa S.parts.length pc, .slice ka S.chans.length kc, .slice sa S.slots.length sc] (0, 0) _ (R0.out.up hI.d R0.out.lt) Tryz.underlying26 rfl sizeSys (hK _ _ ⟨fun _ => trivial, (.l, .o), by rfl, rfl, rfl, hI.ld1o⟩)
    ·exact wp_load_row 30 _ rfl (w.heap.size + 1) (hI.e4.trans E4.out) 30 #[.int .i64 D.tick, .slice ua D.cells.length ub, .slice la D.lines.length lb] (0, 0) _ (R1.out.up hI.d R1.out.lt) Tryz.underlying30 rfl sizeWldR (hK _ _ ⟨fun _ => trivial, (.o, .l), by rfl, rfl, rfl, hI.ld2o⟩)
    ·go_simp
     exact hK _ _ ⟨fun _ => trivial, (.a, .o), by rfl, rfl, rfl, hI.al1o⟩
    ·go_simp
     exact hK _ _ ⟨fun _ => trivial, (.o, .a), by rfl, rfl, rfl, hI.al2o⟩
   ·refine Or.inr ⟨[0, 4, 5], 6, rfl, by kernel_rfl, by simp, all_cons (wpOp_oneK rfl rfl (fun K hK => ?_)) (all_cons (wpOp_oneK rfl rfl (fun K hK => ?_)) (all_cons (wpOp_oneK rfl rfl (fun K hK => ?_)) all_nil))⟩
    ·exact wp_load_row 26 _ rfl w.heap.size (hI.e3.trans E3.out) 26 #[.slice pa S.parts.length pc, .slice ka S.chans.length kc, .slice sa S.slots.length sc] (0, 0) _ (R0.out.up hI.d R0.out.lt) Tryz.underlying26 rfl sizeSys (hK _ _ ⟨fun _ => trivial, (.l, .l), by rfl, rfl, rfl, hI.ld1o⟩)
    ·go_simp
     exact hK _ _ ⟨fun _ => trivial, (.a, .l), by rfl, rfl, rfl, hI.al1o⟩
    ·go_simp
     exact hK _ _ ⟨fun _ => trivial, (.o, .m), by rfl, rfl, rfl, hI.al2l⟩
   ·exact absurd hI0 (by decide)
   ·refine Or.inr ⟨[0, 2, 4], 6, rfl, by kernel_rfl, by simp, all_cons (wpOp_oneK rfl rfl (fun K hK => ?_)) (all_cons (wpOp_oneK rfl rfl (fun K hK => ?_)) (all_cons (wpOp_oneK rfl rfl (fun K hK => ?_)) all_nil))⟩
    ·exact wp_load_row 26 _ rfl w.heap.size (hI.e3.trans E3.out) 26 #[.slice pa S.parts.length pc, .slice ka S.chans.length kc, .slice sa S.slots.length sc] (0, 0) _ (R0.out.up hI.d R0.out.lt) Tryz.underlying26 rfl sizeSys (hK _ _ ⟨fun _ => trivial, (.l, .a), by rfl, rfl, rfl, hI.ld1o⟩)
    ·exact wp_load_row 30 _ rfl (w.heap.size + 1) (hI.e4.trans E4.out) 30 #[.int .i64 D.tick, .slice ua D.cells.length ub, .slice la D.lines.length lb] (0, 0) _ (R1.out.up hI.d R1.out.lt) Tryz.underlying30 rfl sizeWldR (hK _ _ ⟨fun _ => trivial, (.o, .m), by rfl, rfl, rfl, hI.ld2a⟩)
    ·go_simp
     exact hK _ _ ⟨fun _ => trivial, (.a, .a), by rfl, rfl, rfl, hI.al1o⟩
   ·refine Or.inr ⟨[0, 4], 5, rfl, by kernel_rfl, by simp, all_cons (wpOp_oneK rfl rfl (fun K hK => ?_)) (all_cons (wpOp_oneK rfl rfl (fun K hK => ?_)) all_nil)⟩
    ·exact wp_load_row 26 _ rfl w.heap.size (hI.e3.trans E3.out) 26 #[.slice pa S.parts.length pc, .slice ka S.chans.length kc, .slice sa S.slots.length sc] (0, 0) _ (R0.out.up hI.d R0.out.lt) Tryz.underlying26 rfl sizeSys (hK _ _ ⟨fun _ => trivial, (.l, .m), by rfl, rfl, rfl, hI.ld1o⟩)
    ·go_simp
     exact hK _ _ ⟨fun _ => trivial, (.a, .m), by rfl, rfl, rfl, hI.al1o⟩
   ·exact absurd hI0 (by decide)
   ·exact absurd hI0 (by decide)
   ·refine Or.inr ⟨[1, 2, 4, 5], 6, rfl, by kernel_rfl, by simp, all_cons (wpOp_oneK rfl rfl (fun K hK => ?_)) (all_cons (wpOp_oneK rfl rfl (fun K hK => ?_)) (all_cons (wpOp_oneK rfl rfl (fun K hK => ?_)) (all_cons (wpOp_oneK rfl rfl (fun K hK => ?_)) all_nil)))⟩
    ·refine wp_call 25 _ _ rfl entOwnSysR #[.agg #[.slice pa S.parts.length pc, .slice ka S.chans.length kc, .slice sa S.slots.length sc]] (by rw [show (#[Operand.tmp 32] : Array Operand).map a.eval = #[a.eval (.tmp 32)] by simp, hI.ev1l om]) ((HOS.out V (HS.out.up (HB1.out.trans (hI.d.mono HB1.out.size)))).mono ?_)
     rintro e V' ⟨xp, xc, xs, rfl, ⟨base, g, hB⟩, bV⟩
     exact ⟨_, rfl, hK _ _ ⟨fun _ => trivial, (.c, .o), by rfl, rfl, rfl, hI.call1l bV (fun A hA => bld_sys hB (fun b hb => by have := hA b hb; omega))⟩⟩
    ·exact wp_load_row 30 _ rfl (w.heap.size + 1) (hI.e4.trans E4.out) 30 #[.int .i64 D.tick, .slice ua D.cells.length ub, .slice la D.lines.length lb] (0, 0) _ (R1.out.up hI.d R1.out.lt) Tryz.underlying30 rfl sizeWldR (hK _ _ ⟨fun _ => trivial, (.l, .l), by rfl, rfl, rfl, hI.ld2o⟩)
    ·go_simp
     exact hK _ _ ⟨fun _ => trivial, (.m, .o), by rfl, rfl, rfl, hI.al1l⟩
    ·go_simp
     exact hK _ _ ⟨fun _ => trivial, (.l, .a), by rfl, rfl, rfl, hI.al2o⟩
   ·refine Or.inr ⟨[1, 4, 5], 5, rfl, by kernel_rfl, by simp, all_cons (wpOp_oneK rfl rfl (fun K hK => ?_)) (all_cons (wpOp_oneK rfl rfl (fun K hK => ?_)) (all_cons (wpOp_oneK rfl rfl (fun K hK => ?_)) all_nil))⟩
    ·refine wp_call 25 _ _ rfl entOwnSysR #[.agg #[.slice pa S.parts.length pc, .slice ka S.chans.length kc, .slice sa S.slots.length sc]] (by rw [show (#[Operand.tmp 32] : Array Operand).map a.eval = #[a.eval (.tmp 32)] by simp, hI.ev1l om]) ((HOS.out V (HS.out.up (HB1.out.trans (hI.d.mono HB1.out.size)))).mono ?_)
     rintro e V' ⟨xp, xc, xs, rfl, ⟨base, g, hB⟩, bV⟩
     exact ⟨_, rfl, hK _ _ ⟨fun _ => trivial, (.c, .l), by rfl, rfl, rfl, hI.call1l bV (fun A hA => bld_sys hB (fun b hb => by have := hA b hb; omega))⟩⟩
    ·go_simp
     exact hK _ _ ⟨fun _ => trivial, (.m, .l), by rfl, rfl, rfl, hI.al1l⟩
    ·go_simp
     exact hK _ _ ⟨fun _ => trivial, (.l, .m), by rfl, rfl, rfl, hI.al2l⟩
   ·exact absurd hI0 (by decide)
   ·refine Or.inr ⟨[1, 2, 4], 5, rfl, by kernel_rfl, by simp, all_cons (wpOp_oneK rfl rfl (fun K hK => ?_)) (all_cons (wpOp_oneK rfl rfl (fun K hK => ?_)) (all_cons (wpOp_oneK rfl rfl (fun K hK => ?_)) all_nil))⟩
    ·refine wp_call 25 _ _ rfl entOwnSysR #[.agg #[.slice pa S.parts.length pc, .slice ka S.chans.length kc, .slice sa S.slots.length sc]] (by rw [show (#[Operand.tmp 32] : Array Operand).map a.eval = #[a.eval (.tmp 32)] by simp, hI.ev1l om]) ((HOS.out V (HS.out.up (HB1.out.trans (hI.d.mono HB1.out.size)))).mono ?_)
     rintro e V' ⟨xp, xc, xs, rfl, ⟨base, g, hB⟩, bV⟩
     exact ⟨_, rfl, hK _ _ ⟨fun _ => trivial, (.c, .a), by rfl, rfl, rfl, hI.call1l bV (fun A hA => bld_sys hB (fun b hb => by have := hA b hb; omega))⟩⟩
    ·exact wp_load_row 30 _ rfl (w.heap.size + 1) (hI.e4.trans E4.out) 30 #[.int .i64 D.tick, .slice ua D.cells.length ub, .slice la D.lines.length lb] (0, 0) _ (R1.out.up hI.d R1.out.lt) Tryz.underlying30 rfl sizeWldR (hK _ _ ⟨fun _ => trivial, (.l, .m), by rfl, rfl, rfl, hI.ld2a⟩)
    ·go_simp
     exact hK _ _ ⟨fun _ => trivial, (.m, .a), by rfl, rfl, rfl, hI.al1l⟩
   ·refine Or.inr ⟨[1, 4], 4, rfl, by kernel_rfl, by simp, all_cons (wpOp_oneK rfl rfl (fun K hK => ?_)) (all_cons (wpOp_oneK rfl rfl (fun K hK => ?_)) all_nil)⟩
    ·refine wp_call 25 _ _ rfl entOwnSysR #[.agg #[.slice pa S.parts.length pc, .slice ka S.chans.length kc, .slice sa S.slots.length sc]] (by rw [show (#[Operand.tmp 32] : Array Operand).map a.eval = #[a.eval (.tmp 32)] by simp, hI.ev1l om]) ((HOS.out V (HS.out.up (HB1.out.trans (hI.d.mono HB1.out.size)))).mono ?_)
     rintro e V' ⟨xp, xc, xs, rfl, ⟨base, g, hB⟩, bV⟩
     exact ⟨_, rfl, hK _ _ ⟨fun _ => trivial, (.c, .m), by rfl, rfl, rfl, hI.call1l bV (fun A hA => bld_sys hB (fun b hb => by have := hA b hb; omega))⟩⟩
    ·go_simp
     exact hK _ _ ⟨fun _ => trivial, (.m, .m), by rfl, rfl, rfl, hI.al1l⟩
   ·exact absurd hI0 (by decide)
   ·exact absurd hI0 (by decide)
   ·refine Or.inr ⟨[2, 4, 5], 5, rfl, by kernel_rfl, by simp, all_cons (wpOp_oneK rfl rfl (fun K hK => ?_)) (all_cons (wpOp_oneK rfl rfl (fun K hK => ?_)) (all_cons (wpOp_oneK rfl rfl (fun K hK => ?_)) all_nil))⟩
    ·exact wp_load_row 30 _ rfl (w.heap.size + 1) (hI.e4.trans E4.out) 30 #[.int .i64 D.tick, .slice ua D.cells.length ub, .slice la D.lines.length lb] (0, 0) _ (R1.out.up hI.d R1.out.lt) Tryz.underlying30 rfl sizeWldR (hK _ _ ⟨fun _ => trivial, (.c, .l), by rfl, rfl, rfl, hI.ld2o⟩)
    ·go_simp
     exact hK _ _ ⟨fun _ => trivial, (.b, .o), by rfl, rfl, rfl, hI.al1c⟩
    ·go_simp
     exact hK _ _ ⟨fun _ => trivial, (.c, .a), by rfl, rfl, rfl, hI.al2o⟩
   ·refine Or.inr ⟨[3, 4, 5], 4, rfl, by kernel_rfl, by simp, all_cons (wpOp_oneK rfl rfl (fun K hK => ?_)) (all_cons (wpOp_oneK rfl rfl (fun K hK => ?_)) (all_cons (wpOp_oneK rfl rfl (fun K hK => ?_)) all_nil))⟩
    ·refine wp_call 26 _ _ rfl entOwnWldR #[.agg #[.int .i64 D.tick, .slice ua D.cells.length ub, .slice la D.lines.length lb]] (by rw [show (#[Operand.tmp 34] : Array Operand).map a.eval = #[a.eval (.tmp 34)] by simp, hI.ev2l om]) ((HOW.out V (HW.out.up (HB1.out.trans (hI.d.mono HB1.out.size)))).mono ?_)
     rintro e V' ⟨yc, yl, rfl, hB, bV⟩
     exact ⟨_, rfl, hK _ _ ⟨fun _ => trivial, (.c, .c), by rfl, rfl, rfl, hI.call2l bV (fun A hA => newV_wld hB hA)⟩⟩
    ·go_simp
     exact hK _ _ ⟨fun _ => trivial, (.b, .l), by rfl, rfl, rfl, hI.al1c⟩
    ·go_simp
     exact hK _ _ ⟨fun _ => trivial, (.c, .m), by rfl, rfl, rfl, hI.al2l⟩
   ·refine Or.inr ⟨[4, 5], 3, rfl, by kernel_rfl, by simp, all_cons (wpOp_oneK rfl rfl (fun K hK => ?_)) (all_cons (wpOp_oneK rfl rfl (fun K hK => ?_)) all_nil)⟩
    ·go_simp
     exact hK _ _ ⟨fun _ => trivial, (.b, .c), by rfl, rfl, rfl, hI.al1c⟩
    ·go_simp
     exact hK _ _ ⟨fun _ => trivial, (.c, .b), by rfl, rfl, rfl, hI.al2c⟩
   ·refine Or.inr ⟨[2, 4], 4, rfl, by kernel_rfl, by simp, all_cons (wpOp_oneK rfl rfl (fun K hK => ?_)) (all_cons (wpOp_oneK rfl rfl (fun K hK => ?_)) all_nil)⟩
    ·exact wp_load_row 30 _ rfl (w.heap.size + 1) (hI.e4.trans E4.out) 30 #[.int .i64 D.tick, .slice ua D.cells.length ub, .slice la D.lines.length lb] (0, 0) _ (R1.out.up hI.d R1.out.lt) Tryz.underlying30 rfl sizeWldR (hK _ _ ⟨fun _ => trivial, (.c, .m), by rfl, rfl, rfl, hI.ld2a⟩)
    ·go_simp
     exact hK _ _ ⟨fun _ => trivial, (.b, .a), by rfl, rfl, rfl, hI.al1c⟩
   ·refine Or.inr ⟨[3, 4], 3, rfl, by kernel_rfl, by simp, all_cons (wpOp_oneK rfl rfl (fun K hK => ?_)) (all_cons (wpOp_oneK rfl rfl (fun K hK => ?_)) all_nil)⟩
    ·refine wp_call 26 _ _ rfl entOwnWldR #[.agg #[.int .i64 D.tick, .slice ua D.cells.length ub, .slice la D.lines.length lb]] (by rw [show (#[Operand.tmp 34] : Array Operand).map a.eval = #[a.eval (.tmp 34)] by simp, hI.ev2m om]) ((HOW.out V (HW.out.up (HB1.out.trans (hI.d.mono HB1.out.size)))).mono ?_)
     rintro e V' ⟨yc, yl, rfl, hB, bV⟩
     exact ⟨_, rfl, hK _ _ ⟨fun _ => trivial, (.c, .b), by rfl, rfl, rfl, hI.call2m bV (fun A hA => newV_wld hB hA)⟩⟩
    ·go_simp
     exact hK _ _ ⟨fun _ => trivial, (.b, .m), by rfl, rfl, rfl, hI.al1c⟩
   ·refine Or.inr ⟨[4], 2, rfl, by kernel_rfl, by simp, all_cons (wpOp_oneK rfl rfl (fun K hK => ?_)) all_nil⟩
    ·go_simp
     exact hK _ _ ⟨fun _ => trivial, (.b, .b), by rfl, rfl, rfl, hI.al1c⟩
   ·exact absurd hI0 (by decide)
   ·refine Or.inr ⟨[0, 2, 5], 6, rfl, by kernel_rfl, by simp, all_cons (wpOp_oneK rfl rfl (fun K hK => ?_)) (all_cons (wpOp_oneK rfl rfl (fun K hK => ?_)) (all_cons (wpOp_oneK rfl rfl (fun K hK => ?_)) all_nil))⟩
    ·exact wp_load_row 26 _ rfl w.heap.size (hI.e3.trans E3.out) 26 #[.slice pa S.parts.length pc, .slice ka S.chans.length kc, .slice sa S.slots.length sc] (0, 0) _ (R0.out.up hI.d R0.out.lt) Tryz.underlying26 rfl sizeSys (hK _ _ ⟨fun _ => trivial, (.m, .o), by rfl, rfl, rfl, hI.ld1a⟩)
    ·exact wp_load_row 30 _ rfl (w.heap.size + 1) (hI.e4.trans E4.out) 30 #[.int .i64 D.tick, .slice ua D.cells.length ub, .slice la D.lines.length lb] (0, 0) _ (R1.out.up hI.d R1.out.lt) Tryz.underlying30 rfl sizeWldR (hK _ _ ⟨fun _ => trivial, (.a, .l), by rfl, rfl, rfl, hI.ld2o⟩)
    ·go_simp
     exact hK _ _ ⟨fun _ => trivial, (.a, .a), by rfl, rfl, rfl, hI.al2o⟩
   ·refine Or.inr ⟨[0, 5], 5, rfl, by kernel_rfl, by simp, all_cons (wpOp_oneK rfl rfl (fun K hK => ?_)) (all_cons (wpOp_oneK rfl rfl (fun K hK => ?_)) all_nil)⟩
    ·exact wp_load_row 26 _ rfl w.heap.size (hI.e3.trans E3.out) 26 #[.slice pa S.parts.length pc, .slice ka S.chans.length kc, .slice sa S.slots.length sc] (0, 0) _ (R0.out.up hI.d R0.out.lt) Tryz.underlying26 rfl sizeSys (hK _ _ ⟨fun _ => trivial, (.m, .l), by rfl, rfl, rfl, hI.ld1a⟩)
    ·go_simp
     exact hK _ _ ⟨fun _ => trivial, (.a, .m), by rfl, rfl, rfl, hI.al2l⟩
   ·exact absurd hI0 (by decide)
   ·refine Or.inr ⟨[0, 2], 5, rfl, by kernel_rfl, by simp, all_cons (wpOp_oneK rfl rfl (fun K hK => ?_)) (all_cons (wpOp_oneK rfl rfl (fun K hK => ?_)) all_nil)⟩
    ·exact wp_load_row 26 _ rfl w.heap.size (hI.e3.trans E3.out) 26 #[.slice pa S.parts.length pc, .slice ka S.chans.length kc, .slice sa S.slots.length sc] (0, 0) _ (R0.out.up hI.d R0.out.lt) Tryz.underlying26 rfl sizeSys (hK _ _ ⟨fun _ => trivial, (.m, .a), by rfl, rfl, rfl, hI.ld1a⟩)
    ·exact wp_load_row 30 _ rfl (w.heap.size + 1) (hI.e4.trans E4.out) 30 #[.int .i64 D.tick, .slice ua D.cells.length ub, .slice la D.lines.length lb] (0, 0) _ (R1.out.up hI.d R1.out.lt) Tryz.underlying30 rfl sizeWldR (hK _ _ ⟨fun _ => trivial, (.a, .m), by rfl, rfl, rfl, hI.ld2a⟩)
   ·refine Or.inr ⟨[0], 4, rfl, by kernel_rfl, by simp, all_cons (wpOp_oneK rfl rfl (fun K hK => ?_)) all_nil⟩
    ·exact wp_load_row 26 _ rfl w.heap.size (hI.e3.trans E3.out) 26 #[.slice pa S.parts.length pc, .slice ka S.chans.length kc, .slice sa S.slots.length sc] (0, 0) _ (R0.out.up hI.d R0.out.lt) Tryz.underlying26 rfl sizeSys (hK _ _ ⟨fun _ => trivial, (.m, .m), by rfl, rfl, rfl, hI.ld1a⟩)
   ·exact absurd hI0 (by decide)
   ·exact absurd hI0 (by decide)
   ·refine Or.inr ⟨[1, 2, 5], 5, rfl, by kernel_rfl, by simp, all_cons (wpOp_oneK rfl rfl (fun K hK => ?_)) (all_cons (wpOp_oneK rfl rfl (fun K hK => ?_)) (all_cons (wpOp_oneK rfl rfl (fun K hK => ?_)) all_nil))⟩
    ·refine wp_call 25 _ _ rfl entOwnSysR #[.agg #[.slice pa S.parts.length pc, .slice ka S.chans.length kc, .slice sa S.slots.length sc]] (by rw [show (#[Operand.tmp 32] : Array Operand).map a.eval = #[a.eval (.tmp 32)] by simp, hI.ev1m om]) ((HOS.out V (HS.out.up (HB1.out.trans (hI.d.mono HB1.out.size)))).mono ?_)
     rintro e V' ⟨xp, xc, xs, rfl, ⟨base, g, hB⟩, bV⟩
     exact ⟨_, rfl, hK _ _ ⟨fun _ => trivial, (.b, .o), by rfl, rfl, rfl, hI.call1m bV (fun A hA => bld_sys hB (fun b hb => by have := hA b hb; omega))⟩⟩
    ·exact wp_load_row 30 _ rfl (w.heap.size + 1) (hI.e4.trans E4.out) 30 #[.int .i64 D.tick, .slice ua D.cells.length ub, .slice la D.lines.length lb] (0, 0) _ (R1.out.up hI.d R1.out.lt) Tryz.underlying30 rfl sizeWldR (hK _ _ ⟨fun _ => trivial, (.m, .l), by rfl, rfl, rfl, hI.ld2o⟩)
    ·go_simp
     exact hK _ _ ⟨fun _ => trivial, (.m, .a), by rfl, rfl, rfl, hI.al2o⟩
   ·refine Or.inr ⟨[1, 5], 4, rfl, by kernel_rfl, by simp, all_cons (wpOp_oneK rfl rfl (fun K hK => ?_)) (all_cons (wpOp_oneK rfl rfl (fun K hK => ?_)) all_nil)⟩
    ·refine wp_call 25 _ _ rfl entOwnSysR #[.agg #[.slice pa S.parts.length pc, .slice ka S.chans.length kc, .slice sa S.slots.length sc]] (by rw [show (#[Operand.tmp 32] : Array Operand).map a.eval = #[a.eval (.tmp 32)] by simp, hI.ev1m om]) ((HOS.out V (HS.out.up (HB1.out.trans (hI.d.mono HB1.out.size)))).mono ?_)
     rintro e V' ⟨xp, xc, xs, rfl, ⟨base, g, hB⟩, bV⟩
     exact ⟨_, rfl, hK _ _ ⟨fun _ => trivial, (.b, .l), by rfl, rfl, rfl, hI.call1m bV (fun A hA => bld_sys hB (fun b hb => by have := hA b hb; omega))⟩⟩
    ·go_simp
     exact hK _ _ ⟨fun _ => trivial, (.m, .m), by rfl, rfl, rfl, hI.al2l⟩
   ·exact absurd hI0 (by decide)
   ·refine Or.inr ⟨[1, 2], 4, rfl, by kernel_rfl, by simp, all_cons (wpOp_oneK rfl rfl (fun K hK => ?_)) (all_cons (wpOp_oneK rfl rfl (fun K hK => ?_)) all_nil)⟩
    ·refine wp_call 25 _ _ rfl entOwnSysR #[.agg #[.slice pa S.parts.length pc, .slice ka S.chans.length kc, .slice sa S.slots.length sc]] (by rw [show (#[Operand.tmp 32] : Array Operand).map a.eval = #[a.eval (.tmp 32)] by simp, hI.ev1m om]) ((HOS.out V (HS.out.up (HB1.out.trans (hI.d.mono HB1.out.size)))).mono ?_)
     rintro e V' ⟨xp, xc, xs, rfl, ⟨base, g, hB⟩, bV⟩
     exact ⟨_, rfl, hK _ _ ⟨fun _ => trivial, (.b, .a), by rfl, rfl, rfl, hI.call1m bV (fun A hA => bld_sys hB (fun b hb => by have := hA b hb; omega))⟩⟩
    ·exact wp_load_row 30 _ rfl (w.heap.size + 1) (hI.e4.trans E4.out) 30 #[.int .i64 D.tick, .slice ua D.cells.length ub, .slice la D.lines.length lb] (0, 0) _ (R1.out.up hI.d R1.out.lt) Tryz.underlying30 rfl sizeWldR (hK _ _ ⟨fun _ => trivial, (.m, .m), by rfl, rfl, rfl, hI.ld2a⟩)
   ·refine Or.inr ⟨[1], 3, rfl, by kernel_rfl, by simp, all_cons (wpOp_oneK rfl rfl (fun K hK => ?_)) all_nil⟩
    ·refine wp_call 25 _ _ rfl entOwnSysR #[.agg #[.slice pa S.parts.length pc, .slice ka S.chans.length kc, .slice sa S.slots.length sc]] (by rw [show (#[Operand.tmp 32] : Array Operand).map a.eval = #[a.eval (.tmp 32)] by simp, hI.ev1m om]) ((HOS.out V (HS.out.up (HB1.out.trans (hI.d.mono HB1.out.size)))).mono ?_)
     rintro e V' ⟨xp, xc, xs, rfl, ⟨base, g, hB⟩, bV⟩
     exact ⟨_, rfl, hK _ _ ⟨fun _ => trivial, (.b, .m), by rfl, rfl, rfl, hI.call1m bV (fun A hA => bld_sys hB (fun b hb => by have := hA b hb; omega))⟩⟩
   ·exact absurd hI0 (by decide)
   ·exact absurd hI0 (by decide)
   ·refine Or.inr ⟨[2, 5], 4, rfl, by kernel_rfl, by simp, all_cons (wpOp_oneK rfl rfl (fun K hK => ?_)) (all_cons (wpOp_oneK rfl rfl (fun K hK => ?_)) all_nil)⟩
    ·exact wp_load_row 30 _ rfl (w.heap.size + 1) (hI.e4.trans E4.out) 30 #[.int .i64 D.tick, .slice ua D.cells.length ub, .slice la D.lines.length lb] (0, 0) _ (R1.out.up hI.d R1.out.lt) Tryz.underlying30 rfl sizeWldR (hK _ _ ⟨fun _ => trivial, (.b, .l), by rfl, rfl, rfl, hI.ld2o⟩)
    ·go_simp
     exact hK _ _ ⟨fun _ => trivial, (.b, .a), by rfl, rfl, rfl, hI.al2o⟩
   ·refine Or.inr ⟨[3, 5], 3, rfl, by kernel_rfl, by simp, all_cons (wpOp_oneK rfl rfl (fun K hK => ?_)) (all_cons (wpOp_oneK rfl rfl (fun K hK => ?_)) all_nil)⟩
    ·refine wp_call 26 _ _ rfl entOwnWldR #[.agg #[.int .i64 D.tick, .slice ua D.cells.length ub, .slice la D.lines.length lb]] (by rw [show (#[Operand.tmp 34] : Array Operand).map a.eval = #[a.eval (.tmp 34)] by simp, hI.ev2l om]) ((HOW.out V (HW.out.up (HB1.out.trans (hI.d.mono HB1.out.size)))).mono ?_)
     rintro e V' ⟨yc, yl, rfl, hB, bV⟩
     exact ⟨_, rfl, hK _ _ ⟨fun _ => trivial, (.b, .c), by rfl, rfl, rfl, hI.call2l bV (fun A hA => newV_wld hB hA)⟩⟩
    ·go_simp
     exact hK _ _ ⟨fun _ => trivial, (.b, .m), by rfl, rfl, rfl, hI.al2l⟩
   ·refine Or.inr ⟨[5], 2, rfl, by kernel_rfl, by simp, all_cons (wpOp_oneK rfl rfl (fun K hK => ?_)) all_nil⟩
    ·go_simp
     exact hK _ _ ⟨fun _ => trivial, (.b, .b), by rfl, rfl, rfl, hI.al2c⟩
   ·refine Or.inr ⟨[2], 3, rfl, by kernel_rfl, by simp, all_cons (wpOp_oneK rfl rfl (fun K hK => ?_)) all_nil⟩
    ·exact wp_load_row 30 _ rfl (w.heap.size + 1) (hI.e4.trans E4.out) 30 #[.int .i64 D.tick, .slice ua D.cells.length ub, .slice la D.lines.length lb] (0, 0) _ (R1.out.up hI.d R1.out.lt) Tryz.underlying30 rfl sizeWldR (hK _ _ ⟨fun _ => trivial, (.b, .m), by rfl, rfl, rfl, hI.ld2a⟩)
   ·refine Or.inr ⟨[3], 2, rfl, by kernel_rfl, by simp, all_cons (wpOp_oneK rfl rfl (fun K hK => ?_)) all_nil⟩
    ·refine wp_call 26 _ _ rfl entOwnWldR #[.agg #[.int .i64 D.tick, .slice ua D.cells.length ub, .slice la D.lines.length lb]] (by rw [show (#[Operand.tmp 34] : Array Operand).map a.eval = #[a.eval (.tmp 34)] by simp, hI.ev2m om]) ((HOW.out V (HW.out.up (HB1.out.trans (hI.d.mono HB1.out.size)))).mono ?_)
     rintro e V' ⟨yc, yl, rfl, hB, bV⟩
     exact ⟨_, rfl, hK _ _ ⟨fun _ => trivial, (.b, .b), by rfl, rfl, rfl, hI.call2m bV (fun A hA => newV_wld hB hA)⟩⟩
   ·refine Or.inr ⟨[6], 1, rfl, by kernel_rfl, by simp, all_cons (wpOp_oneK rfl rfl (fun K hK => ?_)) all_nil⟩
    ·obtain ⟨g, xp, xc, xs, h1, h2, h3, h5, h4⟩ := hI.st1 om
     obtain ⟨_, _, rfl⟩ := h5.p.form
     obtain ⟨_, _, rfl⟩ := h5.c.form
     obtain ⟨_, _, rfl⟩ := h5.s.form
     exact wp_store_row 26 _ _ rfl g _ h1 h2 26 _ h3 sizeSys rfl (by simp [Value.oneCell']) (hK _ _ ⟨fun _ => trivial, (.s, .b), by rfl, rfl, rfl, h4⟩)
   ·exact absurd hI0 (by decide)
   ·exact absurd hI0 (by decide)
   ·exact absurd hI0 (by decide)
   ·exact absurd hI0 (by decide)
   ·exact absurd hI0 (by decide)
   ·exact absurd hI0 (by decide)
   ·refine Or.inr ⟨[7], 0, rfl, by kernel_rfl, by simp, all_cons (wpOp_oneK rfl rfl (fun K hK => ?_)) all_nil⟩
    ·obtain ⟨g, yc, yl, h1, h2, h3, h5, h4⟩ := hI.st2 om
     obtain ⟨_, _, rfl⟩ := h5.c.form
     obtain ⟨_, _, rfl⟩ := h5.l.form
     exact wp_store_row 30 _ _ rfl g _ h1 h2 30 _ h3 sizeWldR rfl (by simp [Value.oneCell']) (hK _ _ ⟨fun _ => trivial, (.s, .s), by rfl, rfl, rfl, h4⟩)
   ·refine Or.inl ⟨rfl, by kernel_rfl, ?_⟩
    obtain ⟨xp, xc, xs, yc, yl, g7, g8, rfl, d1, d2, d3, d4, d5⟩ := hI.over
    rw [← HA0.out]
    simp only [can, putO]
    simp only [Act.put, List.getElem_toArray, List.getElem_cons_zero, List.getElem_cons_succ, List.setIfInBounds_toArray, List.set_cons_zero, List.set_cons_succ]
    go_wp2
    go_meet
    exact ⟨g7, g8, xp, xc, xs, yc, yl, rfl, rfl, d1, d2, d3, d4, d5⟩
  case rest =>
   obtain ⟨g7, g8, xp, xc, xs, yc, yl, rfl, rfl, HB3, R7, R8, SC, DC⟩ := hcut
   obtain ⟨xpa, xpb, rfl⟩ := SC.out.p.form
   obtain ⟨xca, xcb, rfl⟩ := SC.out.c.form
   obtain ⟨xsa, xsb, rfl⟩ := SC.out.s.form
   obtain ⟨yca, ycb, rfl⟩ := DC.out.c.form
   obtain ⟨yla, ylb, rfl⟩ := DC.out.l.form
   have HBW := hd (HB1.out.trans (HB3.out.mono HB1.out.size))
   have E0 := hd (HE.out.up HBW.out)
   have S0 := hd (HS.out.up HBW.out)
   have D0 := hd (HW.out.up HBW.out)
   have R0' := hd (R0.out.up HB3.out R0.out.lt)
   have R1' := hd (R1.out.up HB3.out R1.out.lt)
   clear R0 R1 HB1 HB3 HE HS HW HOS HOW
   have R0 := R0'
   have R1 := R1'
   clear R0' R1'
   have s0 := R0.out.cell (j := 0) (v := .slice pa S.parts.length pc) rfl
   have s1 := R0.out.cell (j := 1) (v := .slice ka S.chans.length kc) rfl
   have s2 := R0.out.cell (j := 2) (v := .slice sa S.slots.length sc) rfl
   have t0 := R1.out.cell (j := 0) (v := .int .i64 D.tick) rfl
   have t1 := R1.out.cell (j := 1) (v := .slice ua D.cells.length ub) rfl
   have t2 := R1.out.cell (j := 2) (v := .slice la D.lines.length lb) rfl
   go_wp2_with fail
   refine (HST.out _ E0.out S0.out D0.out).mono ?_
   rintro e w4 ⟨zc, zl, rfl, hF, b4⟩
   clear s0 s1 s2 t0 t1 t2
   obtain ⟨ca, cb, rfl⟩ := hF.wld.c.form
   obtain ⟨ga, gb, rfl⟩ := hF.wld.l.form
   obtain ⟨G, off, os, ls, hM⟩ := step_mem hF (.cells #[.int .i64 D1.tick, .slice ca D1.cells.length cb, .slice ga D1.lines.length gb] 30)
   have HM := hd hM
   have HL0 := hd hM.begin
   have B4 := hd b4
   have RX := hd (Rw.new w4 30 #[.int .i64 D1.tick, .slice ca D1.cells.length cb, .slice ga D1.lines.length gb] rfl)
   have hGx : w4.heap.size ≠ G := fun e => hM.gx e.symm
   clear hF hM b4
   obtain ⟨X1, hX1⟩ : ∃ X1, X1 = w4.alloc (.cells #[.int .i64 D1.tick, .slice ca D1.cells.length cb, .slice ga D1.lines.length gb] 30) := ⟨_, rfl⟩
   have B5 : Hid (Below wc.heap.size wc X1) := hd (by rw [hX1]; exact B4.out.alloc B4.out.size _)
   rw [← hX1] at HM HL0 RX
   clear B4
   go_wp2
   rw [← hX1]
   clear hX1
   go_loopw [11] (fun v wr => ∃ n : Nat, v = .int .i64 n ∧ n ≤ D1.cells.length ∧ Hid (L1 G wc.heap.size off X1 wr os n)) (fun v _ => D1.cells.length - (intOf v).toNat)
   case atStart => exact ⟨0, rfl, Nat.zero_le _, HL0⟩
   case round =>
    obtain ⟨n, rfl, hn, HL⟩ := hrel
    have q1 : wr.cell? ⟨w4.heap.size, 1, none⟩ = some (.slice ca D1.cells.length cb) := HL.out.fi.s _ _ _ hGx (RX.out.cell (j := 1) (v := .slice ca D1.cells.length cb) rfl) no_int_slice
    by_cases hlt : n < D1.cells.length
    ·have hli : (n : Int) < D1.cells.length := by omega
     obtain ⟨ccap, ev, hcap, hHG, hth⟩ := HM.out.c om
     cases ev
     have hno : n < os.length := by rw [HM.out.lo]; exact hlt
     have hwr := HM.out.o n hno hlt
     have hr14 := HL.out.r n hno (Nat.le_refl _)
     have hm1 : D1.cells[n].out.length ≤ 1000 := HSM1.out.o n hlt
     generalize D1.cells[n].out.length = m at hwr hm1
     obtain ⟨oa, oc, ho⟩ := hwr.1.fm
     have HWR := hd hwr
     have HTH := hd (hth n hlt)
     have HOE := hd ho
     rw [ho] at hr14
     clear hwr hth ho hcap
     go_wp2
     go_loopw [12] (fun v wi => ∃ k : Nat, v = .int .i64 k ∧ k ≤ m ∧ Hid (L1 G wc.heap.size off X1 wi os n)) (fun v _ => m - (intOf v).toNat)
     case atStart => exact ⟨0, rfl, Nat.zero_le _, HL⟩
     case round =>
      clear q1 hr14
      obtain ⟨k, rfl, hk, HI⟩ := hrel
      have q1 := HI.out.fi.s _ _ _ hGx (RX.out.cell (j := 1) rfl) no_int_slice
      have c14 := HI.out.r n hno (Nat.le_refl _)
      rw [HOE.out] at c14
      by_cases hlk : k < m
      ·have hlki : (k : Int) < m := by omega
       obtain ⟨ob, oo, ocap, eo, hoc, hHb, -, hxs⟩ := HWR.out.1.op om
       have hneG := HWR.out.2 ob (by rw [eo]; rfl)
       rw [HOE.out] at eo
       cases eo
       obtain ⟨⟨mm, hmm⟩, hfz⟩ := hxs k hlk
       obtain ⟨⟨u, hu⟩, hf⟩ := HI.out.fi.can hmm hfz
       have HI2 := hd (HI.out.set hmm hHb hneG (.int .i64 (-1)))
       clear hxs hmm hfz HI
       go_wp2
       go_roundw
       case rel => exact ⟨k + 1, by go_num, by omega, HI2⟩
       case measure => simp [intOf]; omega
      ·have hlki : ¬ (k : Int) < m := by omega
       have HT2 := hd (HI.out.fi.there HTH.out)
       go_wp2_with (refine wpList_store_midW rfl 35 (.tmp 72) (.tmp 71) rfl G (off + n * 16) #[.int .i64 0, .int .i64 0, .int .i64 0, .int .i64 0, .int .i64 0, .int .i64 0, .int .i64 0, .int .i64 0, .int .i64 0, .int .i64 0, .int .i64 0, .int .i64 0, .int .i64 0, .int .i64 0, .slice none 0 0, .int .i64 0] rfl rfl HT2.out sizeCellR (by simp [Value.oneCell']) ?_)
       intro W2 HW2
       have HL2 : Hid (L1 G wc.heap.size off X1 W2 os (n + 1)) := hd (by rw [HW2.out]; exact HI.out.zero hHG _ rfl)
       clear HW2 HI HT2 c14 q1
       go_wp2
       go_roundw
       case rel => exact ⟨n + 1, by go_num, by omega, HL2⟩
       case measure => simp [intOf]; omega
    ·have hli : ¬ (n : Int) < D1.cells.length := by omega
     have HF0 := hd HL.out.fi
     clear HL HL0
     go_wp2
     go_loopw [13] (fun v wr => ∃ n : Nat, v = .int .i64 n ∧ n ≤ D1.lines.length ∧ Hid (Fi G wc.heap.size X1 wr)) (fun v _ => D1.lines.length - (intOf v).toNat)
     case atStart => exact ⟨0, rfl, Nat.zero_le _, HF0⟩
     case round =>
      clear q1 HF0
      obtain ⟨n2, rfl, hn2, HF⟩ := hrel
      have q2 := HF.out.s _ _ _ hGx (RX.out.cell (j := 2) (v := .slice ga D1.lines.length gb) rfl) no_int_slice
      by_cases hlt2 : n2 < D1.lines.length
      ·have hli2 : (n2 : Int) < D1.lines.length := by omega
       obtain ⟨lbk, lof, lcp, ev, hcap, hlG, hlx⟩ := HM.out.l om
       cases ev
       have hno : n2 < ls.length := by rw [HM.out.lv]; exact hlt2
       have hwr := HM.out.v n2 hno hlt2
       have hlx2 := hlx n2 hno
       have hm1 : D1.lines[n2].length ≤ 1000 := HSM1.out.n n2 hlt2
       generalize D1.lines[n2].length = m at hwr hm1
       obtain ⟨oa, oc, ho⟩ := hwr.fm
       have HWR := hd hwr
       have HOE := hd ho
       rw [ho] at hlx2
       have HLX := hd hlx2
       have q3 := HF.out.s _ _ _ hlG hlx2 no_int_slice
       clear hwr hlx ho hcap hlx2
       go_wp2
       go_loopw [14] (fun v wi => ∃ k : Nat, v = .int .i64 k ∧ k ≤ m ∧ Hid (Fi G wc.heap.size X1 wi)) (fun v _ => m - (intOf v).toNat)
       case atStart => exact ⟨0, rfl, Nat.zero_le _, HF⟩
       case round =>
        clear q2 q3
        obtain ⟨k, rfl, hk, HI⟩ := hrel
        have q2 := HI.out.s _ _ _ hGx (RX.out.cell (j := 2) rfl) no_int_slice
        have q3 := HI.out.s _ _ _ hlG HLX.out no_int_slice
        by_cases hlk : k < m
        ·have hlki : (k : Int) < m := by omega
         obtain ⟨ob, oo, ocap, eo, hoc, hHb, -, hxs⟩ := HWR.out.op om
         rw [HOE.out] at eo
         cases eo
         obtain ⟨⟨mm, hmm⟩, hfz⟩ := hxs k hlk
         obtain ⟨⟨u, hu⟩, hf⟩ := HI.out.can hmm hfz
         have HI2 := hd (HI.out.set hmm hHb (.int .i64 (-1)))
         clear hxs hmm hfz HI
         go_wp2
         go_roundw
         case rel => exact ⟨k + 1, by go_num, by omega, HI2⟩
         case measure => simp [intOf]; omega
        ·have hlki : ¬ (k : Int) < m := by omega
         go_wp2
         go_roundw
         case rel => exact ⟨n2 + 1, by go_num, by omega, HI⟩
         case measure => simp [intOf]; omega
      ·have hli2 : ¬ (n2 : Int) < D1.lines.length := by omega
       have B6 := hd (B5.out.trans HF.out.b)
       clear HF B5 RX HM hGx
       have s0 := (R0.out.up B6.out R0.out.lt).cell (j := 0) (v := .slice pa S.parts.length pc) rfl
       have s1 := (R0.out.up B6.out R0.out.lt).cell (j := 1) (v := .slice ka S.chans.length kc) rfl
       have s2 := (R0.out.up B6.out R0.out.lt).cell (j := 2) (v := .slice sa S.slots.length sc) rfl
       have t0 := (R1.out.up B6.out R1.out.lt).cell (j := 0) (v := .int .i64 D.tick) rfl
       have t1 := (R1.out.up B6.out R1.out.lt).cell (j := 1) (v := .slice ua D.cells.length ub) rfl
       have t2 := (R1.out.up B6.out R1.out.lt).cell (j := 2) (v := .slice la D.lines.length lb) rfl
       go_wp2_with fail
       refine (HPU.out _ (E0.out.up B6.out) (S0.out.up B6.out)).mono ?_
       rintro e w5 ⟨zp, zk, zs, rfl, hF, b5⟩
       clear q2 s0 s1 s2 t0 t1 t2
       obtain ⟨va, vb, rfl⟩ := hF.sys.p.form
       obtain ⟨vd, ve, rfl⟩ := hF.sys.c.form
       obtain ⟨vf, vg, rfl⟩ := hF.sys.s.form
       obtain ⟨l2, hM⟩ := purge_mem (hF.low B6.out.size) (.cells #[.slice va D2.parts.length vb, .slice vd D2.chans.length ve, .slice vf D2.slots.length vg] 26)
       have HM := hd hM
       have B7 := hd (B6.out.trans (b5.mono B6.out.size))
       have RX := hd (Rw.new w5 26 #[.slice va D2.parts.length vb, .slice vd D2.chans.length ve, .slice vf D2.slots.length vg] rfl)
       clear hF hM b5 B6
       obtain ⟨X2, hX2⟩ : ∃ X2, X2 = w5.alloc (.cells #[.slice va D2.parts.length vb, .slice vd D2.chans.length ve, .slice vf D2.slots.length vg] 26) := ⟨_, rfl⟩
       have B8 : Hid (Below wc.heap.size wc X2) := hd (by rw [hX2]; exact B7.out.alloc B7.out.size _)
       have hzX : w5.heap.size ≠ X2.heap.size := by rw [hX2]; simp
       rw [← hX2] at HM RX
       clear B7
       go_wp2
       rw [← hX2]
       clear hX2
       go_loopw [17] (fun v wr => ∃ n : Nat, v = .int .i64 n ∧ n ≤ D2.parts.length ∧ Hid (Fi X2.heap.size wc.heap.size X2 wr)) (fun v _ => D2.parts.length - (intOf v).toNat)
       case atStart => exact ⟨0, rfl, Nat.zero_le _, hd (Fi.refl _ _ _)⟩
       case round =>
        obtain ⟨n5, rfl, hn5, HF⟩ := hrel
        have q0 := HF.out.s _ _ _ hzX (RX.out.cell (j := 0) (v := .slice va D2.parts.length vb) rfl) no_int_slice
        by_cases hlt5 : n5 < D2.parts.length
        ·have hli5 : (n5 : Int) < D2.parts.length := by omega
         obtain ⟨pbk, pof, pcp, ev, hcap, hpX, hpx⟩ := HM.out.c om
         cases ev
         have hno : n5 < l2.length := by rw [HM.out.ll]; exact hlt5
         have hwr := HM.out.w n5 hno hlt5
         obtain ⟨hx1, hx2⟩ := hpx n5 hno
         have hm1 : D2.parts[n5].code.length ≤ 1000 := (HSM2.out.q n5 hlt5).1
         have hm2 : D2.parts[n5].inn.length ≤ 1000 := (HSM2.out.q n5 hlt5).2
         generalize D2.parts[n5].code.length = m1 at hwr hm1
         generalize D2.parts[n5].inn.length = m2 at hwr hm2
         obtain ⟨oa, oc, ho⟩ := hwr.1.fm
         obtain ⟨ia, ic, hi⟩ := hwr.2.fm
         have HWR := hd hwr
         have HOE := hd ho
         have HIE := hd hi
         rw [ho] at hx1
         rw [hi] at hx2
         have HX1 := hd hx1
         have HX2 := hd hx2
         have hpG : pbk ≠ X2.heap.size := by omega
         have q3 := HF.out.s _ _ _ hpG hx1 no_int_slice
         clear hwr hpx ho hi hcap hx1 hx2
         go_wp2
         go_loopw [18] (fun v wi => ∃ k : Nat, v = .int .i64 k ∧ k ≤ m1 ∧ Hid (Fi X2.heap.size wc.heap.size X2 wi)) (fun v _ => m1 - (intOf v).toNat)
         case atStart => exact ⟨0, rfl, Nat.zero_le _, HF⟩
         case round =>
          clear q0 q3
          obtain ⟨k, rfl, hk, HI⟩ := hrel
          have q0 := HI.out.s _ _ _ hzX (RX.out.cell (j := 0) rfl) no_int_slice
          have q3 := HI.out.s _ _ _ hpG HX1.out no_int_slice
          by_cases hlk : k < m1
          ·have hlki : (k : Int) < m1 := by omega
           obtain ⟨ob, oo, ocap, eo, hoc, hHb, hxs⟩ := HWR.out.1.op om
           rw [HOE.out] at eo
           cases eo
           obtain ⟨hth, hin⟩ := hxs k hlk
           have HT2 := hd (HI.out.there hth)
           have HIN := hd hin
           clear hxs hth hin
           go_wp2_with (refine wpList_store_midW rfl 83 (.tmp 131) (.tmp 130) rfl ob (oo + k * 4) #[.int .i64 0, .int .i64 0, .int .i64 0, .int .i64 0] rfl rfl HT2.out sizeInsR (by simp [Value.oneCell']) ?_)
           intro W2 HW2
           have HI2 : Hid (Fi X2.heap.size wc.heap.size X2 W2) := hd (by rw [HW2.out]; exact Fi.setI hHb _ _ HI.out HIN.out)
           clear HW2 HI HT2 HIN q0 q3
           go_wp2
           go_roundw
           case rel => exact ⟨k + 1, by go_num, by omega, HI2⟩
           case measure => simp [intOf]; omega
          ·have hlki : ¬ (k : Int) < m1 := by omega
           have q4 := HI.out.s _ _ _ hpG HX2.out no_int_slice
           go_wp2
           go_loopw [19] (fun v wi => ∃ k : Nat, v = .int .i64 k ∧ k ≤ m2 ∧ Hid (Fi X2.heap.size wc.heap.size X2 wi)) (fun v _ => m2 - (intOf v).toNat)
           case atStart => exact ⟨0, rfl, Nat.zero_le _, HI⟩
           case round =>
            clear q0 q3 q4
            obtain ⟨k2, rfl, hk2, HJ⟩ := hrel
            have q0 := HJ.out.s _ _ _ hzX (RX.out.cell (j := 0) rfl) no_int_slice
            have q4 := HJ.out.s _ _ _ hpG HX2.out no_int_slice
            by_cases hlk2 : k2 < m2
            ·have hlki2 : (k2 : Int) < m2 := by omega
             obtain ⟨ob, oo, ocap, eo, hoc, hHb, -, hxs⟩ := HWR.out.2.op om
             rw [HIE.out] at eo
             cases eo
             obtain ⟨⟨mm, hmm⟩, hfz⟩ := hxs k2 hlk2
             obtain ⟨⟨u, hu⟩, hf⟩ := HJ.out.can hmm hfz
             have HI2 := hd (HJ.out.set hmm hHb (.int .i64 (-1)))
             clear hxs hmm hfz HJ
             go_wp2
             go_roundw
             case rel => exact ⟨k2 + 1, by go_num, by omega, HI2⟩
             case measure => simp [intOf]; omega
            ·have hlki2 : ¬ (k2 : Int) < m2 := by omega
             go_wp2
             go_roundw
             case rel => exact ⟨n5 + 1, by go_num, by omega, HJ⟩
             case measure => simp [intOf]; omega
        ·have hli5 : ¬ (n5 : Int) < D2.parts.length := by omega
         have B9 := hd (B8.out.trans HF.out.b)
         clear HF B8 RX HM hzX
         have s0 := (R0.out.up B9.out R0.out.lt).cell (j := 0) (v := .slice pa S.parts.length pc) rfl
         have s1 := (R0.out.up B9.out R0.out.lt).cell (j := 1) (v := .slice ka S.chans.length kc) rfl
         have s2 := (R0.out.up B9.out R0.out.lt).cell (j := 2) (v := .slice sa S.slots.length sc) rfl
         have t0 := (R1.out.up B9.out R1.out.lt).cell (j := 0) (v := .int .i64 D.tick) rfl
         have t1 := (R1.out.up B9.out R1.out.lt).cell (j := 1) (v := .slice ua D.cells.length ub) rfl
         have t2 := (R1.out.up B9.out R1.out.lt).cell (j := 2) (v := .slice la D.lines.length lb) rfl
         go_wp2_with fail
         refine (HVO.out _ (E0.out.up B9.out) (S0.out.up B9.out) (D0.out.up B9.out)).mono ?_
         rintro e w6 ⟨vo, vl3, rfl, hF, b6⟩
         clear q0 s0 s1 s2 t0 t1 t2
         obtain ⟨oa, ob, rfl⟩ := hF.so.form
         obtain ⟨vla, vlb, rfl⟩ := hF.l.form
         have B10 := hd (B9.out.trans (b6.mono B9.out.size))
         have HVF := hd hF
         clear hF b6
         go_wp2_with (refine wpList_store_rowW rfl 37 (.tmp 20) (.tmp 156) rfl w6.heap.size (vwC V3.d.c (.slice oa V3.d.out.length ob) (.slice vla V3.ls.length vlb)) rfl rfl 37 #[.int .i64 0, .int .i64 0, .int .i64 0, .int .i64 0, .int .i64 0, .int .i64 0, .int .i64 0, .int .i64 0, .int .i64 0, .int .i64 0, .int .i64 0, .int .i64 0, .int .i64 0, .int .i64 0, .slice none 0 0, .int .i64 0, .slice none 0 0] rn0 sizeView rfl (vwC_one _ _ _ rfl rfl) ?_)
         intro X3 HX3
         have b3 : Below w6.heap.size w6 X3 := by rw [HX3.out]; exact below_row ((Below.refl _ _).alloc (Nat.le_refl _) _) (Nat.le_refl _) _
         have RX : Hid (Rw X3 w6.heap.size 37 (vwC V3.d.c (.slice oa V3.d.out.length ob) (.slice vla V3.ls.length vlb))) := by
          show Rw _ _ _ _
          rw [HX3.out]
          exact Rw.row (cs := #[.int .i64 0, .int .i64 0, .int .i64 0, .int .i64 0, .int .i64 0, .int .i64 0, .int .i64 0, .int .i64 0, .int .i64 0, .int .i64 0, .int .i64 0, .int .i64 0, .int .i64 0, .int .i64 0, .slice none 0 0, .int .i64 0, .slice none 0 0]) rn0 _
         have HWR := hd (wr_of (H := wc.heap.size) (HVF.out.so.up b3) (fun b e => Nat.le_trans B9.out.size (HVF.out.no b e)))
         have B11 := hd (B10.out.trans (b3.mono B10.out.size))
         have hzX : w6.heap.size ≠ X3.heap.size := by have := RX.out.lt; omega
         clear HX3 b3 HVF B9 B10
         go_wp2
         go_loopw [22] (fun v wr => ∃ n : Nat, v = .int .i64 n ∧ n ≤ V3.d.out.length ∧ Hid (Fi X3.heap.size wc.heap.size X3 wr)) (fun v _ => V3.d.out.length - (intOf v).toNat)
         case atStart => exact ⟨0, rfl, Nat.zero_le _, hd (Fi.refl _ _ _)⟩
         case round =>
          obtain ⟨n8, rfl, hn8, HF⟩ := hrel
          have q0 := HF.out.s _ _ _ hzX (RX.out.cell (j := 14) (v := .slice oa V3.d.out.length ob) rfl) no_int_slice
          by_cases hlt8 : n8 < V3.d.out.length
          ·have hli8 : (n8 : Int) < V3.d.out.length := by omega
           obtain ⟨bk, oo, ocap, eo, hoc, hHb, -, hxs⟩ := HWR.out.op om
           cases eo
           obtain ⟨⟨mm, hmm⟩, hfz⟩ := hxs n8 hlt8
           obtain ⟨⟨u, hu⟩, hf⟩ := HF.out.can hmm hfz
           have HI2 := hd (HF.out.set hmm hHb (.int .i64 (-1)))
           clear hxs hmm hfz HF
           go_wp2
           go_roundw
           case rel => exact ⟨n8 + 1, by go_num, by omega, HI2⟩
           case measure => simp [intOf]; omega
          ·have hli8 : ¬ (n8 : Int) < V3.d.out.length := by omega
           have B12 := hd (B11.out.trans HF.out.b)
           clear HF B11 RX HWR hzX
           have s0 := (R0.out.up B12.out R0.out.lt).cell (j := 0) (v := .slice pa S.parts.length pc) rfl
           have s1 := (R0.out.up B12.out R0.out.lt).cell (j := 1) (v := .slice ka S.chans.length kc) rfl
           have s2 := (R0.out.up B12.out R0.out.lt).cell (j := 2) (v := .slice sa S.slots.length sc) rfl
           have t0 := (R1.out.up B12.out R1.out.lt).cell (j := 0) (v := .int .i64 D.tick) rfl
           have t1 := (R1.out.up B12.out R1.out.lt).cell (j := 1) (v := .slice ua D.cells.length ub) rfl
           have t2 := (R1.out.up B12.out R1.out.lt).cell (j := 2) (v := .slice la D.lines.length lb) rfl
           go_wp2_with fail
           refine (HST.out _ (E0.out.up B12.out) (S0.out.up B12.out) (D0.out.up B12.out)).mono ?_
           rintro e w7 ⟨zc, zl, rfl, hF, b7⟩
           clear q0 s0 s1 s2 t0 t1 t2
           obtain ⟨ea, eb, rfl⟩ := hF.wld.c.form
           obtain ⟨ha, hb, rfl⟩ := hF.wld.l.form
           have YW := hd (hF.wld.up ((Below.refl _ _).alloc (Nat.le_refl _) (.cells #[.int .i64 D1.tick, .slice ea D1.cells.length eb, .slice ha D1.lines.length hb] 30)))
           have B13 := hd (B12.out.trans (b7.mono B12.out.size))
           have RY := hd (Rw.new w7 30 #[.int .i64 D1.tick, .slice ea D1.cells.length eb, .slice ha D1.lines.length hb] rfl)
           clear hF b7 B12
           have B14 := hd (B13.out.alloc B13.out.size (.cells #[.int .i64 D1.tick, .slice ea D1.cells.length eb, .slice ha D1.lines.length hb] 30))
           clear B13
           have s0 := (R0.out.up B14.out R0.out.lt).cell (j := 0) (v := .slice pa S.parts.length pc) rfl
           have s1 := (R0.out.up B14.out R0.out.lt).cell (j := 1) (v := .slice ka S.chans.length kc) rfl
           have s2 := (R0.out.up B14.out R0.out.lt).cell (j := 2) (v := .slice sa S.slots.length sc) rfl
           have t0 := (R1.out.up B14.out R1.out.lt).cell (j := 0) (v := .int .i64 D.tick) rfl
           have t1 := (R1.out.up B14.out R1.out.lt).cell (j := 1) (v := .slice ua D.cells.length ub) rfl
           have t2 := (R1.out.up B14.out R1.out.lt).cell (j := 2) (v := .slice la D.lines.length lb) rfl
           go_wp2_with fail
           refine (HPU.out _ (E0.out.up B14.out) (S0.out.up B14.out)).mono ?_
           rintro e w8 ⟨zp, zk, zs, rfl, hF, b8⟩
           clear s0 s1 s2 t0 t1 t2
           obtain ⟨ia, ib, rfl⟩ := hF.sys.p.form
           obtain ⟨ja, jb, rfl⟩ := hF.sys.c.form
           obtain ⟨ma, mb, rfl⟩ := hF.sys.s.form
           have QS := hd (hF.sys.up ((Below.refl _ _).alloc (Nat.le_refl _) (.cells #[.slice ia D2.parts.length ib, .slice ja D2.chans.length jb, .slice ma D2.slots.length mb] 26)))
           have b9 : Below (World.alloc w7 (.cells #[.int .i64 D1.tick, .slice ea D1.cells.length eb, .slice ha D1.lines.length hb] 30)).heap.size (World.alloc w7 (.cells #[.int .i64 D1.tick, .slice ea D1.cells.length eb, .slice ha D1.lines.length hb] 30)) (w8.alloc (.cells #[.slice ia D2.parts.length ib, .slice ja D2.chans.length jb, .slice ma D2.slots.length mb] 26)) := b8.alloc b8.size _
           have YW' := hd (YW.out.up b9)
           have RY' := hd (RY.out.up b9 RY.out.lt)
           have B15 := hd (B14.out.trans (b9.mono B14.out.size))
           have RQ := hd (Rw.new w8 26 #[.slice ia D2.parts.length ib, .slice ja D2.chans.length jb, .slice ma D2.slots.length mb] rfl)
           clear hF b8 b9 B14 YW RY
           have YW := YW'
           have RY := RY'
           clear YW' RY'
           have s0 := (R0.out.up B15.out R0.out.lt).cell (j := 0) (v := .slice pa S.parts.length pc) rfl
           have s1 := (R0.out.up B15.out R0.out.lt).cell (j := 1) (v := .slice ka S.chans.length kc) rfl
           have s2 := (R0.out.up B15.out R0.out.lt).cell (j := 2) (v := .slice sa S.slots.length sc) rfl
           have t0 := (R1.out.up B15.out R1.out.lt).cell (j := 0) (v := .int .i64 D.tick) rfl
           have t1 := (R1.out.up B15.out R1.out.lt).cell (j := 1) (v := .slice ua D.cells.length ub) rfl
           have t2 := (R1.out.up B15.out R1.out.lt).cell (j := 2) (v := .slice la D.lines.length lb) rfl
           have x0 := (R7.out.up B15.out R7.out.lt).cell (j := 0) (v := .slice xpa S.parts.length xpb) rfl
           have x1 := (R7.out.up B15.out R7.out.lt).cell (j := 1) (v := .slice xca S.chans.length xcb) rfl
           have x2 := (R7.out.up B15.out R7.out.lt).cell (j := 2) (v := .slice xsa S.slots.length xsb) rfl
           have y0 := (R8.out.up B15.out R8.out.lt).cell (j := 0) (v := .int .i64 D.tick) rfl
           have y1 := (R8.out.up B15.out R8.out.lt).cell (j := 1) (v := .slice yca D.cells.length ycb) rfl
           have y2 := (R8.out.up B15.out R8.out.lt).cell (j := 2) (v := .slice yla D.lines.length ylb) rfl
           have n1 : (e0 != e0) = false := by simp
           have n2 : (f0 != f0) = false := by simp
           go_wp2_with fail
           refine (sameSys_any S (small4 HK.out).1 (small4 HK.out).2.1 (small4 HK.out).2.2.1 (small4 HK.out).2.2.2 _ _ _ _ _ _ _ (S0.out.up B15.out) (SC.out.up B15.out)).mono ?_
           rintro e w9 ⟨rfl, b9⟩
           clear x0 x1 x2 y0 y1 y2
           clear s0 s1 s2 t0 t1 t2
           have YW' := hd (YW.out.up b9)
           have RY' := hd (RY.out.up b9 RY.out.lt)
           have QS' := hd (QS.out.up b9)
           have RQ' := hd (RQ.out.up b9 RQ.out.lt)
           have B15' := hd (B15.out.trans (b9.mono B15.out.size))
           clear YW RY QS RQ B15 b9
           have YW := YW'
           have RY := RY'
           have QS := QS'
           have RQ := RQ'
           have B15 := B15'
           clear YW' RY' QS' RQ' B15'
           have s0 := (R0.out.up B15.out R0.out.lt).cell (j := 0) (v := .slice pa S.parts.length pc) rfl
           have s1 := (R0.out.up B15.out R0.out.lt).cell (j := 1) (v := .slice ka S.chans.length kc) rfl
           have s2 := (R0.out.up B15.out R0.out.lt).cell (j := 2) (v := .slice sa S.slots.length sc) rfl
           have t0 := (R1.out.up B15.out R1.out.lt).cell (j := 0) (v := .int .i64 D.tick) rfl
           have t1 := (R1.out.up B15.out R1.out.lt).cell (j := 1) (v := .slice ua D.cells.length ub) rfl
           have t2 := (R1.out.up B15.out R1.out.lt).cell (j := 2) (v := .slice la D.lines.length lb) rfl
           have y0 := (R8.out.up B15.out R8.out.lt).cell (j := 0) (v := .int .i64 D.tick) rfl
           have y1 := (R8.out.up B15.out R8.out.lt).cell (j := 1) (v := .slice yca D.cells.length ycb) rfl
           have y2 := (R8.out.up B15.out R8.out.lt).cell (j := 2) (v := .slice yla D.lines.length ylb) rfl
           go_wp2_with fail
           refine (sameWorlds_yes D HSM.out _ _ _ _ _ (D0.out.up B15.out) (DC.out.up B15.out)).mono ?_
           rintro e w10 ⟨rfl, b9⟩
           clear y0 y1 y2
           clear s0 s1 s2 t0 t1 t2
           have YW' := hd (YW.out.up b9)
           have RY' := hd (RY.out.up b9 RY.out.lt)
           have QS' := hd (QS.out.up b9)
           have RQ' := hd (RQ.out.up b9 RQ.out.lt)
           have B15' := hd (B15.out.trans (b9.mono B15.out.size))
           clear YW RY QS RQ B15 b9
           have YW := YW'
           have RY := RY'
           have QS := QS'
           have RQ := RQ'
           have B15 := B15'
           clear YW' RY' QS' RQ' B15'
           go_wp2_with fail
           refine (kernBegun_any _ (E0.out.up B15.out)).mono ?_
           rintro e w11 ⟨rfl, b9⟩
           have YW' := hd (YW.out.up b9)
           have RY' := hd (RY.out.up b9 RY.out.lt)
           have QS' := hd (QS.out.up b9)
           have RQ' := hd (RQ.out.up b9 RQ.out.lt)
           have B15' := hd (B15.out.trans (b9.mono B15.out.size))
           clear YW RY QS RQ B15 b9
           have YW := YW'
           have RY := RY'
           have QS := QS'
           have RQ := RQ'
           have B15 := B15'
           clear YW' RY' QS' RQ' B15'
           have s0 := (R0.out.up B15.out R0.out.lt).cell (j := 0) (v := .slice pa S.parts.length pc) rfl
           have s1 := (R0.out.up B15.out R0.out.lt).cell (j := 1) (v := .slice ka S.chans.length kc) rfl
           have s2 := (R0.out.up B15.out R0.out.lt).cell (j := 2) (v := .slice sa S.slots.length sc) rfl
           have t0 := (R1.out.up B15.out R1.out.lt).cell (j := 0) (v := .int .i64 D.tick) rfl
           have t1 := (R1.out.up B15.out R1.out.lt).cell (j := 1) (v := .slice ua D.cells.length ub) rfl
           have t2 := (R1.out.up B15.out R1.out.lt).cell (j := 2) (v := .slice la D.lines.length lb) rfl
           have HKS := hd fun V h1 h2 ht => kernStepRef_any S D (.slice pa S.parts.length pc) (.slice ka S.chans.length kc) (.slice sa S.slots.length sc) (.slice ua D.cells.length ub) (.slice la D.lines.length lb) V h1 h2 HK.out HRT.out.t0 ht HRT.out.c HRT.out.l
           have HPO := hd fun V h => purgeOf_any S part HK.out (.slice pa S.parts.length pc) (.slice ka S.chans.length kc) (.slice sa S.slots.length sc) V h
           rcases HTK.out with ⟨rfl, htk, hDn, hDt⟩ | ⟨rfl, htk⟩
           ·have HTI := hd htk
            rw [← hDt, ← hDn] at HKS
            clear hDt hDn
            rcases HPK.out with ⟨rfl, hDp⟩ | rfl
            ·rw [← hDp] at HPO
             clear hDp
             go_wp2_with fail
             refine (HTHR.out _ (S0.out.up B15.out)).mono ?_
             rintro e w12 ⟨rfl, b9⟩
             clear s0 s1 s2 t0 t1 t2
             have YW' := hd (YW.out.up b9)
             have RY' := hd (RY.out.up b9 RY.out.lt)
             have QS' := hd (QS.out.up b9)
             have RQ' := hd (RQ.out.up b9 RQ.out.lt)
             have B15' := hd (B15.out.trans (b9.mono B15.out.size))
             clear YW RY QS RQ B15 b9
             have YW := YW'
             have RY := RY'
             have QS := QS'
             have RQ := RQ'
             have B15 := B15'
             clear YW' RY' QS' RQ' B15'
             have s0 := (R0.out.up B15.out R0.out.lt).cell (j := 0) (v := .slice pa S.parts.length pc) rfl
             have s1 := (R0.out.up B15.out R0.out.lt).cell (j := 1) (v := .slice ka S.chans.length kc) rfl
             have s2 := (R0.out.up B15.out R0.out.lt).cell (j := 2) (v := .slice sa S.slots.length sc) rfl
             have t0 := (R1.out.up B15.out R1.out.lt).cell (j := 0) (v := .int .i64 D.tick) rfl
             have t1 := (R1.out.up B15.out R1.out.lt).cell (j := 1) (v := .slice ua D.cells.length ub) rfl
             have t2 := (R1.out.up B15.out R1.out.lt).cell (j := 2) (v := .slice la D.lines.length lb) rfl
             have zS : w.heap.size < w12.heap.size := (R0.out.up B15.out R0.out.lt).lt
             have zT : w.heap.size + 1 < w12.heap.size := (R1.out.up B15.out R1.out.lt).lt
             have zY : w7.heap.size < w12.heap.size := RY.out.lt
             have zQ : w8.heap.size < w12.heap.size := RQ.out.lt
             have y0 := RY.out.cell (j := 0) (v := .int .i64 D1.tick) rfl
             have y1 := RY.out.cell (j := 1) (v := .slice ea D1.cells.length eb) rfl
             have y2 := RY.out.cell (j := 2) (v := .slice ha D1.lines.length hb) rfl
             have r0 := RQ.out.cell (j := 0) (v := .slice ia D2.parts.length ib) rfl
             have r1 := RQ.out.cell (j := 1) (v := .slice ja D2.chans.length jb) rfl
             have r2 := RQ.out.cell (j := 2) (v := .slice ma D2.slots.length mb) rfl
             go_upto_region 43 with fail
             refine region_still (S := fun w' => Below w12.heap.size w12 w') 20 kr (Below.refl _ _).drew (fun hHeld => ?_)
             refine Still.takeBy (i := 0) [] (v := ?v101) kr kr rfl kr kr kr (fun _ _ _ h => h) (Or.inl ⟨by kernel_rfl, ?y101⟩) hHeld ?r101
             case y101 => (intro w' hSw; (try dsimp only at hSw); clear hSw; go_simp; try with_reducible rfl)
             simp only [Act.put, List.getElem_toArray, List.getElem_cons_zero, List.getElem_cons_succ, List.setIfInBounds_toArray, List.set_cons_zero, List.set_cons_succ]
             refine Still.takeBy (i := 1) [] (v := ?v102) kr kr rfl kr kr kr (fun _ _ _ h => h) (Or.inl ⟨by kernel_rfl, ?y102⟩) hHeld ?r102
             case y102 => (intro w' hSw; (try dsimp only at hSw); clear hSw; go_simp; try with_reducible rfl)
             simp only [Act.put, List.getElem_toArray, List.getElem_cons_zero, List.getElem_cons_succ, List.setIfInBounds_toArray, List.set_cons_zero, List.set_cons_succ]
             refine Still.takeBy (i := 2) [] (v := ?v103) kr kr rfl kr kr kr (fun _ _ _ h => h) (Or.inl ⟨by kernel_rfl, ?y103⟩) hHeld ?r103
             case y103 => (intro w' hSw; (try dsimp only at hSw); clear hSw; go_simp; try with_reducible rfl)
             simp only [Act.put, List.getElem_toArray, List.getElem_cons_zero, List.getElem_cons_succ, List.setIfInBounds_toArray, List.set_cons_zero, List.set_cons_succ]
             refine Still.takeBy (i := 3) [] (v := ?v104) kr kr rfl kr kr kr (fun _ _ _ h => h) (Or.inl ⟨by kernel_rfl, ?y104⟩) hHeld ?r104
             case y104 => (intro w' hSw; (try dsimp only at hSw); have q0 := bcl hSw zY y0; have q1 := bcl hSw zY y1; have q2 := bcl hSw zY y2; clear hSw; go_simp; try with_reducible rfl)
             simp only [Act.put, List.getElem_toArray, List.getElem_cons_zero, List.getElem_cons_succ, List.setIfInBounds_toArray, List.set_cons_zero, List.set_cons_succ]
             refine Still.takeBy (i := 4) [] (v := ?v105) kr kr rfl kr kr kr (fun _ _ _ h => h) (Or.inl ⟨by kernel_rfl, ?y105⟩) hHeld ?r105
             case y105 => (intro w' hSw; (try dsimp only at hSw); have q0 := bcl hSw zS s0; have q1 := bcl hSw zS s1; have q2 := bcl hSw zS s2; clear hSw; go_simp; try with_reducible rfl)
             simp only [Act.put, List.getElem_toArray, List.getElem_cons_zero, List.getElem_cons_succ, List.setIfInBounds_toArray, List.set_cons_zero, List.set_cons_succ]
             refine Still.takeBy (i := 5) [] (v := ?v106) kr kr rfl kr kr kr (fun _ _ _ h => h) (Or.inl ⟨by kernel_rfl, ?y106⟩) hHeld ?r106
             case y106 => (intro w' hSw; (try dsimp only at hSw); have q0 := bcl hSw zT t0; have q1 := bcl hSw zT t1; have q2 := bcl hSw zT t2; clear hSw; go_simp; try with_reducible rfl)
             simp only [Act.put, List.getElem_toArray, List.getElem_cons_zero, List.getElem_cons_succ, List.setIfInBounds_toArray, List.set_cons_zero, List.set_cons_succ]
             refine Still.all (rs := [6]) kr (by simp) (Still.oneG (i := 6) rfl kr (fun K hK => ?_) (by simp))
             refine wp_call 29 _ _ rfl entKernStepR #[.agg #[.slice pa S.parts.length pc, .slice ka S.chans.length kc, .slice sa S.slots.length sc], .agg #[.int .i64 D.tick, .slice ua D.cells.length ub, .slice la D.lines.length lb]] (by first | rfl | simp [Act.eval, Act.put]) ((HKS.out _ (S0.out.up (B15.out.trans (hHeld.mono B15.out.size))) (D0.out.up (B15.out.trans (hHeld.mono B15.out.size))) HTI.out).mono ?_)
             rintro e V1 ⟨kc', kl', rfl, hF, bb⟩
             have KW := hd hF.wld
             refine ⟨_, rfl, hK _ _ (fun _ => hHeld.trans (bb.mono hHeld.size)) (fun hh => ?_)⟩
             clear hF
             have hHeld := hh (by decide)
             clear hK K hh bb
             try simp only [Act.put, List.getElem_toArray, List.getElem_cons_zero, List.getElem_cons_succ, List.setIfInBounds_toArray, List.set_cons_zero, List.set_cons_succ]
             refine Still.all (rs := [7]) kr (by simp) (Still.oneG (i := 7) rfl kr (fun K hK => ?_) (by simp))
             refine wp_call 28 _ _ rfl entSameWldR #[.agg #[.int .i64 D1.tick, .slice ea D1.cells.length eb, .slice ha D1.lines.length hb], .agg #[.int .i64 D1.tick, kc', kl']] (by first | rfl | simp [Act.eval, Act.put]) ((sameWorlds_yes D1 HSM1.out _ _ _ _ _ (YW.out.up hHeld) KW.out).mono ?_)
             rintro e V2 ⟨rfl, bb⟩
             refine ⟨_, rfl, hK _ _ (fun _ => hHeld.trans (bb.mono hHeld.size)) (fun hh => ?_)⟩
             have hHeld := hh (by decide)
             clear hK K hh bb
             try simp only [Act.put, List.getElem_toArray, List.getElem_cons_zero, List.getElem_cons_succ, List.setIfInBounds_toArray, List.set_cons_zero, List.set_cons_succ]
             refine Still.takeBy (i := 8) [] (v := ?v107) kr kr rfl kr kr kr (fun _ _ _ h => h) (Or.inl ⟨by kernel_rfl, ?y107⟩) hHeld ?r107
             case y107 => (intro w' hSw; (try dsimp only at hSw); clear hSw; go_simp; try with_reducible rfl)
             simp only [Act.put, List.getElem_toArray, List.getElem_cons_zero, List.getElem_cons_succ, List.setIfInBounds_toArray, List.set_cons_zero, List.set_cons_succ]
             refine Still.takeBy (i := 9) [] (v := ?v108) kr kr rfl kr kr kr (fun _ _ _ h => h) (Or.inl ⟨by kernel_rfl, ?y108⟩) hHeld ?r108
             case y108 => (intro w' hSw; (try dsimp only at hSw); clear hSw; go_simp; try with_reducible rfl)
             simp only [Act.put, List.getElem_toArray, List.getElem_cons_zero, List.getElem_cons_succ, List.setIfInBounds_toArray, List.set_cons_zero, List.set_cons_succ]
             refine Still.takeBy (i := 10) [] (v := ?v109) kr kr rfl kr kr kr (fun _ _ _ h => h) (Or.inl ⟨by kernel_rfl, ?y109⟩) hHeld ?r109
             case y109 => (intro w' hSw; (try dsimp only at hSw); clear hSw; go_simp; try with_reducible rfl)
             simp only [Act.put, List.getElem_toArray, List.getElem_cons_zero, List.getElem_cons_succ, List.setIfInBounds_toArray, List.set_cons_zero, List.set_cons_succ]
             refine Still.takeBy (i := 11) [] (v := ?v110) kr kr rfl kr kr kr (fun _ _ _ h => h) (Or.inl ⟨by kernel_rfl, ?y110⟩) hHeld ?r110
             case y110 => (intro w' hSw; (try dsimp only at hSw); clear hSw; go_simp; try with_reducible rfl)
             simp only [Act.put, List.getElem_toArray, List.getElem_cons_zero, List.getElem_cons_succ, List.setIfInBounds_toArray, List.set_cons_zero, List.set_cons_succ]
             refine Still.takeBy (i := 12) [] (v := ?v111) kr kr rfl kr kr kr (fun _ _ _ h => h) (Or.inl ⟨by kernel_rfl, ?y111⟩) hHeld ?r111
             case y111 => (intro w' hSw; (try dsimp only at hSw); clear hSw; go_simp; try with_reducible rfl)
             simp only [Act.put, List.getElem_toArray, List.getElem_cons_zero, List.getElem_cons_succ, List.setIfInBounds_toArray, List.set_cons_zero, List.set_cons_succ]
             refine Still.takeBy (i := 13) [] (v := ?v112) kr kr rfl kr kr kr (fun _ _ _ h => h) (Or.inl ⟨by kernel_rfl, ?y112⟩) hHeld ?r112
             case y112 => (intro w' hSw; (try dsimp only at hSw); have q0 := bcl hSw zQ r0; have q1 := bcl hSw zQ r1; have q2 := bcl hSw zQ r2; clear hSw; go_simp; try with_reducible rfl)
             simp only [Act.put, List.getElem_toArray, List.getElem_cons_zero, List.getElem_cons_succ, List.setIfInBounds_toArray, List.set_cons_zero, List.set_cons_succ]
             refine Still.takeBy (i := 14) [] (v := ?v113) kr kr rfl kr kr kr (fun _ _ _ h => h) (Or.inl ⟨by kernel_rfl, ?y113⟩) hHeld ?r113
             case y113 => (intro w' hSw; (try dsimp only at hSw); have q0 := bcl hSw zS s0; have q1 := bcl hSw zS s1; have q2 := bcl hSw zS s2; clear hSw; go_simp; try with_reducible rfl)
             simp only [Act.put, List.getElem_toArray, List.getElem_cons_zero, List.getElem_cons_succ, List.setIfInBounds_toArray, List.set_cons_zero, List.set_cons_succ]
             refine Still.takeBy (i := 15) [] (v := ?v114) kr kr rfl kr kr kr (fun _ _ _ h => h) (Or.inl ⟨by kernel_rfl, ?y114⟩) hHeld ?r114
             case y114 => (intro w' hSw; (try dsimp only at hSw); clear hSw; go_simp; try with_reducible rfl)
             simp only [Act.put, List.getElem_toArray, List.getElem_cons_zero, List.getElem_cons_succ, List.setIfInBounds_toArray, List.set_cons_zero, List.set_cons_succ]
             refine Still.all (rs := [16]) kr (by simp) (Still.oneG (i := 16) rfl kr (fun K hK => ?_) (by simp))
             refine wp_call 17 _ _ rfl entPurgeOfR #[.agg #[.slice pa S.parts.length pc, .slice ka S.chans.length kc, .slice sa S.slots.length sc], .int .i64 part] (by first | rfl | simp [Act.eval, Act.put]) ((HPO.out _ (S0.out.up (B15.out.trans (hHeld.mono B15.out.size)))).mono ?_)
             rintro e V3w ⟨kp', kk', ks', rfl, hF, bb⟩
             have KS := hd hF.sys
             refine ⟨_, rfl, hK _ _ (fun _ => hHeld.trans (bb.mono hHeld.size)) (fun hh => ?_)⟩
             clear hF
             have hHeld := hh (by decide)
             clear hK K hh bb
             try simp only [Act.put, List.getElem_toArray, List.getElem_cons_zero, List.getElem_cons_succ, List.setIfInBounds_toArray, List.set_cons_zero, List.set_cons_succ]
             refine Still.all (rs := [17]) kr (by simp) (Still.oneG (i := 17) rfl kr (fun K hK => ?_) (by simp))
             refine wp_call 19 _ _ rfl entSameSysR #[.agg #[.slice ia D2.parts.length ib, .slice ja D2.chans.length jb, .slice ma D2.slots.length mb], .agg #[kp', kk', ks']] (by first | rfl | simp [Act.eval, Act.put]) ((sameSys_any D2 hp2 HSM2.out.c HSM2.out.s HSM2.out.q _ _ _ _ _ _ _ (QS.out.up hHeld) KS.out).mono ?_)
             rintro e V4w ⟨rfl, bb⟩
             refine ⟨_, rfl, hK _ _ (fun _ => hHeld.trans (bb.mono hHeld.size)) (fun hh => ?_)⟩
             have hHeld := hh (by decide)
             clear hK K hh bb
             try simp only [Act.put, List.getElem_toArray, List.getElem_cons_zero, List.getElem_cons_succ, List.setIfInBounds_toArray, List.set_cons_zero, List.set_cons_succ]
             refine Still.takeBy (i := 18) [] (v := ?v115) kr kr rfl kr kr kr (fun _ _ _ h => h) (Or.inl ⟨by kernel_rfl, ?y115⟩) hHeld ?r115
             case y115 => (intro w' hSw; (try dsimp only at hSw); clear hSw; go_simp; try with_reducible rfl)
             simp only [Act.put, List.getElem_toArray, List.getElem_cons_zero, List.getElem_cons_succ, List.setIfInBounds_toArray, List.set_cons_zero, List.set_cons_succ]
             refine Still.takeBy (i := 19) [] (v := ?v116) kr kr rfl kr kr kr (fun _ _ _ h => h) (Or.inl ⟨by kernel_rfl, ?y116⟩) hHeld ?r116
             case y116 => (intro w' hSw; (try dsimp only at hSw); clear hSw; go_simp; try with_reducible rfl)
             simp only [Act.put, List.getElem_toArray, List.getElem_cons_zero, List.getElem_cons_succ, List.setIfInBounds_toArray, List.set_cons_zero, List.set_cons_succ]
             refine Still.all (rs := [20]) kr (by simp) (Still.one (i := 20) rfl rfl (fun K hK => ?_) (by simp))
             go_simp
             refine hK _ _ ab (fun _ => Still.vv ?_)
             clear hK K
             have HFIN := hd (HBW.out.trans ((B15.out.trans (hHeld.mono B15.out.size)).mono HBW.out.size))
             clear hHeld
             go_wp2
             go_ret
             exact ⟨rfl, HFIN.out⟩
            ·clear HPO
             go_wp2_with fail
             refine (HTHR.out _ (S0.out.up B15.out)).mono ?_
             rintro e w12 ⟨rfl, b9⟩
             clear s0 s1 s2 t0 t1 t2
             have YW' := hd (YW.out.up b9)
             have RY' := hd (RY.out.up b9 RY.out.lt)
             have QS' := hd (QS.out.up b9)
             have RQ' := hd (RQ.out.up b9 RQ.out.lt)
             have B15' := hd (B15.out.trans (b9.mono B15.out.size))
             clear YW RY QS RQ B15 b9
             have YW := YW'
             have RY := RY'
             have QS := QS'
             have RQ := RQ'
             have B15 := B15'
             clear YW' RY' QS' RQ' B15'
             have s0 := (R0.out.up B15.out R0.out.lt).cell (j := 0) (v := .slice pa S.parts.length pc) rfl
             have s1 := (R0.out.up B15.out R0.out.lt).cell (j := 1) (v := .slice ka S.chans.length kc) rfl
             have s2 := (R0.out.up B15.out R0.out.lt).cell (j := 2) (v := .slice sa S.slots.length sc) rfl
             have t0 := (R1.out.up B15.out R1.out.lt).cell (j := 0) (v := .int .i64 D.tick) rfl
             have t1 := (R1.out.up B15.out R1.out.lt).cell (j := 1) (v := .slice ua D.cells.length ub) rfl
             have t2 := (R1.out.up B15.out R1.out.lt).cell (j := 2) (v := .slice la D.lines.length lb) rfl
             have zS : w.heap.size < w12.heap.size := (R0.out.up B15.out R0.out.lt).lt
             have zT : w.heap.size + 1 < w12.heap.size := (R1.out.up B15.out R1.out.lt).lt
             have zY : w7.heap.size < w12.heap.size := RY.out.lt
             have zQ : w8.heap.size < w12.heap.size := RQ.out.lt
             have y0 := RY.out.cell (j := 0) (v := .int .i64 D1.tick) rfl
             have y1 := RY.out.cell (j := 1) (v := .slice ea D1.cells.length eb) rfl
             have y2 := RY.out.cell (j := 2) (v := .slice ha D1.lines.length hb) rfl
             have r0 := RQ.out.cell (j := 0) (v := .slice ia D2.parts.length ib) rfl
             have r1 := RQ.out.cell (j := 1) (v := .slice ja D2.chans.length jb) rfl
             have r2 := RQ.out.cell (j := 2) (v := .slice ma D2.slots.length mb) rfl
             go_upto_region 43 with fail
             refine region_still (S := fun w' => Below w12.heap.size w12 w') 20 kr (Below.refl _ _).drew (fun hHeld => ?_)
             refine Still.takeBy (i := 0) [] (v := ?v201) kr kr rfl kr kr kr (fun _ _ _ h => h) (Or.inl ⟨by kernel_rfl, ?y201⟩) hHeld ?r201
             case y201 => (intro w' hSw; (try dsimp only at hSw); clear hSw; go_simp; try with_reducible rfl)
             simp only [Act.put, List.getElem_toArray, List.getElem_cons_zero, List.getElem_cons_succ, List.setIfInBounds_toArray, List.set_cons_zero, List.set_cons_succ]
             refine Still.takeBy (i := 1) [] (v := ?v202) kr kr rfl kr kr kr (fun _ _ _ h => h) (Or.inl ⟨by kernel_rfl, ?y202⟩) hHeld ?r202
             case y202 => (intro w' hSw; (try dsimp only at hSw); clear hSw; go_simp; try with_reducible rfl)
             simp only [Act.put, List.getElem_toArray, List.getElem_cons_zero, List.getElem_cons_succ, List.setIfInBounds_toArray, List.set_cons_zero, List.set_cons_succ]
             refine Still.takeBy (i := 2) [] (v := ?v203) kr kr rfl kr kr kr (fun _ _ _ h => h) (Or.inl ⟨by kernel_rfl, ?y203⟩) hHeld ?r203
             case y203 => (intro w' hSw; (try dsimp only at hSw); clear hSw; go_simp; try with_reducible rfl)
             simp only [Act.put, List.getElem_toArray, List.getElem_cons_zero, List.getElem_cons_succ, List.setIfInBounds_toArray, List.set_cons_zero, List.set_cons_succ]
             refine Still.takeBy (i := 3) [] (v := ?v204) kr kr rfl kr kr kr (fun _ _ _ h => h) (Or.inl ⟨by kernel_rfl, ?y204⟩) hHeld ?r204
             case y204 => (intro w' hSw; (try dsimp only at hSw); have q0 := bcl hSw zY y0; have q1 := bcl hSw zY y1; have q2 := bcl hSw zY y2; clear hSw; go_simp; try with_reducible rfl)
             simp only [Act.put, List.getElem_toArray, List.getElem_cons_zero, List.getElem_cons_succ, List.setIfInBounds_toArray, List.set_cons_zero, List.set_cons_succ]
             refine Still.takeBy (i := 4) [] (v := ?v205) kr kr rfl kr kr kr (fun _ _ _ h => h) (Or.inl ⟨by kernel_rfl, ?y205⟩) hHeld ?r205
             case y205 => (intro w' hSw; (try dsimp only at hSw); have q0 := bcl hSw zS s0; have q1 := bcl hSw zS s1; have q2 := bcl hSw zS s2; clear hSw; go_simp; try with_reducible rfl)
             simp only [Act.put, List.getElem_toArray, List.getElem_cons_zero, List.getElem_cons_succ, List.setIfInBounds_toArray, List.set_cons_zero, List.set_cons_succ]
             refine Still.takeBy (i := 5) [] (v := ?v206) kr kr rfl kr kr kr (fun _ _ _ h => h) (Or.inl ⟨by kernel_rfl, ?y206⟩) hHeld ?r206
             case y206 => (intro w' hSw; (try dsimp only at hSw); have q0 := bcl hSw zT t0; have q1 := bcl hSw zT t1; have q2 := bcl hSw zT t2; clear hSw; go_simp; try with_reducible rfl)
             simp only [Act.put, List.getElem_toArray, List.getElem_cons_zero, List.getElem_cons_succ, List.setIfInBounds_toArray, List.set_cons_zero, List.set_cons_succ]
             refine Still.all (rs := [6]) kr (by simp) (Still.oneG (i := 6) rfl kr (fun K hK => ?_) (by simp))
             refine wp_call 29 _ _ rfl entKernStepR #[.agg #[.slice pa S.parts.length pc, .slice ka S.chans.length kc, .slice sa S.slots.length sc], .agg #[.int .i64 D.tick, .slice ua D.cells.length ub, .slice la D.lines.length lb]] (by first | rfl | simp [Act.eval, Act.put]) ((HKS.out _ (S0.out.up (B15.out.trans (hHeld.mono B15.out.size))) (D0.out.up (B15.out.trans (hHeld.mono B15.out.size))) HTI.out).mono ?_)
             rintro e V1 ⟨kc', kl', rfl, hF, bb⟩
             have KW := hd hF.wld
             refine ⟨_, rfl, hK _ _ (fun _ => hHeld.trans (bb.mono hHeld.size)) (fun hh => ?_)⟩
             clear hF
             have hHeld := hh (by decide)
             clear hK K hh bb
             try simp only [Act.put, List.getElem_toArray, List.getElem_cons_zero, List.getElem_cons_succ, List.setIfInBounds_toArray, List.set_cons_zero, List.set_cons_succ]
             refine Still.all (rs := [7]) kr (by simp) (Still.oneG (i := 7) rfl kr (fun K hK => ?_) (by simp))
             refine wp_call 28 _ _ rfl entSameWldR #[.agg #[.int .i64 D1.tick, .slice ea D1.cells.length eb, .slice ha D1.lines.length hb], .agg #[.int .i64 D1.tick, kc', kl']] (by first | rfl | simp [Act.eval, Act.put]) ((sameWorlds_yes D1 HSM1.out _ _ _ _ _ (YW.out.up hHeld) KW.out).mono ?_)
             rintro e V2 ⟨rfl, bb⟩
             refine ⟨_, rfl, hK _ _ (fun _ => hHeld.trans (bb.mono hHeld.size)) (fun hh => ?_)⟩
             have hHeld := hh (by decide)
             clear hK K hh bb
             try simp only [Act.put, List.getElem_toArray, List.getElem_cons_zero, List.getElem_cons_succ, List.setIfInBounds_toArray, List.set_cons_zero, List.set_cons_succ]
             refine Still.takeBy (i := 8) [] (v := ?v207) kr kr rfl kr kr kr (fun _ _ _ h => h) (Or.inl ⟨by kernel_rfl, ?y207⟩) hHeld ?r207
             case y207 => (intro w' hSw; (try dsimp only at hSw); clear hSw; go_simp; try with_reducible rfl)
             simp only [Act.put, List.getElem_toArray, List.getElem_cons_zero, List.getElem_cons_succ, List.setIfInBounds_toArray, List.set_cons_zero, List.set_cons_succ]
             refine Still.takeBy (i := 9) [] (v := ?v208) kr kr rfl kr kr kr (fun _ _ _ h => h) (Or.inl ⟨by kernel_rfl, ?y208⟩) hHeld ?r208
             case y208 => (intro w' hSw; (try dsimp only at hSw); clear hSw; go_simp; try with_reducible rfl)
             simp only [Act.put, List.getElem_toArray, List.getElem_cons_zero, List.getElem_cons_succ, List.setIfInBounds_toArray, List.set_cons_zero, List.set_cons_succ]
             refine Still.takeBy (i := 10) [] (v := ?v209) kr kr rfl kr kr kr (fun _ _ _ h => h) (Or.inl ⟨by kernel_rfl, ?y209⟩) hHeld ?r209
             case y209 => (intro w' hSw; (try dsimp only at hSw); clear hSw; go_simp; try with_reducible rfl)
             simp only [Act.put, List.getElem_toArray, List.getElem_cons_zero, List.getElem_cons_succ, List.setIfInBounds_toArray, List.set_cons_zero, List.set_cons_succ]
             refine Still.takeBy (i := 11) [] (v := ?v210) kr kr rfl kr kr kr (fun _ _ _ h => h) (Or.inl ⟨by kernel_rfl, ?y210⟩) hHeld ?r210
             case y210 => (intro w' hSw; (try dsimp only at hSw); clear hSw; go_simp; try with_reducible rfl)
             simp only [Act.put, List.getElem_toArray, List.getElem_cons_zero, List.getElem_cons_succ, List.setIfInBounds_toArray, List.set_cons_zero, List.set_cons_succ]
             refine Still.takeBy (i := 12) [] (v := ?v211) kr kr rfl kr kr kr (fun _ _ _ h => h) (Or.inl ⟨by kernel_rfl, ?y211⟩) hHeld ?r211
             case y211 => (intro w' hSw; (try dsimp only at hSw); clear hSw; go_simp; try with_reducible rfl)
             simp only [Act.put, List.getElem_toArray, List.getElem_cons_zero, List.getElem_cons_succ, List.setIfInBounds_toArray, List.set_cons_zero, List.set_cons_succ]
             refine Still.takeBy (i := 13) [] kr kr rfl kr kr kr (fun _ _ _ h => h) (Or.inr ⟨by kernel_rfl, rfl⟩) hHeld ?r212
             simp only [Act.put, List.getElem_toArray, List.getElem_cons_zero, List.getElem_cons_succ, List.setIfInBounds_toArray, List.set_cons_zero, List.set_cons_succ]
             refine Still.takeBy (i := 14) [] kr kr rfl kr kr kr (fun _ _ _ h => h) (Or.inr ⟨by kernel_rfl, rfl⟩) hHeld ?r213
             simp only [Act.put, List.getElem_toArray, List.getElem_cons_zero, List.getElem_cons_succ, List.setIfInBounds_toArray, List.set_cons_zero, List.set_cons_succ]
             refine Still.takeBy (i := 15) [] kr kr rfl kr kr kr (fun _ _ _ h => h) (Or.inr ⟨by kernel_rfl, rfl⟩) hHeld ?r214
             simp only [Act.put, List.getElem_toArray, List.getElem_cons_zero, List.getElem_cons_succ, List.setIfInBounds_toArray, List.set_cons_zero, List.set_cons_succ]
             refine Still.takeBy (i := 16) [] kr kr rfl kr kr kr (fun _ _ _ h => h) (Or.inr ⟨by kernel_rfl, rfl⟩) hHeld ?r215
             simp only [Act.put, List.getElem_toArray, List.getElem_cons_zero, List.getElem_cons_succ, List.setIfInBounds_toArray, List.set_cons_zero, List.set_cons_succ]
             refine Still.takeBy (i := 17) [] kr kr rfl kr kr kr (fun _ _ _ h => h) (Or.inr ⟨by kernel_rfl, rfl⟩) hHeld ?r216
             simp only [Act.put, List.getElem_toArray, List.getElem_cons_zero, List.getElem_cons_succ, List.setIfInBounds_toArray, List.set_cons_zero, List.set_cons_succ]
             refine Still.takeBy (i := 18) [] (v := ?v217) kr kr rfl kr kr kr (fun _ _ _ h => h) (Or.inl ⟨by kernel_rfl, ?y217⟩) hHeld ?r217
             case y217 => (intro w' hSw; (try dsimp only at hSw); clear hSw; go_simp; try with_reducible rfl)
             simp only [Act.put, List.getElem_toArray, List.getElem_cons_zero, List.getElem_cons_succ, List.setIfInBounds_toArray, List.set_cons_zero, List.set_cons_succ]
             refine Still.takeBy (i := 19) [] (v := ?v218) kr kr rfl kr kr kr (fun _ _ _ h => h) (Or.inl ⟨by kernel_rfl, ?y218⟩) hHeld ?r218
             case y218 => (intro w' hSw; (try dsimp only at hSw); clear hSw; go_simp; try with_reducible rfl)
             simp only [Act.put, List.getElem_toArray, List.getElem_cons_zero, List.getElem_cons_succ, List.setIfInBounds_toArray, List.set_cons_zero, List.set_cons_succ]
             refine Still.all (rs := [20]) kr (by simp) (Still.one (i := 20) rfl rfl (fun K hK => ?_) (by simp))
             go_simp
             refine hK _ _ ab (fun _ => Still.vv ?_)
             clear hK K
             have HFIN := hd (HBW.out.trans ((B15.out.trans (hHeld.mono B15.out.size)).mono HBW.out.size))
             clear hHeld
             go_wp2
             go_ret
             exact ⟨rfl, HFIN.out⟩
           ·clear HKS
            rcases HPK.out with ⟨rfl, hDp⟩ | rfl
            ·rw [← hDp] at HPO
             clear hDp
             go_wp2_with fail
             refine (HTHR.out _ (S0.out.up B15.out)).mono ?_
             rintro e w12 ⟨rfl, b9⟩
             clear s0 s1 s2 t0 t1 t2
             have YW' := hd (YW.out.up b9)
             have RY' := hd (RY.out.up b9 RY.out.lt)
             have QS' := hd (QS.out.up b9)
             have RQ' := hd (RQ.out.up b9 RQ.out.lt)
             have B15' := hd (B15.out.trans (b9.mono B15.out.size))
             clear YW RY QS RQ B15 b9
             have YW := YW'
             have RY := RY'
             have QS := QS'
             have RQ := RQ'
             have B15 := B15'
             clear YW' RY' QS' RQ' B15'
             have s0 := (R0.out.up B15.out R0.out.lt).cell (j := 0) (v := .slice pa S.parts.length pc) rfl
             have s1 := (R0.out.up B15.out R0.out.lt).cell (j := 1) (v := .slice ka S.chans.length kc) rfl
             have s2 := (R0.out.up B15.out R0.out.lt).cell (j := 2) (v := .slice sa S.slots.length sc) rfl
             have t0 := (R1.out.up B15.out R1.out.lt).cell (j := 0) (v := .int .i64 D.tick) rfl
             have t1 := (R1.out.up B15.out R1.out.lt).cell (j := 1) (v := .slice ua D.cells.length ub) rfl
             have t2 := (R1.out.up B15.out R1.out.lt).cell (j := 2) (v := .slice la D.lines.length lb) rfl
             have zS : w.heap.size < w12.heap.size := (R0.out.up B15.out R0.out.lt).lt
             have zT : w.heap.size + 1 < w12.heap.size := (R1.out.up B15.out R1.out.lt).lt
             have zY : w7.heap.size < w12.heap.size := RY.out.lt
             have zQ : w8.heap.size < w12.heap.size := RQ.out.lt
             have y0 := RY.out.cell (j := 0) (v := .int .i64 D1.tick) rfl
             have y1 := RY.out.cell (j := 1) (v := .slice ea D1.cells.length eb) rfl
             have y2 := RY.out.cell (j := 2) (v := .slice ha D1.lines.length hb) rfl
             have r0 := RQ.out.cell (j := 0) (v := .slice ia D2.parts.length ib) rfl
             have r1 := RQ.out.cell (j := 1) (v := .slice ja D2.chans.length jb) rfl
             have r2 := RQ.out.cell (j := 2) (v := .slice ma D2.slots.length mb) rfl
             go_upto_region 43 with fail
             refine region_still (S := fun w' => Below w12.heap.size w12 w') 20 kr (Below.refl _ _).drew (fun hHeld => ?_)
             refine Still.takeBy (i := 0) [] (v := ?v301) kr kr rfl kr kr kr (fun _ _ _ h => h) (Or.inl ⟨by kernel_rfl, ?y301⟩) hHeld ?r301
             case y301 => (intro w' hSw; (try dsimp only at hSw); clear hSw; go_simp; try with_reducible rfl)
             simp only [Act.put, List.getElem_toArray, List.getElem_cons_zero, List.getElem_cons_succ, List.setIfInBounds_toArray, List.set_cons_zero, List.set_cons_succ]
             refine Still.takeBy (i := 1) [] (v := ?v302) kr kr rfl kr kr kr (fun _ _ _ h => h) (Or.inl ⟨by kernel_rfl, ?y302⟩) hHeld ?r302
             case y302 => (intro w' hSw; (try dsimp only at hSw); clear hSw; go_simp; try with_reducible rfl)
             simp only [Act.put, List.getElem_toArray, List.getElem_cons_zero, List.getElem_cons_succ, List.setIfInBounds_toArray, List.set_cons_zero, List.set_cons_succ]
             refine Still.takeBy (i := 2) [] (v := ?v303) kr kr rfl kr kr kr (fun _ _ _ h => h) (Or.inl ⟨by kernel_rfl, ?y303⟩) hHeld ?r303
             case y303 => (intro w' hSw; (try dsimp only at hSw); clear hSw; go_simp; try with_reducible rfl)
             simp only [Act.put, List.getElem_toArray, List.getElem_cons_zero, List.getElem_cons_succ, List.setIfInBounds_toArray, List.set_cons_zero, List.set_cons_succ]
             refine Still.takeBy (i := 3) [] kr kr rfl kr kr kr (fun _ _ _ h => h) (Or.inr ⟨by kernel_rfl, rfl⟩) hHeld ?r304
             simp only [Act.put, List.getElem_toArray, List.getElem_cons_zero, List.getElem_cons_succ, List.setIfInBounds_toArray, List.set_cons_zero, List.set_cons_succ]
             refine Still.takeBy (i := 4) [] kr kr rfl kr kr kr (fun _ _ _ h => h) (Or.inr ⟨by kernel_rfl, rfl⟩) hHeld ?r305
             simp only [Act.put, List.getElem_toArray, List.getElem_cons_zero, List.getElem_cons_succ, List.setIfInBounds_toArray, List.set_cons_zero, List.set_cons_succ]
             refine Still.takeBy (i := 5) [] kr kr rfl kr kr kr (fun _ _ _ h => h) (Or.inr ⟨by kernel_rfl, rfl⟩) hHeld ?r306
             simp only [Act.put, List.getElem_toArray, List.getElem_cons_zero, List.getElem_cons_succ, List.setIfInBounds_toArray, List.set_cons_zero, List.set_cons_succ]
             refine Still.takeBy (i := 6) [] kr kr rfl kr kr kr (fun _ _ _ h => h) (Or.inr ⟨by kernel_rfl, rfl⟩) hHeld ?r307
             simp only [Act.put, List.getElem_toArray, List.getElem_cons_zero, List.getElem_cons_succ, List.setIfInBounds_toArray, List.set_cons_zero, List.set_cons_succ]
             refine Still.takeBy (i := 7) [] kr kr rfl kr kr kr (fun _ _ _ h => h) (Or.inr ⟨by kernel_rfl, rfl⟩) hHeld ?r308
             simp only [Act.put, List.getElem_toArray, List.getElem_cons_zero, List.getElem_cons_succ, List.setIfInBounds_toArray, List.set_cons_zero, List.set_cons_succ]
             refine Still.takeBy (i := 8) [] (v := ?v309) kr kr rfl kr kr kr (fun _ _ _ h => h) (Or.inl ⟨by kernel_rfl, ?y309⟩) hHeld ?r309
             case y309 => (intro w' hSw; (try dsimp only at hSw); clear hSw; go_simp; try with_reducible rfl)
             simp only [Act.put, List.getElem_toArray, List.getElem_cons_zero, List.getElem_cons_succ, List.setIfInBounds_toArray, List.set_cons_zero, List.set_cons_succ]
             refine Still.takeBy (i := 9) [] (v := ?v310) kr kr rfl kr kr kr (fun _ _ _ h => h) (Or.inl ⟨by kernel_rfl, ?y310⟩) hHeld ?r310
             case y310 => (intro w' hSw; (try dsimp only at hSw); clear hSw; go_simp; try with_reducible rfl)
             simp only [Act.put, List.getElem_toArray, List.getElem_cons_zero, List.getElem_cons_succ, List.setIfInBounds_toArray, List.set_cons_zero, List.set_cons_succ]
             refine Still.takeBy (i := 10) [] (v := ?v311) kr kr rfl kr kr kr (fun _ _ _ h => h) (Or.inl ⟨by kernel_rfl, ?y311⟩) hHeld ?r311
             case y311 => (intro w' hSw; (try dsimp only at hSw); clear hSw; go_simp; try with_reducible rfl)
             simp only [Act.put, List.getElem_toArray, List.getElem_cons_zero, List.getElem_cons_succ, List.setIfInBounds_toArray, List.set_cons_zero, List.set_cons_succ]
             refine Still.takeBy (i := 11) [] (v := ?v312) kr kr rfl kr kr kr (fun _ _ _ h => h) (Or.inl ⟨by kernel_rfl, ?y312⟩) hHeld ?r312
             case y312 => (intro w' hSw; (try dsimp only at hSw); clear hSw; go_simp; try with_reducible rfl)
             simp only [Act.put, List.getElem_toArray, List.getElem_cons_zero, List.getElem_cons_succ, List.setIfInBounds_toArray, List.set_cons_zero, List.set_cons_succ]
             refine Still.takeBy (i := 12) [] (v := ?v313) kr kr rfl kr kr kr (fun _ _ _ h => h) (Or.inl ⟨by kernel_rfl, ?y313⟩) hHeld ?r313
             case y313 => (intro w' hSw; (try dsimp only at hSw); clear hSw; go_simp; try with_reducible rfl)
             simp only [Act.put, List.getElem_toArray, List.getElem_cons_zero, List.getElem_cons_succ, List.setIfInBounds_toArray, List.set_cons_zero, List.set_cons_succ]
             refine Still.takeBy (i := 13) [] (v := ?v314) kr kr rfl kr kr kr (fun _ _ _ h => h) (Or.inl ⟨by kernel_rfl, ?y314⟩) hHeld ?r314
             case y314 => (intro w' hSw; (try dsimp only at hSw); have q0 := bcl hSw zQ r0; have q1 := bcl hSw zQ r1; have q2 := bcl hSw zQ r2; clear hSw; go_simp; try with_reducible rfl)
             simp only [Act.put, List.getElem_toArray, List.getElem_cons_zero, List.getElem_cons_succ, List.setIfInBounds_toArray, List.set_cons_zero, List.set_cons_succ]
             refine Still.takeBy (i := 14) [] (v := ?v315) kr kr rfl kr kr kr (fun _ _ _ h => h) (Or.inl ⟨by kernel_rfl, ?y315⟩) hHeld ?r315
             case y315 => (intro w' hSw; (try dsimp only at hSw); have q0 := bcl hSw zS s0; have q1 := bcl hSw zS s1; have q2 := bcl hSw zS s2; clear hSw; go_simp; try with_reducible rfl)
             simp only [Act.put, List.getElem_toArray, List.getElem_cons_zero, List.getElem_cons_succ, List.setIfInBounds_toArray, List.set_cons_zero, List.set_cons_succ]
             refine Still.takeBy (i := 15) [] (v := ?v316) kr kr rfl kr kr kr (fun _ _ _ h => h) (Or.inl ⟨by kernel_rfl, ?y316⟩) hHeld ?r316
             case y316 => (intro w' hSw; (try dsimp only at hSw); clear hSw; go_simp; try with_reducible rfl)
             simp only [Act.put, List.getElem_toArray, List.getElem_cons_zero, List.getElem_cons_succ, List.setIfInBounds_toArray, List.set_cons_zero, List.set_cons_succ]
             refine Still.all (rs := [16]) kr (by simp) (Still.oneG (i := 16) rfl kr (fun K hK => ?_) (by simp))
             refine wp_call 17 _ _ rfl entPurgeOfR #[.agg #[.slice pa S.parts.length pc, .slice ka S.chans.length kc, .slice sa S.slots.length sc], .int .i64 part] (by first | rfl | simp [Act.eval, Act.put]) ((HPO.out _ (S0.out.up (B15.out.trans (hHeld.mono B15.out.size)))).mono ?_)
             rintro e V3w ⟨kp', kk', ks', rfl, hF, bb⟩
             have KS := hd hF.sys
             refine ⟨_, rfl, hK _ _ (fun _ => hHeld.trans (bb.mono hHeld.size)) (fun hh => ?_)⟩
             clear hF
             have hHeld := hh (by decide)
             clear hK K hh bb
             try simp only [Act.put, List.getElem_toArray, List.getElem_cons_zero, List.getElem_cons_succ, List.setIfInBounds_toArray, List.set_cons_zero, List.set_cons_succ]
             refine Still.all (rs := [17]) kr (by simp) (Still.oneG (i := 17) rfl kr (fun K hK => ?_) (by simp))
             refine wp_call 19 _ _ rfl entSameSysR #[.agg #[.slice ia D2.parts.length ib, .slice ja D2.chans.length jb, .slice ma D2.slots.length mb], .agg #[kp', kk', ks']] (by first | rfl | simp [Act.eval, Act.put]) ((sameSys_any D2 hp2 HSM2.out.c HSM2.out.s HSM2.out.q _ _ _ _ _ _ _ (QS.out.up hHeld) KS.out).mono ?_)
             rintro e V4w ⟨rfl, bb⟩
             refine ⟨_, rfl, hK _ _ (fun _ => hHeld.trans (bb.mono hHeld.size)) (fun hh => ?_)⟩
             have hHeld := hh (by decide)
             clear hK K hh bb
             try simp only [Act.put, List.getElem_toArray, List.getElem_cons_zero, List.getElem_cons_succ, List.setIfInBounds_toArray, List.set_cons_zero, List.set_cons_succ]
             refine Still.takeBy (i := 18) [] (v := ?v317) kr kr rfl kr kr kr (fun _ _ _ h => h) (Or.inl ⟨by kernel_rfl, ?y317⟩) hHeld ?r317
             case y317 => (intro w' hSw; (try dsimp only at hSw); clear hSw; go_simp; try with_reducible rfl)
             simp only [Act.put, List.getElem_toArray, List.getElem_cons_zero, List.getElem_cons_succ, List.setIfInBounds_toArray, List.set_cons_zero, List.set_cons_succ]
             refine Still.takeBy (i := 19) [] (v := ?v318) kr kr rfl kr kr kr (fun _ _ _ h => h) (Or.inl ⟨by kernel_rfl, ?y318⟩) hHeld ?r318
             case y318 => (intro w' hSw; (try dsimp only at hSw); clear hSw; go_simp; try with_reducible rfl)
             simp only [Act.put, List.getElem_toArray, List.getElem_cons_zero, List.getElem_cons_succ, List.setIfInBounds_toArray, List.set_cons_zero, List.set_cons_succ]
             refine Still.all (rs := [20]) kr (by simp) (Still.one (i := 20) rfl rfl (fun K hK => ?_) (by simp))
             go_simp
             refine hK _ _ ab (fun _ => Still.vv ?_)
             clear hK K
             have HFIN := hd (HBW.out.trans ((B15.out.trans (hHeld.mono B15.out.size)).mono HBW.out.size))
             clear hHeld
             go_wp2
             go_ret
             exact ⟨rfl, HFIN.out⟩
            ·clear HPO
             go_wp2_with fail
             refine (HTHR.out _ (S0.out.up B15.out)).mono ?_
             rintro e w12 ⟨rfl, b9⟩
             clear s0 s1 s2 t0 t1 t2
             have YW' := hd (YW.out.up b9)
             have RY' := hd (RY.out.up b9 RY.out.lt)
             have QS' := hd (QS.out.up b9)
             have RQ' := hd (RQ.out.up b9 RQ.out.lt)
             have B15' := hd (B15.out.trans (b9.mono B15.out.size))
             clear YW RY QS RQ B15 b9
             have YW := YW'
             have RY := RY'
             have QS := QS'
             have RQ := RQ'
             have B15 := B15'
             clear YW' RY' QS' RQ' B15'
             have s0 := (R0.out.up B15.out R0.out.lt).cell (j := 0) (v := .slice pa S.parts.length pc) rfl
             have s1 := (R0.out.up B15.out R0.out.lt).cell (j := 1) (v := .slice ka S.chans.length kc) rfl
             have s2 := (R0.out.up B15.out R0.out.lt).cell (j := 2) (v := .slice sa S.slots.length sc) rfl
             have t0 := (R1.out.up B15.out R1.out.lt).cell (j := 0) (v := .int .i64 D.tick) rfl
             have t1 := (R1.out.up B15.out R1.out.lt).cell (j := 1) (v := .slice ua D.cells.length ub) rfl
             have t2 := (R1.out.up B15.out R1.out.lt).cell (j := 2) (v := .slice la D.lines.length lb) rfl
             have zS : w.heap.size < w12.heap.size := (R0.out.up B15.out R0.out.lt).lt
             have zT : w.heap.size + 1 < w12.heap.size := (R1.out.up B15.out R1.out.lt).lt
             have zY : w7.heap.size < w12.heap.size := RY.out.lt
             have zQ : w8.heap.size < w12.heap.size := RQ.out.lt
             have y0 := RY.out.cell (j := 0) (v := .int .i64 D1.tick) rfl
             have y1 := RY.out.cell (j := 1) (v := .slice ea D1.cells.length eb) rfl
             have y2 := RY.out.cell (j := 2) (v := .slice ha D1.lines.length hb) rfl
             have r0 := RQ.out.cell (j := 0) (v := .slice ia D2.parts.length ib) rfl
             have r1 := RQ.out.cell (j := 1) (v := .slice ja D2.chans.length jb) rfl
             have r2 := RQ.out.cell (j := 2) (v := .slice ma D2.slots.length mb) rfl
             go_upto_region 43 with fail
             refine region_still (S := fun w' => Below w12.heap.size w12 w') 20 kr (Below.refl _ _).drew (fun hHeld => ?_)
             refine Still.takeBy (i := 0) [] (v := ?v401) kr kr rfl kr kr kr (fun _ _ _ h => h) (Or.inl ⟨by kernel_rfl, ?y401⟩) hHeld ?r401
             case y401 => (intro w' hSw; (try dsimp only at hSw); clear hSw; go_simp; try with_reducible rfl)
             simp only [Act.put, List.getElem_toArray, List.getElem_cons_zero, List.getElem_cons_succ, List.setIfInBounds_toArray, List.set_cons_zero, List.set_cons_succ]
             refine Still.takeBy (i := 1) [] (v := ?v402) kr kr rfl kr kr kr (fun _ _ _ h => h) (Or.inl ⟨by kernel_rfl, ?y402⟩) hHeld ?r402
             case y402 => (intro w' hSw; (try dsimp only at hSw); clear hSw; go_simp; try with_reducible rfl)
             simp only [Act.put, List.getElem_toArray, List.getElem_cons_zero, List.getElem_cons_succ, List.setIfInBounds_toArray, List.set_cons_zero, List.set_cons_succ]
             refine Still.takeBy (i := 2) [] (v := ?v403) kr kr rfl kr kr kr (fun _ _ _ h => h) (Or.inl ⟨by kernel_rfl, ?y403⟩) hHeld ?r403
             case y403 => (intro w' hSw; (try dsimp only at hSw); clear hSw; go_simp; try with_reducible rfl)
             simp only [Act.put, List.getElem_toArray, List.getElem_cons_zero, List.getElem_cons_succ, List.setIfInBounds_toArray, List.set_cons_zero, List.set_cons_succ]
             refine Still.takeBy (i := 3) [] kr kr rfl kr kr kr (fun _ _ _ h => h) (Or.inr ⟨by kernel_rfl, rfl⟩) hHeld ?r404
             simp only [Act.put, List.getElem_toArray, List.getElem_cons_zero, List.getElem_cons_succ, List.setIfInBounds_toArray, List.set_cons_zero, List.set_cons_succ]
             refine Still.takeBy (i := 4) [] kr kr rfl kr kr kr (fun _ _ _ h => h) (Or.inr ⟨by kernel_rfl, rfl⟩) hHeld ?r405
             simp only [Act.put, List.getElem_toArray, List.getElem_cons_zero, List.getElem_cons_succ, List.setIfInBounds_toArray, List.set_cons_zero, List.set_cons_succ]
             refine Still.takeBy (i := 5) [] kr kr rfl kr kr kr (fun _ _ _ h => h) (Or.inr ⟨by kernel_rfl, rfl⟩) hHeld ?r406
             simp only [Act.put, List.getElem_toArray, List.getElem_cons_zero, List.getElem_cons_succ, List.setIfInBounds_toArray, List.set_cons_zero, List.set_cons_succ]
             refine Still.takeBy (i := 6) [] kr kr rfl kr kr kr (fun _ _ _ h => h) (Or.inr ⟨by kernel_rfl, rfl⟩) hHeld ?r407
             simp only [Act.put, List.getElem_toArray, List.getElem_cons_zero, List.getElem_cons_succ, List.setIfInBounds_toArray, List.set_cons_zero, List.set_cons_succ]
             refine Still.takeBy (i := 7) [] kr kr rfl kr kr kr (fun _ _ _ h => h) (Or.inr ⟨by kernel_rfl, rfl⟩) hHeld ?r408
             simp only [Act.put, List.getElem_toArray, List.getElem_cons_zero, List.getElem_cons_succ, List.setIfInBounds_toArray, List.set_cons_zero, List.set_cons_succ]
             refine Still.takeBy (i := 8) [] (v := ?v409) kr kr rfl kr kr kr (fun _ _ _ h => h) (Or.inl ⟨by kernel_rfl, ?y409⟩) hHeld ?r409
             case y409 => (intro w' hSw; (try dsimp only at hSw); clear hSw; go_simp; try with_reducible rfl)
             simp only [Act.put, List.getElem_toArray, List.getElem_cons_zero, List.getElem_cons_succ, List.setIfInBounds_toArray, List.set_cons_zero, List.set_cons_succ]
             refine Still.takeBy (i := 9) [] (v := ?v410) kr kr rfl kr kr kr (fun _ _ _ h => h) (Or.inl ⟨by kernel_rfl, ?y410⟩) hHeld ?r410
             case y410 => (intro w' hSw; (try dsimp only at hSw); clear hSw; go_simp; try with_reducible rfl)
             simp only [Act.put, List.getElem_toArray, List.getElem_cons_zero, List.getElem_cons_succ, List.setIfInBounds_toArray, List.set_cons_zero, List.set_cons_succ]
             refine Still.takeBy (i := 10) [] (v := ?v411) kr kr rfl kr kr kr (fun _ _ _ h => h) (Or.inl ⟨by kernel_rfl, ?y411⟩) hHeld ?r411
             case y411 => (intro w' hSw; (try dsimp only at hSw); clear hSw; go_simp; try with_reducible rfl)
             simp only [Act.put, List.getElem_toArray, List.getElem_cons_zero, List.getElem_cons_succ, List.setIfInBounds_toArray, List.set_cons_zero, List.set_cons_succ]
             refine Still.takeBy (i := 11) [] (v := ?v412) kr kr rfl kr kr kr (fun _ _ _ h => h) (Or.inl ⟨by kernel_rfl, ?y412⟩) hHeld ?r412
             case y412 => (intro w' hSw; (try dsimp only at hSw); clear hSw; go_simp; try with_reducible rfl)
             simp only [Act.put, List.getElem_toArray, List.getElem_cons_zero, List.getElem_cons_succ, List.setIfInBounds_toArray, List.set_cons_zero, List.set_cons_succ]
             refine Still.takeBy (i := 12) [] (v := ?v413) kr kr rfl kr kr kr (fun _ _ _ h => h) (Or.inl ⟨by kernel_rfl, ?y413⟩) hHeld ?r413
             case y413 => (intro w' hSw; (try dsimp only at hSw); clear hSw; go_simp; try with_reducible rfl)
             simp only [Act.put, List.getElem_toArray, List.getElem_cons_zero, List.getElem_cons_succ, List.setIfInBounds_toArray, List.set_cons_zero, List.set_cons_succ]
             refine Still.takeBy (i := 13) [] kr kr rfl kr kr kr (fun _ _ _ h => h) (Or.inr ⟨by kernel_rfl, rfl⟩) hHeld ?r414
             simp only [Act.put, List.getElem_toArray, List.getElem_cons_zero, List.getElem_cons_succ, List.setIfInBounds_toArray, List.set_cons_zero, List.set_cons_succ]
             refine Still.takeBy (i := 14) [] kr kr rfl kr kr kr (fun _ _ _ h => h) (Or.inr ⟨by kernel_rfl, rfl⟩) hHeld ?r415
             simp only [Act.put, List.getElem_toArray, List.getElem_cons_zero, List.getElem_cons_succ, List.setIfInBounds_toArray, List.set_cons_zero, List.set_cons_succ]
             refine Still.takeBy (i := 15) [] kr kr rfl kr kr kr (fun _ _ _ h => h) (Or.inr ⟨by kernel_rfl, rfl⟩) hHeld ?r416
             simp only [Act.put, List.getElem_toArray, List.getElem_cons_zero, List.getElem_cons_succ, List.setIfInBounds_toArray, List.set_cons_zero, List.set_cons_succ]
             refine Still.takeBy (i := 16) [] kr kr rfl kr kr kr (fun _ _ _ h => h) (Or.inr ⟨by kernel_rfl, rfl⟩) hHeld ?r417
             simp only [Act.put, List.getElem_toArray, List.getElem_cons_zero, List.getElem_cons_succ, List.setIfInBounds_toArray, List.set_cons_zero, List.set_cons_succ]
             refine Still.takeBy (i := 17) [] kr kr rfl kr kr kr (fun _ _ _ h => h) (Or.inr ⟨by kernel_rfl, rfl⟩) hHeld ?r418
             simp only [Act.put, List.getElem_toArray, List.getElem_cons_zero, List.getElem_cons_succ, List.setIfInBounds_toArray, List.set_cons_zero, List.set_cons_succ]
             refine Still.takeBy (i := 18) [] (v := ?v419) kr kr rfl kr kr kr (fun _ _ _ h => h) (Or.inl ⟨by kernel_rfl, ?y419⟩) hHeld ?r419
             case y419 => (intro w' hSw; (try dsimp only at hSw); clear hSw; go_simp; try with_reducible rfl)
             simp only [Act.put, List.getElem_toArray, List.getElem_cons_zero, List.getElem_cons_succ, List.setIfInBounds_toArray, List.set_cons_zero, List.set_cons_succ]
             refine Still.takeBy (i := 19) [] (v := ?v420) kr kr rfl kr kr kr (fun _ _ _ h => h) (Or.inl ⟨by kernel_rfl, ?y420⟩) hHeld ?r420
             case y420 => (intro w' hSw; (try dsimp only at hSw); clear hSw; go_simp; try with_reducible rfl)
             simp only [Act.put, List.getElem_toArray, List.getElem_cons_zero, List.getElem_cons_succ, List.setIfInBounds_toArray, List.set_cons_zero, List.set_cons_succ]
             refine Still.all (rs := [20]) kr (by simp) (Still.one (i := 20) rfl rfl (fun K hK => ?_) (by simp))
             go_simp
             refine hK _ _ ab (fun _ => Still.vv ?_)
             clear hK K
             have HFIN := hd (HBW.out.trans ((B15.out.trans (hHeld.mono B15.out.size)).mono HBW.out.size))
             clear hHeld
             go_wp2
             go_ret
             exact ⟨rfl, HFIN.out⟩
 ·have h0' : (r != 0) = true := by simpa using h0
  clear h0
  go_wp2_with fail
  refine (kernBegun_any _ (HE.out.up HB1.out)).mono ?_
  rintro e f1 ⟨rfl, bb⟩
  go_wp2
  go_ret
  exact ⟨rfl, HB1.out.trans (bb.mono HB1.out.size)⟩
end Go.Proofs.YtehhhiodfcdnmaaGreatDoor

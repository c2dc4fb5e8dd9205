/- law.ViewPurges. -/
import Derived.Test.YtehhhiodfcdnmaaGreatDoorVi15
import Derived.Test.YtehhhiodfcdnmaaGreatDoorJ18
import Derived.WalkKit
import Derived.ProofKit
import Derived.OpenShut
import Derived.Carry
import Derived.Test.YtehhhiodfcdnmaaGreatDoorRows
import Derived.Test.YtehhhiodfcdnmaaGreatDoorJ0
import Derived.WideWitness
import Derived.LaidLaws
import Derived.Lib.SmallJoins
import Derived.Deep.DeepHandedRow
import Derived.Deep.Slices
import Derived.Deep.Strs
import Derived.Test.YtehhhiodfcdnmaaGreatDoorJ4
import Derived.Laws.IdiomArrays
import Derived.SizedLaws
import Derived.KernelRfl
namespace Go.Proofs.YtehhhiodfcdnmaaGreatDoor
set_option linter.unusedSimpArgs false
set_option linter.unusedVariables false
open Go.RowKit Go.Sort
theorem smallS_is {S : SysD} (h : SmallS S) : S.parts.length ≤ 1000 ∧ S.chans.length ≤ 1000 ∧ S.slots.length ≤ 1000 ∧ ∀ j (hj : j < S.parts.length), S.parts[j].code.length ≤ 1000 ∧ S.parts[j].inn.length ≤ 1000 := ⟨by have := h.p; omega, h.c, h.s, fun j hj => h.q j hj⟩
theorem small_purgeR (S : SysD) (u : Int) : (purgeR S u).parts.length ≤ 1000 ∧ (purgeR S u).chans.length ≤ 1000 ∧ (purgeR S u).slots.length ≤ 1000 ∧ ∀ j (hj : j < (purgeR S u).parts.length), (purgeR S u).parts[j].code.length ≤ 1000 ∧ (purgeR S u).parts[j].inn.length ≤ 1000 := by
  by_cases h : thE S u = 0
  · have e : purgeR S u = purgeS S u := by unfold purgeR; rw [if_pos h]
    rw [e]
    exact smallS_is (small_purge (thE_zero h).1 u)
  · have e : purgeR S u = sysZ := by unfold purgeR; rw [if_neg h]
    rw [e]
    exact ⟨by decide, by decide, by decide, fun j hj => by simp [sysZ] at hj⟩
theorem small_otherR (S : SysD) (u : Int) (p : Prt) : (otherR S u p).parts.length ≤ 1000 ∧ (otherR S u p).chans.length ≤ 1000 ∧ (otherR S u p).slots.length ≤ 1000 ∧ ∀ j (hj : j < (otherR S u p).parts.length), (otherR S u p).parts[j].code.length ≤ 1000 ∧ (otherR S u p).parts[j].inn.length ≤ 1000 := by
  by_cases h : otherE S u p = 0
  · have e : otherR S u p = otherS S u.toNat p := by unfold otherR; rw [if_pos h]
    rw [e]
    refine smallS_is (small_sys ?_)
    unfold otherE at h
    split at h
    · rename_i hh; exact absurd h hh
    · exact h
  · have e : otherR S u p = sysZ := by unfold otherR; rw [if_neg h]
    rw [e]
    exact ⟨by decide, by decide, by decide, fun j hj => by simp [sysZ] at hj⟩
set_option maxRecDepth 100000 in
set_option maxHeartbeats 8000000 in
theorem viewPurges_any (S : SysD) (hok : S.ok) (part : Int) (p : Prt) (hpo : ∀ j (hj : j < p.code.length), p.code[j].ok) (hl1 : p.code.length * 32 ≤ 140737488355328) (hl2 : p.inn.length * 8 ≤ 140737488355328) (vp vc vs pv iv : Value) (w : World) (he : Env w) (hS : Sys w vp vc vs S) (hp : PrtR w pv iv p) :
    Calls Tryz.prog 4 #[.agg #[vp, vc, vs], .int .i64 part, .agg #[pv, iv]] w fun e w' => e = .returned (.bool true) ∧ Below w.heap.size w w' := by
  obtain ⟨pa, pc, rfl⟩ := hS.p.form
  obtain ⟨ka, kc, rfl⟩ := hS.c.form
  obtain ⟨sa, sc, rfl⟩ := hS.s.form
  obtain ⟨qa, qc, rfl⟩ := hp.code.form
  obtain ⟨ia, ic, rfl⟩ := hp.inn.form
  obtain ⟨v0, hv0⟩ : ∃ v0, thE S part = v0 := ⟨_, rfl⟩
  obtain ⟨e0, he0⟩ : ∃ e0, otherE S part p = e0 := ⟨_, rfl⟩
  obtain ⟨Z1, hZ1⟩ : ∃ Z, purgeR S part = Z := ⟨_, rfl⟩
  obtain ⟨Z2, hZ2⟩ : ∃ Z, otherR S part p = Z := ⟨_, rfl⟩
  have HS1 : Hid (Z1.parts.length ≤ 1000 ∧ Z1.chans.length ≤ 1000 ∧ Z1.slots.length ≤ 1000 ∧ ∀ j (hj : j < Z1.parts.length), Z1.parts[j].code.length ≤ 1000 ∧ Z1.parts[j].inn.length ≤ 1000) := Lib.hid (hZ1 ▸ small_purgeR S part)
  have HS2 : Hid (Z2.parts.length ≤ 1000 ∧ Z2.chans.length ≤ 1000 ∧ Z2.slots.length ≤ 1000 ∧ ∀ j (hj : j < Z2.parts.length), Z2.parts[j].code.length ≤ 1000 ∧ Z2.parts[j].inn.length ≤ 1000) := Lib.hid (hZ2 ▸ small_otherR S part p)
  have HPU := Lib.hid fun w he hS => purge_any S part (.slice pa S.parts.length pc) (.slice ka S.chans.length kc) (.slice sa S.slots.length sc) w he hS v0 hv0 Z1 hZ1
  have HOT := Lib.hid fun w he hS hp => other_any S part p (.slice pa S.parts.length pc) (.slice ka S.chans.length kc) (.slice sa S.slots.length sc) (.slice qa p.code.length qc) (.slice ia p.inn.length ic) w he hS hp e0 he0 Z2 hZ2
  have HTH := Lib.hid fun w hS => ThereT_any S hok (.slice pa S.parts.length pc) (.slice ka S.chans.length kc) (.slice sa S.slots.length sc) part w hS v0 hv0
  have HOO := Lib.hid fun w hS hp => otherOf_any S hok part p hpo hl1 hl2 (.slice pa S.parts.length pc) (.slice ka S.chans.length kc) (.slice sa S.slots.length sc) (.slice qa p.code.length qc) (.slice ia p.inn.length ic) w hS hp
  have HE0 := Lib.hid he0
  have HZ2 := Lib.hid hZ2
  have HV0 := Lib.hid hv0
  have HZ1 := Lib.hid hZ1
  have HE := Lib.hid he
  have HS := Lib.hid hS
  have HP := Lib.hid hp
  clear he hS hp hok hv0 he0 hZ1 hZ2 hpo hl1 hl2
  go_enter Tryz.func4, Tryz.ntmps4
  go_upto_region 1 with fail
  generalize hX : World.alloc _ _ = X
  have hXX : X = (w.alloc (.cells #[.slice pa S.parts.length pc, .slice ka S.chans.length kc, .slice sa S.slots.length sc] 26)).alloc (.cells #[.slice qa p.code.length qc, .slice ia p.inn.length ic] 49) := by rw [← hX] <;> rfl
  have d0 : Below w.heap.size w X := by rw [hXX]; exact (by repeat (first | exact Below.refl _ _ | assumption | refine Below.drew ?_ | refine Below.alloc ?_ (by first | (simp; done) | (simp; omega)) _ | refine Below.setCell ?_ (by first | (simp; done) | (simp; omega)) _))
  have R0 : Hid (Rw X w.heap.size 26 #[.slice pa S.parts.length pc, .slice ka S.chans.length kc, .slice sa S.slots.length sc]) := Lib.hid (by rw [hXX]; exact (by repeat (first | exact Rw.new _ _ _ (by first | rfl | (simp; done) | omega | (simp; omega)) | refine Rw.alloc ?_ _)))
  have R5 : Hid (Rw X (w.heap.size + 1) 49 #[.slice qa p.code.length qc, .slice ia p.inn.length ic]) := Lib.hid (by rw [hXX]; exact (by repeat (first | exact Rw.new _ _ _ (by first | rfl | (simp; done) | omega | (simp; omega)) | refine Rw.alloc ?_ _)))
  have HB := Lib.hid d0
  clear hX hXX d0
  have s0 := R0.out.cell (j := 0) (v := .slice pa S.parts.length pc) rfl
  have s1 := R0.out.cell (j := 1) (v := .slice ka S.chans.length kc) rfl
  have s2 := R0.out.cell (j := 2) (v := .slice sa S.slots.length sc) rfl
  go_wp2_with fail
  refine (HPU.out _ (HE.out.up HB.out) (HS.out.up HB.out)).mono ?_
  rintro e w3 ⟨yp, yk, ys, rfl, hN', b3⟩
  have hN := hN'.sys
  obtain ⟨da, db, rfl⟩ := hN.p.form
  obtain ⟨dc, dd, rfl⟩ := hN.c.form
  obtain ⟨de, df, rfl⟩ := hN.s.form
  have HN := Lib.hid hN'
  clear hN hN' s0 s1 s2
  have R0' := Lib.hid (R0.out.up b3 R0.out.lt)
  have R5' := Lib.hid (R5.out.up b3 R5.out.lt)
  have HB' := Lib.hid (HB.out.trans (b3.mono HB.out.size))
  clear b3 HB R0 R5
  have R0 := R0'
  clear R0'
  have R5 := R5'
  clear R5'
  have HB := HB'
  clear HB'
  go_wp2_with (refine wpList_store_rowW rfl 26 (.tmp 7) (.tmp 19) rfl w3.heap.size #[.slice da Z1.parts.length db, .slice dc Z1.chans.length dd, .slice de Z1.slots.length df] rfl rfl 26 #[.slice none 0 0, .slice none 0 0, .slice none 0 0] (by repeat (first | exact Rw.new _ _ _ (by first | rfl | (simp; done) | omega | (simp; omega)) | refine Rw.alloc ?_ _)) sizeSys rfl (by simp [Value.oneCell']) ?_)
  intro W4 HW4
  have b4 : Below w3.heap.size w3 W4 := by rw [HW4.out]; exact below_row ((Below.refl _ _).alloc (Nat.le_refl _) _) (Nat.le_refl _) _
  have R7 : Hid (Rw W4 w3.heap.size 26 #[.slice da Z1.parts.length db, .slice dc Z1.chans.length dd, .slice de Z1.slots.length df]) := by
    show Rw _ _ _ _
    rw [HW4.out]
    exact Rw.row (cs := #[.slice none 0 0, .slice none 0 0, .slice none 0 0]) (by repeat (first | exact Rw.new _ _ _ (by first | rfl | (simp; done) | omega | (simp; omega)) | refine Rw.alloc ?_ _)) _
  have N1 : Hid (Sys W4 (.slice da Z1.parts.length db) (.slice dc Z1.chans.length dd) (.slice de Z1.slots.length df) Z1) := by
    show Sys _ _ _ _ _
    rw [HW4.out]
    exact (HN.out.fresh _ _).sys
  have zb4 := b4.size
  clear HW4
  have R0' := Lib.hid (R0.out.up b4 R0.out.lt)
  have R5' := Lib.hid (R5.out.up b4 R5.out.lt)
  have HB' := Lib.hid (HB.out.trans (b4.mono HB.out.size))
  clear b4 HB R0 R5
  have R0 := R0'
  clear R0'
  have R5 := R5'
  clear R5'
  have HB := HB'
  clear HB'
  clear HN
  have s0 := R0.out.cell (j := 0) (v := .slice pa S.parts.length pc) rfl
  have s1 := R0.out.cell (j := 1) (v := .slice ka S.chans.length kc) rfl
  have s2 := R0.out.cell (j := 2) (v := .slice sa S.slots.length sc) rfl
  have p0 := R5.out.cell (j := 0) (v := .slice qa p.code.length qc) rfl
  have p1 := R5.out.cell (j := 1) (v := .slice ia p.inn.length ic) rfl
  go_wp2_with fail
  refine (HOT.out _ (HE.out.up HB.out) (HS.out.up HB.out) (HP.out.up HB.out)).mono ?_
  rintro e w5 ⟨yp, yk, ys, rfl, hN', b5⟩
  have hN := hN'.sys
  obtain ⟨ga, gb, rfl⟩ := hN.p.form
  obtain ⟨gc, gd, rfl⟩ := hN.c.form
  obtain ⟨ge, gf, rfl⟩ := hN.s.form
  have HN := Lib.hid hN'
  clear hN hN' s0 s1 s2 p0 p1
  have N1' := Lib.hid (N1.out.up b5)
  have R0' := Lib.hid (R0.out.up b5 R0.out.lt)
  have R5' := Lib.hid (R5.out.up b5 R5.out.lt)
  have R7' := Lib.hid (R7.out.up b5 R7.out.lt)
  have HB' := Lib.hid (HB.out.trans (b5.mono HB.out.size))
  clear b5 HB N1 R0 R5 R7
  have N1 := N1'
  clear N1'
  have R0 := R0'
  clear R0'
  have R5 := R5'
  clear R5'
  have R7 := R7'
  clear R7'
  have HB := HB'
  clear HB'
  go_wp2_with (refine wpList_store_rowW rfl 26 (.tmp 9) (.tmp 26) rfl w5.heap.size #[.slice ga Z2.parts.length gb, .slice gc Z2.chans.length gd, .slice ge Z2.slots.length gf] rfl rfl 26 #[.slice none 0 0, .slice none 0 0, .slice none 0 0] (by repeat (first | exact Rw.new _ _ _ (by first | rfl | (simp; done) | omega | (simp; omega)) | refine Rw.alloc ?_ _)) sizeSys rfl (by simp [Value.oneCell']) ?_)
  intro W6 HW6
  have b6 : Below w5.heap.size w5 W6 := by rw [HW6.out]; exact below_row ((Below.refl _ _).alloc (Nat.le_refl _) _) (Nat.le_refl _) _
  have R9 : Hid (Rw W6 w5.heap.size 26 #[.slice ga Z2.parts.length gb, .slice gc Z2.chans.length gd, .slice ge Z2.slots.length gf]) := by
    show Rw _ _ _ _
    rw [HW6.out]
    exact Rw.row (cs := #[.slice none 0 0, .slice none 0 0, .slice none 0 0]) (by repeat (first | exact Rw.new _ _ _ (by first | rfl | (simp; done) | omega | (simp; omega)) | refine Rw.alloc ?_ _)) _
  have N2 : Hid (Sys W6 (.slice ga Z2.parts.length gb) (.slice gc Z2.chans.length gd) (.slice ge Z2.slots.length gf) Z2) := by
    show Sys _ _ _ _ _
    rw [HW6.out]
    exact (HN.out.fresh _ _).sys
  have zb6 := b6.size
  clear HW6
  have N1' := Lib.hid (N1.out.up b6)
  have R0' := Lib.hid (R0.out.up b6 R0.out.lt)
  have R5' := Lib.hid (R5.out.up b6 R5.out.lt)
  have R7' := Lib.hid (R7.out.up b6 R7.out.lt)
  have HB' := Lib.hid (HB.out.trans (b6.mono HB.out.size))
  clear b6 HB N1 R0 R5 R7
  have N1 := N1'
  clear N1'
  have R0 := R0'
  clear R0'
  have R5 := R5'
  clear R5'
  have R7 := R7'
  clear R7'
  have HB := HB'
  clear HB'
  clear HN
  have s0 := R0.out.cell (j := 0) (v := .slice pa S.parts.length pc) rfl
  have s1 := R0.out.cell (j := 1) (v := .slice ka S.chans.length kc) rfl
  have s2 := R0.out.cell (j := 2) (v := .slice sa S.slots.length sc) rfl
  go_wp2_with fail
  refine (HTH.out _ (HS.out.up HB.out)).mono ?_
  rintro e w6 ⟨rfl, b7⟩
  clear s0 s1 s2 HTH HPU HOT
  have N1' := Lib.hid (N1.out.up b7)
  have N2' := Lib.hid (N2.out.up b7)
  have R0' := Lib.hid (R0.out.up b7 R0.out.lt)
  have R5' := Lib.hid (R5.out.up b7 R5.out.lt)
  have R7' := Lib.hid (R7.out.up b7 R7.out.lt)
  have R9' := Lib.hid (R9.out.up b7 R9.out.lt)
  have HB' := Lib.hid (HB.out.trans (b7.mono HB.out.size))
  clear b7 HB N1 N2 R0 R5 R7 R9
  have N1 := N1'
  clear N1'
  have N2 := N2'
  clear N2'
  have R0 := R0'
  clear R0'
  have R5 := R5'
  clear R5'
  have R7 := R7'
  clear R7'
  have R9 := R9'
  clear R9'
  have HB := HB'
  clear HB'
  by_cases h0 : v0 = 0
  · subst h0
    have hk := (thE_zero HV0.out).1
    have e1 : purgeS S part = Z1 := by rw [← HZ1.out]; unfold purgeR; rw [if_pos HV0.out]
    have HPO := Lib.hid fun w hS => e1 ▸ purgeOf_any S part hk (.slice pa S.parts.length pc) (.slice ka S.chans.length kc) (.slice sa S.slots.length sc) w hS
    clear hk e1 HV0 HZ1
    go_upto_region 5 with fail
    generalize hY : World.alloc _ _ = Y
    have b6 : Below w6.heap.size w6 Y := by rw [← hY]; exact (Below.refl _ _).alloc (Nat.le_refl _) _
    have R12 : Hid (Rw Y w6.heap.size 26 #[.slice none 0 0, .slice none 0 0, .slice none 0 0]) := by
      show Rw _ _ _ _
      rw [← hY]
      exact Rw.new _ _ _ rfl
    have zY : Y.heap.size = w6.heap.size + 1 := by rw [← hY]; simp
    have z0 := R0.out.lt
    clear hY
    have HB0 := Lib.hid (HB.out.trans (b6.mono HB.out.size))
    have B6 := Lib.hid b6
    have R0' := Lib.hid (R0.out.up b6 R0.out.lt)
    have P0 := R0
    clear b6 R0
    have R0 := R0'
    clear R0'
    have s0 := R0.out.cell (j := 0) (v := .slice pa S.parts.length pc) rfl
    have s1 := R0.out.cell (j := 1) (v := .slice ka S.chans.length kc) rfl
    have s2 := R0.out.cell (j := 2) (v := .slice sa S.slots.length sc) rfl
    go_wp2_with fail
    refine (HPO.out _ (HS.out.up HB0.out)).mono ?_
    rintro e w7 ⟨yp, yk, ys, rfl, hN', b7⟩
    have hN := hN'.sys
    obtain ⟨ea, eb, rfl⟩ := hN.p.form
    obtain ⟨ec, ed, rfl⟩ := hN.c.form
    obtain ⟨ee, ef, rfl⟩ := hN.s.form
    have HN := Lib.hid hN'
    have B7 := Lib.hid (B6.out.trans (b7.mono B6.out.size))
    have R12' := Lib.hid (R12.out.up b7 R12.out.lt)
    clear hN hN' s0 s1 s2 R0 R12 HB0 B6 b7
    go_wp2_with (refine wpList_store_rowW rfl 26 (.tmp 12) (.tmp 35) rfl w6.heap.size #[.slice ea Z1.parts.length eb, .slice ec Z1.chans.length ed, .slice ee Z1.slots.length ef] rfl rfl 26 _ R12'.out sizeSys rfl (by simp [Value.oneCell']) ?_)
    intro W8 HW8
    have R12 : Hid (Rw W8 w6.heap.size 26 #[.slice ea Z1.parts.length eb, .slice ec Z1.chans.length ed, .slice ee Z1.slots.length ef]) := Lib.hid (by rw [HW8.out]; exact R12'.out.row _)
    have N3 : Hid (Sys W8 (.slice ea Z1.parts.length eb) (.slice ec Z1.chans.length ed) (.slice ee Z1.slots.length ef) Z1) := Lib.hid (by rw [HW8.out]; exact (HN.out.row (by omega) _).sys)
    have b8 : Below w6.heap.size w6 W8 := by rw [HW8.out]; exact below_row B7.out (Nat.le_refl _) _
    clear R12' HW8 HN B7
    have R0 := P0
    clear P0
    have N1' := Lib.hid (N1.out.up b8)
    have N2' := Lib.hid (N2.out.up b8)
    have R0' := Lib.hid (R0.out.up b8 R0.out.lt)
    have R5' := Lib.hid (R5.out.up b8 R5.out.lt)
    have R7' := Lib.hid (R7.out.up b8 R7.out.lt)
    have R9' := Lib.hid (R9.out.up b8 R9.out.lt)
    have HB' := Lib.hid (HB.out.trans (b8.mono HB.out.size))
    clear b8 HB N1 N2 R0 R5 R7 R9
    have N1 := N1'
    clear N1'
    have N2 := N2'
    clear N2'
    have R0 := R0'
    clear R0'
    have R5 := R5'
    clear R5'
    have R7 := R7'
    clear R7'
    have R9 := R9'
    clear R9'
    have HB := HB'
    clear HB'
    have s0 := R0.out.cell (j := 0) (v := .slice pa S.parts.length pc) rfl
    have s1 := R0.out.cell (j := 1) (v := .slice ka S.chans.length kc) rfl
    have s2 := R0.out.cell (j := 2) (v := .slice sa S.slots.length sc) rfl
    have p0 := R5.out.cell (j := 0) (v := .slice qa p.code.length qc) rfl
    have p1 := R5.out.cell (j := 1) (v := .slice ia p.inn.length ic) rfl
    go_wp2_with fail
    refine (HOO.out _ (HS.out.up HB.out) (HP.out.up HB.out)).mono ?_
    rintro e w9 ⟨yp, yk, ys, rfl, hN', b9⟩
    rw [HZ2.out] at hN'
    have hN := hN'.sys
    obtain ⟨ha, hb, rfl⟩ := hN.p.form
    obtain ⟨hc, hd, rfl⟩ := hN.c.form
    obtain ⟨he, hf, rfl⟩ := hN.s.form
    have HN := Lib.hid hN'
    clear hN hN' s0 s1 s2 p0 p1
    have N1' := Lib.hid (N1.out.up b9)
    have N2' := Lib.hid (N2.out.up b9)
    have N3' := Lib.hid (N3.out.up b9)
    have R7' := Lib.hid (R7.out.up b9 R7.out.lt)
    have R9' := Lib.hid (R9.out.up b9 R9.out.lt)
    have R12' := Lib.hid (R12.out.up b9 R12.out.lt)
    have HB' := Lib.hid (HB.out.trans (b9.mono HB.out.size))
    clear b9 HB N1 N2 N3 R7 R9 R12
    have N1 := N1'
    clear N1'
    have N2 := N2'
    clear N2'
    have N3 := N3'
    clear N3'
    have R7 := R7'
    clear R7'
    have R9 := R9'
    clear R9'
    have R12 := R12'
    clear R12'
    have HB := HB'
    clear HB'
    go_wp2_with (refine wpList_store_rowW rfl 26 (.tmp 13) (.tmp 41) rfl w9.heap.size #[.slice ha Z2.parts.length hb, .slice hc Z2.chans.length hd, .slice he Z2.slots.length hf] rfl rfl 26 #[.slice none 0 0, .slice none 0 0, .slice none 0 0] (by repeat (first | exact Rw.new _ _ _ (by first | rfl | (simp; done) | omega | (simp; omega)) | refine Rw.alloc ?_ _)) sizeSys rfl (by simp [Value.oneCell']) ?_)
    intro WA HWA
    have bA : Below w9.heap.size w9 WA := by rw [HWA.out]; exact below_row ((Below.refl _ _).alloc (Nat.le_refl _) _) (Nat.le_refl _) _
    have R13 : Hid (Rw WA w9.heap.size 26 #[.slice ha Z2.parts.length hb, .slice hc Z2.chans.length hd, .slice he Z2.slots.length hf]) := by
      show Rw _ _ _ _
      rw [HWA.out]
      exact Rw.row (cs := #[.slice none 0 0, .slice none 0 0, .slice none 0 0]) (by repeat (first | exact Rw.new _ _ _ (by first | rfl | (simp; done) | omega | (simp; omega)) | refine Rw.alloc ?_ _)) _
    have N4 : Hid (Sys WA (.slice ha Z2.parts.length hb) (.slice hc Z2.chans.length hd) (.slice he Z2.slots.length hf) Z2) := by
      show Sys _ _ _ _ _
      rw [HWA.out]
      exact (HN.out.fresh _ _).sys
    have zbA := bA.size
    clear HWA
    have N1' := Lib.hid (N1.out.up bA)
    have N2' := Lib.hid (N2.out.up bA)
    have N3' := Lib.hid (N3.out.up bA)
    have R7' := Lib.hid (R7.out.up bA R7.out.lt)
    have R9' := Lib.hid (R9.out.up bA R9.out.lt)
    have R12' := Lib.hid (R12.out.up bA R12.out.lt)
    have HB' := Lib.hid (HB.out.trans (bA.mono HB.out.size))
    clear bA HB N1 N2 N3 R7 R9 R12
    have N1 := N1'
    clear N1'
    have N2 := N2'
    clear N2'
    have N3 := N3'
    clear N3'
    have R7 := R7'
    clear R7'
    have R9 := R9'
    clear R9'
    have R12 := R12'
    clear R12'
    have HB := HB'
    clear HB'
    clear HN R0 R5
    rw [HE0.out]
    go_wp2_with fail
    refine (viewBegun_any _ (HE.out.up HB.out)).mono ?_
    rintro e f1 ⟨rfl, bb⟩
    have N1' := Lib.hid (N1.out.up bb)
    have N2' := Lib.hid (N2.out.up bb)
    have N3' := Lib.hid (N3.out.up bb)
    have N4' := Lib.hid (N4.out.up bb)
    have R7' := Lib.hid (R7.out.up bb R7.out.lt)
    have R9' := Lib.hid (R9.out.up bb R9.out.lt)
    have R12' := Lib.hid (R12.out.up bb R12.out.lt)
    have R13' := Lib.hid (R13.out.up bb R13.out.lt)
    have HB' := Lib.hid (HB.out.trans (bb.mono HB.out.size))
    clear bb HB N1 N2 N3 N4 R7 R9 R12 R13
    have N1 := N1'
    clear N1'
    have N2 := N2'
    clear N2'
    have N3 := N3'
    clear N3'
    have N4 := N4'
    clear N4'
    have R7 := R7'
    clear R7'
    have R9 := R9'
    clear R9'
    have R12 := R12'
    clear R12'
    have R13 := R13'
    clear R13'
    have HB := HB'
    clear HB'
    go_wp2_with (first | (refine loadRowG rfl 26 (.tmp 7) rfl w3.heap.size rfl 26 _ (0, 0) _ R7.out Tryz.underlying26 rfl sizeSys ?_) | (refine loadRowG rfl 26 (.tmp 12) rfl w6.heap.size rfl 26 _ (0, 0) _ R12.out Tryz.underlying26 rfl sizeSys ?_))
    refine (sameSys_any Z1 HS1.out.1 HS1.out.2.1 HS1.out.2.2.1 HS1.out.2.2.2 _ _ _ _ _ _ _ N1.out N3.out).mono ?_
    rintro e f2 ⟨rfl, bb⟩
    clear N1 N3
    have N2' := Lib.hid (N2.out.up bb)
    have N4' := Lib.hid (N4.out.up bb)
    have R9' := Lib.hid (R9.out.up bb R9.out.lt)
    have R13' := Lib.hid (R13.out.up bb R13.out.lt)
    have HB' := Lib.hid (HB.out.trans (bb.mono HB.out.size))
    clear bb HB N2 N4 R9 R13
    have N2 := N2'
    clear N2'
    have N4 := N4'
    clear N4'
    have R9 := R9'
    clear R9'
    have R13 := R13'
    clear R13'
    have HB := HB'
    clear HB'
    go_wp2_with (first | (refine loadRowG rfl 26 (.tmp 9) rfl w5.heap.size rfl 26 _ (0, 0) _ R9.out Tryz.underlying26 rfl sizeSys ?_) | (refine loadRowG rfl 26 (.tmp 13) rfl w9.heap.size rfl 26 _ (0, 0) _ R13.out Tryz.underlying26 rfl sizeSys ?_))
    refine (sameSys_any Z2 HS2.out.1 HS2.out.2.1 HS2.out.2.2.1 HS2.out.2.2.2 _ _ _ _ _ _ _ N2.out N4.out).mono ?_
    rintro e f3 ⟨rfl, bb⟩
    clear N2 N4
    have HB' := Lib.hid (HB.out.trans (bb.mono HB.out.size))
    clear bb HB 
    have HB := HB'
    clear HB'
    go_wp2
    go_ret
    exact ⟨rfl, HB.out⟩
  · have e1 : Z1 = sysZ := by rw [← HZ1.out]; unfold purgeR; rw [if_neg (by rw [HV0.out]; exact h0)]
    subst e1
    clear HV0 HZ1
    go_upto_region 5 with fail
    generalize hY : World.alloc _ _ = Y
    have b6 : Below w6.heap.size w6 Y := by rw [← hY]; exact (Below.refl _ _).alloc (Nat.le_refl _) _
    have R12 : Hid (Rw Y w6.heap.size 26 #[.slice none 0 0, .slice none 0 0, .slice none 0 0]) := by
      show Rw _ _ _ _
      rw [← hY]
      exact Rw.new _ _ _ rfl
    have zY : Y.heap.size = w6.heap.size + 1 := by rw [← hY]; simp
    have z0 := R0.out.lt
    clear hY
    have N3 : Hid (Sys Y (.slice none 0 0) (.slice none 0 0) (.slice none 0 0) sysZ) := Lib.hid (SysF.nil 0 Y).sys
    have N1' := Lib.hid (N1.out.up b6)
    have N2' := Lib.hid (N2.out.up b6)
    have R0' := Lib.hid (R0.out.up b6 R0.out.lt)
    have R5' := Lib.hid (R5.out.up b6 R5.out.lt)
    have R7' := Lib.hid (R7.out.up b6 R7.out.lt)
    have R9' := Lib.hid (R9.out.up b6 R9.out.lt)
    have HB' := Lib.hid (HB.out.trans (b6.mono HB.out.size))
    clear b6 HB N1 N2 R0 R5 R7 R9
    have N1 := N1'
    clear N1'
    have N2 := N2'
    clear N2'
    have R0 := R0'
    clear R0'
    have R5 := R5'
    clear R5'
    have R7 := R7'
    clear R7'
    have R9 := R9'
    clear R9'
    have HB := HB'
    clear HB'
    have s0 := R0.out.cell (j := 0) (v := .slice pa S.parts.length pc) rfl
    have s1 := R0.out.cell (j := 1) (v := .slice ka S.chans.length kc) rfl
    have s2 := R0.out.cell (j := 2) (v := .slice sa S.slots.length sc) rfl
    have p0 := R5.out.cell (j := 0) (v := .slice qa p.code.length qc) rfl
    have p1 := R5.out.cell (j := 1) (v := .slice ia p.inn.length ic) rfl
    go_wp2_with fail
    refine (HOO.out _ (HS.out.up HB.out) (HP.out.up HB.out)).mono ?_
    rintro e w9 ⟨yp, yk, ys, rfl, hN', b9⟩
    rw [HZ2.out] at hN'
    have hN := hN'.sys
    obtain ⟨ha, hb, rfl⟩ := hN.p.form
    obtain ⟨hc, hd, rfl⟩ := hN.c.form
    obtain ⟨he, hf, rfl⟩ := hN.s.form
    have HN := Lib.hid hN'
    clear hN hN' s0 s1 s2 p0 p1
    have N1' := Lib.hid (N1.out.up b9)
    have N2' := Lib.hid (N2.out.up b9)
    have N3' := Lib.hid (N3.out.up b9)
    have R7' := Lib.hid (R7.out.up b9 R7.out.lt)
    have R9' := Lib.hid (R9.out.up b9 R9.out.lt)
    have R12' := Lib.hid (R12.out.up b9 R12.out.lt)
    have HB' := Lib.hid (HB.out.trans (b9.mono HB.out.size))
    clear b9 HB N1 N2 N3 R7 R9 R12
    have N1 := N1'
    clear N1'
    have N2 := N2'
    clear N2'
    have N3 := N3'
    clear N3'
    have R7 := R7'
    clear R7'
    have R9 := R9'
    clear R9'
    have R12 := R12'
    clear R12'
    have HB := HB'
    clear HB'
    go_wp2_with (refine wpList_store_rowW rfl 26 (.tmp 13) (.tmp 41) rfl w9.heap.size #[.slice ha Z2.parts.length hb, .slice hc Z2.chans.length hd, .slice he Z2.slots.length hf] rfl rfl 26 #[.slice none 0 0, .slice none 0 0, .slice none 0 0] (by repeat (first | exact Rw.new _ _ _ (by first | rfl | (simp; done) | omega | (simp; omega)) | refine Rw.alloc ?_ _)) sizeSys rfl (by simp [Value.oneCell']) ?_)
    intro WA HWA
    have bA : Below w9.heap.size w9 WA := by rw [HWA.out]; exact below_row ((Below.refl _ _).alloc (Nat.le_refl _) _) (Nat.le_refl _) _
    have R13 : Hid (Rw WA w9.heap.size 26 #[.slice ha Z2.parts.length hb, .slice hc Z2.chans.length hd, .slice he Z2.slots.length hf]) := by
      show Rw _ _ _ _
      rw [HWA.out]
      exact Rw.row (cs := #[.slice none 0 0, .slice none 0 0, .slice none 0 0]) (by repeat (first | exact Rw.new _ _ _ (by first | rfl | (simp; done) | omega | (simp; omega)) | refine Rw.alloc ?_ _)) _
    have N4 : Hid (Sys WA (.slice ha Z2.parts.length hb) (.slice hc Z2.chans.length hd) (.slice he Z2.slots.length hf) Z2) := by
      show Sys _ _ _ _ _
      rw [HWA.out]
      exact (HN.out.fresh _ _).sys
    have zbA := bA.size
    clear HWA
    have N1' := Lib.hid (N1.out.up bA)
    have N2' := Lib.hid (N2.out.up bA)
    have N3' := Lib.hid (N3.out.up bA)
    have R7' := Lib.hid (R7.out.up bA R7.out.lt)
    have R9' := Lib.hid (R9.out.up bA R9.out.lt)
    have R12' := Lib.hid (R12.out.up bA R12.out.lt)
    have HB' := Lib.hid (HB.out.trans (bA.mono HB.out.size))
    clear bA HB N1 N2 N3 R7 R9 R12
    have N1 := N1'
    clear N1'
    have N2 := N2'
    clear N2'
    have N3 := N3'
    clear N3'
    have R7 := R7'
    clear R7'
    have R9 := R9'
    clear R9'
    have R12 := R12'
    clear R12'
    have HB := HB'
    clear HB'
    clear HN R0 R5
    rw [HE0.out]
    go_wp2_with fail
    refine (viewBegun_any _ (HE.out.up HB.out)).mono ?_
    rintro e f1 ⟨rfl, bb⟩
    have N1' := Lib.hid (N1.out.up bb)
    have N2' := Lib.hid (N2.out.up bb)
    have N3' := Lib.hid (N3.out.up bb)
    have N4' := Lib.hid (N4.out.up bb)
    have R7' := Lib.hid (R7.out.up bb R7.out.lt)
    have R9' := Lib.hid (R9.out.up bb R9.out.lt)
    have R12' := Lib.hid (R12.out.up bb R12.out.lt)
    have R13' := Lib.hid (R13.out.up bb R13.out.lt)
    have HB' := Lib.hid (HB.out.trans (bb.mono HB.out.size))
    clear bb HB N1 N2 N3 N4 R7 R9 R12 R13
    have N1 := N1'
    clear N1'
    have N2 := N2'
    clear N2'
    have N3 := N3'
    clear N3'
    have N4 := N4'
    clear N4'
    have R7 := R7'
    clear R7'
    have R9 := R9'
    clear R9'
    have R12 := R12'
    clear R12'
    have R13 := R13'
    clear R13'
    have HB := HB'
    clear HB'
    go_wp2_with (first | (refine loadRowG rfl 26 (.tmp 7) rfl w3.heap.size rfl 26 _ (0, 0) _ R7.out Tryz.underlying26 rfl sizeSys ?_) | (refine loadRowG rfl 26 (.tmp 12) rfl w6.heap.size rfl 26 _ (0, 0) _ R12.out Tryz.underlying26 rfl sizeSys ?_))
    refine (sameSys_any sysZ HS1.out.1 HS1.out.2.1 HS1.out.2.2.1 HS1.out.2.2.2 _ _ _ _ _ _ _ N1.out N3.out).mono ?_
    rintro e f2 ⟨rfl, bb⟩
    clear N1 N3
    have N2' := Lib.hid (N2.out.up bb)
    have N4' := Lib.hid (N4.out.up bb)
    have R9' := Lib.hid (R9.out.up bb R9.out.lt)
    have R13' := Lib.hid (R13.out.up bb R13.out.lt)
    have HB' := Lib.hid (HB.out.trans (bb.mono HB.out.size))
    clear bb HB N2 N4 R9 R13
    have N2 := N2'
    clear N2'
    have N4 := N4'
    clear N4'
    have R9 := R9'
    clear R9'
    have R13 := R13'
    clear R13'
    have HB := HB'
    clear HB'
    go_wp2_with (first | (refine loadRowG rfl 26 (.tmp 9) rfl w5.heap.size rfl 26 _ (0, 0) _ R9.out Tryz.underlying26 rfl sizeSys ?_) | (refine loadRowG rfl 26 (.tmp 13) rfl w9.heap.size rfl 26 _ (0, 0) _ R13.out Tryz.underlying26 rfl sizeSys ?_))
    refine (sameSys_any Z2 HS2.out.1 HS2.out.2.1 HS2.out.2.2.1 HS2.out.2.2.2 _ _ _ _ _ _ _ N2.out N4.out).mono ?_
    rintro e f3 ⟨rfl, bb⟩
    clear N2 N4
    have HB' := Lib.hid (HB.out.trans (bb.mono HB.out.size))
    clear bb HB 
    have HB := HB'
    clear HB'
    go_wp2
    go_ret
    exact ⟨rfl, HB.out⟩
end Go.Proofs.YtehhhiodfcdnmaaGreatDoor

namespace Go.Proofs.YtehhhiodfcdnmaaGreatDoor
set_option linter.unusedSimpArgs false
set_option linter.unusedVariables false
open Go.ChangeShapes Go.WideShapes Go.ChangeAt Go.RowKit
theorem trodAll_below {H : Type} {enc : TypeId × Value → H} {P : Program} (hl : laidOutB P = true) {W W' : World} (hb : Below W.heap.size W W') :
    ∀ (ts : List TypeId) (vs : List Value) (ds : List (DataW H)) (ps : List MemPlace), (∀ t ∈ ts, P.readableRec t = true ∧ t < P.types.size) → DataW.TrodAll enc P W 0 (fun _ => true) true ts vs ds ps → (∀ x ∈ ps, x.block < W.heap.size) →
      DataW.TrodAll enc P W' 0 (fun b => decide (b < W.heap.size)) true ts vs ds ps
  | [], [], [], _, _, h, _ => h
  | t :: ts, v :: vs, d :: ds, ps, hr, h, hlt => by
    obtain ⟨p, q, h1, h2, rfl⟩ := h
    exact ⟨p, q, Below.trod hl (hr t (by simp)).1 (hr t (by simp)).2 h1 hb (fun x hx => hlt x (by simp [hx])), trodAll_below hl hb ts vs ds q (fun t ht => hr t (by simp [ht])) h2 (fun x hx => hlt x (by simp [hx])), rfl⟩
  | [], _ :: _, _, _, _, h, _ => by cases h
  | [], [], _ :: _, _, _, h, _ => by cases h
  | _ :: _, [], _, _, _, h, _ => by cases h
  | _ :: _, _ :: _, [], _, _, h, _ => by cases h
theorem law_post {H : Type} {enc : TypeId × Value → H} {P : Program} {fn : Func} {s : ChangeSpec} {W W' : World} {args : Array Value} {ds gs : List (DataW H)} {before : List MemPlace} {tb : TypeId}
    (hl : laidOutB P = true) (hp : ∀ t ∈ fn.params.toList, P.readableRec t = true ∧ t < P.types.size) (hvars : s.vars = []) (hres : fn.resultTypes = #[tb]) (hbool : P.underlying tb = some .bool)
    (hW : DataW.Whole enc P fn.params.toList s.vars false W args.toList ds gs before)
    (hfn : gs = [] → (s.fn H (ds ++ gs)).results = [.lit (.bool true)] ∧ (s.fn H (ds ++ gs)).args = ds ∧ (s.fn H (ds ++ gs)).vars = [])
    (hb : Below W.heap.size W W') : s.post enc P fn false true false false W args (.bool true) W' := by
  have hW' := hW
  have hlt := hW.lt
  obtain ⟨p, q, hA, hV, rfl, hfz, hnd⟩ := hW
  rw [hvars] at hV
  obtain ⟨rfl, rfl⟩ := trodVars_none hV
  obtain ⟨e1, e2, e3⟩ := hfn rfl
  refine ⟨ds, [], p ++ [], [], p, [], hW', ?_, ?_, ?_, hb.frame _, fun h => by cases h⟩
  · rw [e1, hres]
    exact trodAll_cons_mk (shut_bool hbool _) trodAll_mk0
  · rw [e2]
    exact trodAll_below hl hb _ _ _ _ hp hA (fun x hx => hlt x (by simp [hx]))
  · rw [e3, hvars]
    rfl
end Go.Proofs.YtehhhiodfcdnmaaGreatDoor

namespace Go.Proofs.YtehhhiodfcdnmaaGreatDoor
set_option linter.unusedSimpArgs false
set_option linter.unusedVariables false
open Go.ChangeShapes Go.WideShapes Go.ChangeAt Go.RowKit Go.Joins Go.Deep
theorem own : ownKnob Tryz.prog.godebug = none := by kernel_rfl
theorem laidOut : laidOutB Tryz.prog = true := by kernel_rfl
theorem in64_of {n : Int} (h : (Lit.int .i64 n).wf = true) : in64 n := by
  have := bounds_i64 h
  exact ⟨this.1, this.2⟩
set_option maxRecDepth 100000 in
theorem sl_of {H : Type} {enc : TypeId × Value → H} {P : Program} {W : World} {base : Nat} {sp : Nat → Bool} {held : Bool} {t e : TypeId} {size : Nat} {α : Type} [Inhabited α] (f : α → List Value) (Q : α → Prop)
    (ht : P.underlying t = some (.slice e)) (hc : P.cellsOf e = size) (hs0 : 0 < size) (hfl : ∀ x, (f x).length = size)
    (elem : ∀ (n : Nat) (cs : List Value) (y : DataW H × List MemPlace), cs.length = size → DataW.trod enc P W base sp held n e cs = some y → ∃ q, cs = f q ∧ Q q)
    {v : Value} {fuel : Nat} {x : DataW H × List MemPlace} (hf : DataW.trod enc P W base sp held fuel t [v] = some x) : ∃ l : List α, Sl W size v l.length (rowC f l) ∧ ∀ j (hj : j < l.length), Q l[j] := by
  rcases open_slice ht hf with ⟨h1, _⟩ | ⟨a, len, cap, m, n, D, Pl, e1, hb, hl, hm, hmm, _, hx⟩
  · obtain rfl : v = .slice none 0 0 := by simpa using h1
    exact ⟨[], Sl.nil W size, fun j hj => absurd hj (by simp)⟩
  · obtain rfl : v = .slice (some a) len cap := by simpa using e1
    have hlm : len ≤ m := by rw [hmm]; split <;> omega
    have each : ∀ i, i < len → ∃ q : α, (∀ k, k < size → W.cell? (a.add (i * size + k)) = (f q)[k]?) ∧ Q q := by
      intro i hi
      obtain ⟨cs', h1, h2⟩ := hx i (by omega)
      rw [hc] at h1
      obtain ⟨_, hlen, hcell⟩ := World.cells?_some h1
      obtain ⟨q, rfl, hq⟩ := elem _ _ _ hlen h2
      refine ⟨q, fun k hk => ?_, hq⟩
      have := hcell k hk
      rwa [add_add] at this
    obtain ⟨q, hq⟩ := choose_lt each
    refine ⟨(List.range len).map q, ?_, fun j hj => by simpa using (hq j (by simpa using hj)).2⟩
    have hlen : ((List.range len).map q).length = len := by simp
    refine ⟨rowC_len hfl _, some a, cap, by rw [hlen], by omega, fun hpos => ?_⟩
    have h00 := (hq 0 (by omega)).1 0 hs0
    obtain ⟨v0, hv0⟩ : ∃ v0, (f (q 0))[0]? = some v0 := ⟨(f (q 0))[0]'(by rw [hfl]; exact hs0), List.getElem?_eq_getElem _⟩
    rw [hv0, Nat.zero_mul] at h00
    have hs : a.spot = none := by
      have := World.cell?_spot h00
      simpa [Addr.add] using this
    obtain ⟨b, off, s⟩ := a
    simp only at hs
    subst hs
    refine ⟨b, off, rfl, ?_, fun j u hj => ?_⟩
    · simp only [Addr.add, if_true] at h00
      unfold World.cell? at h00
      by_cases hlt : b < W.heap.size
      · exact hlt
      · simp [Array.getElem?_eq_none (Nat.le_of_not_lt hlt)] at h00
    · have hjl : j < len * size := by
        have := (List.getElem?_eq_some_iff.1 hj).1
        rw [rowC_len hfl, hlen] at this
        exact this
      have hdm : j / size * size + j % size = j := by rw [Nat.mul_comm]; exact Nat.div_add_mod j size
      have hdl : j / size < len := Nat.div_lt_of_lt_mul (by rw [Nat.mul_comm]; exact hjl)
      have hml : j % size < size := Nat.mod_lt _ hs0
      rw [← hdm, rowC_at hfl _ _ _ (by rw [hlen]; exact hdl) hml] at hj
      simp only [List.getElem_map, List.getElem_range] at hj
      have key : ∀ x : Nat, (⟨b, off + x, none⟩ : Addr) = (⟨b, off, none⟩ : Addr).add x := fun x => by
        unfold Addr.add
        by_cases h0 : x = 0 <;> simp [h0]
      rw [key, ← hdm, (hq (j / size) hdl).1 _ hml]
      exact hj
theorem codeC_row : ∀ l : List Ins, codeC l = rowC Ins.cells l
  | [] => rfl
  | i :: r => by rw [codeC, codeC_row r]; rfl
theorem ints_row (l : List Int) : ints l = rowC (fun z : Int => [Value.int .i64 z]) l := by
  unfold ints rowC
  induction l with
  | nil => rfl
  | cons z r ih => rw [List.map_cons, List.flatMap_cons, ih]; rfl
instance : Inhabited Ins := ⟨⟨0, 0, 0, 0⟩⟩
theorem cellsInt : Tryz.prog.cellsOf 3 = 1 := by kernel_rfl
theorem cellsCode : Tryz.prog.cellsOf 47 = 1 := by kernel_rfl
theorem cellsInts : Tryz.prog.cellsOf 33 = 1 := by kernel_rfl
set_option maxRecDepth 100000 in
theorem code_of {H : Type} {enc : TypeId × Value → H} {W : World} {base : Nat} {sp : Nat → Bool} {held : Bool} {v : Value} {fuel : Nat} {x : DataW H × List MemPlace} (hf : DataW.trod enc Tryz.prog W base sp held fuel 47 [v] = some x) :
    ∃ l : List Ins, Sl W 4 v l.length (codeC l) ∧ ∀ j (hj : j < l.length), l[j].ok := by
  obtain ⟨l, h1, h2⟩ := sl_of (size := 4) Ins.cells Ins.ok Tryz.underlying47 (by kernel_rfl) (by decide) (fun _ => rfl) (fun n cs y hl h => by
    obtain ⟨y0, y1, y2, y3, k, hxy, _, g0, g1, g2, g3⟩ := trod_struct4 Tryz.underlying83 h
    match cs, hl with
    | [v0, v1, v2, v3], _ =>
      obtain ⟨op, e0, -, w0⟩ := DataW.trod_int Tryz.underlying3 g0
      obtain ⟨a', e1, -, w1⟩ := DataW.trod_int Tryz.underlying3 g1
      obtain ⟨b, e2, -, w2⟩ := DataW.trod_int Tryz.underlying3 g2
      obtain ⟨n', e3, -, w3⟩ := DataW.trod_int Tryz.underlying3 g3
      simp [cellsInt] at e0 e1 e2 e3
      subst e0 e1 e2 e3
      exact ⟨⟨op, a', b, n'⟩, rfl, in64_of w0, in64_of w1, in64_of w2, in64_of w3⟩) hf
  exact ⟨l, by rw [codeC_row]; exact h1, h2⟩
set_option maxRecDepth 100000 in
theorem ints_of {H : Type} {enc : TypeId × Value → H} {W : World} {base : Nat} {sp : Nat → Bool} {held : Bool} {v : Value} {fuel : Nat} {x : DataW H × List MemPlace} (hf : DataW.trod enc Tryz.prog W base sp held fuel 33 [v] = some x) :
    ∃ l : List Int, Sl W 1 v l.length (ints l) ∧ ∀ j (hj : j < l.length), in64 l[j] := by
  obtain ⟨l, h1, h2⟩ := sl_of (fun z : Int => [Value.int .i64 z]) in64 Tryz.underlying33 (by kernel_rfl) (by decide) (fun _ => rfl) (fun n cs y hl h => by
    obtain ⟨q, e0, -, w0⟩ := DataW.trod_int Tryz.underlying3 h
    exact ⟨q, e0, in64_of w0⟩) hf
  exact ⟨l, by rw [ints_row]; exact h1, h2⟩
set_option maxRecDepth 100000 in
theorem open_int {H : Type} {enc : TypeId × Value → H} {W : World} {r : Reach} {b0 base : Nat} {sp : Nat → Bool} {held : Bool} {v : Value} {d : DataW H} {p : List MemPlace} (hv : Value.okWide Tryz.prog W r b0 3 v) (h : DataW.Trod enc Tryz.prog W base sp held 3 v d p) :
    ∃ n : Int, v = .int .i64 n ∧ in64 n := by
  obtain ⟨fuel, hf⟩ := h
  obtain ⟨n, e, -, w0⟩ := DataW.trod_int Tryz.underlying3 hf
  obtain ⟨m, rfl⟩ := okWide_int Tryz.underlying3 hv
  obtain rfl : m = n := by simpa [Value.cells] using e
  exact ⟨m, rfl, in64_of w0⟩
end Go.Proofs.YtehhhiodfcdnmaaGreatDoor

namespace Go.Proofs.YtehhhiodfcdnmaaGreatDoor
set_option linter.unusedSimpArgs false
set_option linter.unusedVariables false
open Go.ChangeShapes Go.WideShapes Go.ChangeAt Go.RowKit Go.Joins Go.Deep
instance : Inhabited Chn := ⟨⟨0, 0, 0⟩⟩
instance : Inhabited Slt := ⟨⟨0, 0⟩⟩
instance : Inhabited Prt := ⟨⟨[], []⟩⟩
set_option maxRecDepth 100000 in
theorem chans_of {H : Type} {enc : TypeId × Value → H} {W : World} {base : Nat} {sp : Nat → Bool} {held : Bool} {v : Value} {fuel : Nat} {x : DataW H × List MemPlace} (hf : DataW.trod enc Tryz.prog W base sp held fuel 23 [v] = some x) :
    ∃ l : List Chn, Sl W 3 v l.length (rowC chC l) ∧ ∀ j (hj : j < l.length), in64 l[j].kd ∧ in64 l[j].fr ∧ in64 l[j].tt :=
  sl_of chC (fun c => in64 c.kd ∧ in64 c.fr ∧ in64 c.tt) Tryz.underlying23 (by kernel_rfl) (by decide) (fun _ => rfl) (fun n cs y hl h => by
    obtain ⟨y0, y1, y2, k, hxy, _, g0, g1, g2⟩ := trod_struct3 Tryz.underlying89 h
    match cs, hl with
    | [v0, v1, v2], _ =>
      obtain ⟨a, e0, -, w0⟩ := DataW.trod_int Tryz.underlying3 g0
      obtain ⟨b, e1, -, w1⟩ := DataW.trod_int Tryz.underlying3 g1
      obtain ⟨c, e2, -, w2⟩ := DataW.trod_int Tryz.underlying3 g2
      simp [cellsInt] at e0 e1 e2
      subst e0 e1 e2
      exact ⟨⟨a, b, c⟩, rfl, in64_of w0, in64_of w1, in64_of w2⟩) hf
set_option maxRecDepth 100000 in
theorem slots_of {H : Type} {enc : TypeId × Value → H} {W : World} {base : Nat} {sp : Nat → Bool} {held : Bool} {v : Value} {fuel : Nat} {x : DataW H × List MemPlace} (hf : DataW.trod enc Tryz.prog W base sp held fuel 24 [v] = some x) :
    ∃ l : List Slt, Sl W 2 v l.length (rowC slC l) ∧ ∀ j (hj : j < l.length), in64 l[j].pt ∧ in64 l[j].tk :=
  sl_of slC (fun c => in64 c.pt ∧ in64 c.tk) Tryz.underlying24 (by kernel_rfl) (by decide) (fun _ => rfl) (fun n cs y hl h => by
    obtain ⟨y0, y1, k, hxy, _, g0, g1⟩ := trod_struct2 Tryz.underlying105 h
    match cs, hl with
    | [v0, v1], _ =>
      obtain ⟨a, e0, -, w0⟩ := DataW.trod_int Tryz.underlying3 g0
      obtain ⟨b, e1, -, w1⟩ := DataW.trod_int Tryz.underlying3 g1
      simp [cellsInt] at e0 e1
      subst e0 e1
      exact ⟨⟨a, b⟩, rfl, in64_of w0, in64_of w1⟩) hf
def Prt.ok (p : Prt) : Prop := (∀ j (hj : j < p.code.length), p.code[j].ok) ∧ ∀ j (hj : j < p.inn.length), in64 p.inn[j]
set_option maxRecDepth 100000 in
theorem parts_of {H : Type} {enc : TypeId × Value → H} {W : World} {base : Nat} {sp : Nat → Bool} {held : Bool} {v : Value} {fuel : Nat} {x : DataW H × List MemPlace} (hf : DataW.trod enc Tryz.prog W base sp held fuel 22 [v] = some x) :
    ∃ ps : List Prt, PartsR W v ps ∧ ∀ p ∈ ps, p.ok := by
  obtain ⟨l, h1, h2⟩ := sl_of (size := 2) prC (fun q => ∃ p : Prt, PrtR W q.1 q.2 p ∧ p.ok) Tryz.underlying22 (by kernel_rfl) (by decide) (fun _ => rfl) (fun n cs y hl h => by
    obtain ⟨y0, y1, k, hxy, _, g0, g1⟩ := trod_struct2 Tryz.underlying49 h
    match cs, hl with
    | [v0, v1], _ =>
      simp only [List.drop, cellsCode, List.take] at g0
      simp only [List.drop, cellsInts, List.take] at g1
      obtain ⟨c, hc, hc2⟩ := code_of g0
      obtain ⟨i, hi, hi2⟩ := ints_of g1
      exact ⟨(v0, v1), rfl, ⟨c, i⟩, ⟨hc, hi⟩, hc2, hi2⟩) hf
  obtain ⟨g, hg⟩ := choose_lt (n := l.length) (p := fun j p => ∀ hj : j < l.length, PrtR W l[j].1 l[j].2 p ∧ p.ok) (fun j hj => by
    obtain ⟨p, hp⟩ := h2 j hj
    exact ⟨p, fun _ => hp⟩)
  refine ⟨(List.range l.length).map g, ⟨l, by simp, by simpa using h1, fun k hk hk' => ?_⟩, fun p hp => ?_⟩
  · have := (hg k hk' hk').1
    simpa using this
  · obtain ⟨j, hj, rfl⟩ := List.mem_map.1 hp
    have hj : j < l.length := by simpa using hj
    exact (hg j hj hj).2
set_option maxRecDepth 100000 in
theorem open_system {H : Type} {enc : TypeId × Value → H} {W : World} {r : Reach} {b0 base : Nat} {sp : Nat → Bool} {held : Bool} {v : Value} {d : DataW H} {p : List MemPlace} (hv : Value.okWide Tryz.prog W r b0 26 v) (h : DataW.Trod enc Tryz.prog W base sp held 26 v d p) :
    ∃ (vp vc vs : Value) (S : SysD), v = .agg #[vp, vc, vs] ∧ Sys W vp vc vs S ∧ S.ok := by
  obtain ⟨c0, c1, c2, y0, y1, y2, m, rfl, rfl, rfl, h0, h1, h2⟩ := open_agg3 Tryz.underlying26 (by kernel_rfl) (by kernel_rfl) hv h
  obtain ⟨ps, hp, hpo⟩ := parts_of h0
  obtain ⟨cs, hc, hco⟩ := chans_of h1
  obtain ⟨ss, hs, hso⟩ := slots_of h2
  exact ⟨c0, c1, c2, ⟨ps, cs, ss⟩, rfl, ⟨hp, hc, hs⟩, fun p hp' => (hpo p hp').1⟩
end Go.Proofs.YtehhhiodfcdnmaaGreatDoor

namespace Go.Proofs.YtehhhiodfcdnmaaGreatDoor
set_option linter.unusedSimpArgs false
set_option linter.unusedVariables false
open Go.ChangeShapes Go.WideShapes Go.ChangeAt Go.RowKit Go.Joins Go.Deep
end Go.Proofs.YtehhhiodfcdnmaaGreatDoor

namespace Go.Proofs.YtehhhiodfcdnmaaGreatDoor
set_option linter.unusedSimpArgs false
set_option linter.unusedVariables false
open Go.ChangeShapes Go.WideShapes Go.ChangeAt Go.RowKit Go.Joins Go.Deep
instance : Inhabited Cel := ⟨celZ⟩
end Go.Proofs.YtehhhiodfcdnmaaGreatDoor

namespace Go.Proofs.YtehhhiodfcdnmaaGreatDoor
set_option linter.unusedSimpArgs false
set_option linter.unusedVariables false
open Go.ChangeShapes Go.WideShapes Go.ChangeAt Go.RowKit Go.Joins Go.Deep
theorem slice_sized {H : Type} {enc : TypeId × Value → H} {P : Program} {W : World} {base : Nat} {sp : Nat → Bool} {held : Bool} {t e : TypeId} {v : Value} {fuel : Nat} {x : DataW H × List MemPlace} (ht : P.underlying t = some (.slice e))
    (hf : DataW.trod enc P W base sp held fuel t [v] = some x) (hw : ∀ n ∈ x.1.weights P t, n ≤ reachBytes) {a : Option Addr} {n cap : Nat} (hv : v = .slice a n cap) : n * P.bytesOf e ≤ reachBytes := by
  rcases open_slice ht hf with ⟨h1, _⟩ | ⟨a', len, cap', m, k, D, Pl, e1, _, _, _, _, hx, _⟩
  · obtain rfl : v = .slice none 0 0 := by simpa using h1
    injection hv with _ h2 _
    subst h2
    simp
  · obtain rfl : v = .slice (some a') len cap' := by simpa using e1
    injection hv with _ h2 _
    subst h2
    subst hx
    have := hw ((((List.range len).map D).length + ((List.range (m - len)).map fun j => D (len + j)).length) * P.bytesOf e) (by simp [DataW.weights, ht])
    refine Nat.le_trans (Nat.mul_le_mul_right _ ?_) this
    simp
theorem bytesIns : Tryz.prog.bytesOf 83 = 32 := by kernel_rfl
theorem bytesInt : Tryz.prog.bytesOf 3 = 8 := by kernel_rfl
set_option maxRecDepth 100000 in
theorem open_partW {H : Type} {enc : TypeId × Value → H} {W : World} {r : Reach} {b0 base : Nat} {sp : Nat → Bool} {held : Bool} {v : Value} {d : DataW H} {p : List MemPlace} (hv : Value.okWide Tryz.prog W r b0 49 v) (h : DataW.Trod enc Tryz.prog W base sp held 49 v d p)
    (hw : ∀ n ∈ d.weights Tryz.prog 49, n ≤ reachBytes) :
    ∃ (cv iv : Value) (l : List Ins) (inn : List Int), v = .agg #[cv, iv] ∧ Sl W 4 cv l.length (codeC l) ∧ Sl W 1 iv inn.length (ints inn) ∧ (∀ j (hj : j < l.length), l[j].ok) ∧ l.length * 32 ≤ 140737488355328 ∧ inn.length * 8 ≤ 140737488355328 := by
  obtain ⟨c0, c1, y0, y1, m, rfl, rfl, rfl, h0, h1⟩ := open_agg2 Tryz.underlying49 (by kernel_rfl) (by kernel_rfl) hv h
  obtain ⟨l, hl, hlo⟩ := code_of h0
  obtain ⟨inn, hi, -⟩ := ints_of h1
  obtain ⟨a, cap, e0⟩ := hl.form
  obtain ⟨a', cap', e1⟩ := hi.form
  have w0 := slice_sized Tryz.underlying47 h0 (fun n hn => hw n (by simp only [DataW.weights, Tryz.underlying49]; exact List.mem_append_left _ hn)) e0
  have w1 := slice_sized Tryz.underlying33 h1 (fun n hn => hw n (by simp only [DataW.weights, Tryz.underlying49]; exact List.mem_append_right _ (List.mem_append_left _ hn))) e1
  rw [bytesIns] at w0
  rw [bytesInt] at w1
  have hr : reachBytes ≤ 140737488355328 := by decide
  exact ⟨_, _, l, inn, rfl, hl, hi, hlo, by omega, by omega⟩
end Go.Proofs.YtehhhiodfcdnmaaGreatDoor

namespace Go.Proofs.YtehhhiodfcdnmaaGreatDoor
set_option linter.unusedSimpArgs false
set_option linter.unusedVariables false
open Go.RowKit Go.Sort
theorem gShp : Tryz.prog.globalNamed "lychgate/isa.shapes" = some 0 := by kernel_rfl
theorem gShpType : (Tryz.prog.globals[0]?).map (·.type) = some 197 := by kernel_rfl
theorem cells9 : Tryz.prog.cellsOf 9 = 1 := by kernel_rfl
theorem cells55 : Tryz.prog.cellsOf 196 = 6 := by kernel_rfl
theorem cells4 : Tryz.prog.cellsOf 4 = 1 := by kernel_rfl
theorem cells3 : Tryz.prog.cellsOf 3 = 1 := by kernel_rfl
def rowD {H : Type} (k : Nat) : DataW H := .agg [.lit (.string (rowW k)), .lit (.bool (rowA k)), .lit (.bool (rowB k)), .lit (.bool (rowN k)), .lit (.int .i64 (rowLo k)), .lit (.int .i64 (rowHi k))]
theorem laid_rows {H : Type} : (Rows.laid_lychgate_isa_shapes : DataW H) = .agg ((List.range 16).map rowD) := rfl
theorem at_of {cs : List Value} {o : Nat} {v : Value} (h : (cs.drop o).take 1 = [v]) : cs[o]? = some v := by
  have := congrArg (·[0]?) h
  simpa [List.getElem?_take, List.getElem?_drop] using this
theorem at_in {cs : List Value} {a o : Nat} {v : Value} (h : ((cs.drop a).take 6)[o]? = some v) (ho : o < 6) : cs[a + o]? = some v := by
  rw [List.getElem?_take, if_pos ho, List.getElem?_drop] at h; exact h
theorem row_cells {H : Type} {enc : TypeId × Value → H} {W : World} {base : Nat} {sp : Nat → Bool} {held : Bool} {fuel : Nat} {cs : List Value} {k : Nat} {p : List MemPlace}
    (h : DataW.trod enc Tryz.prog W base sp held fuel 196 cs = some (rowD k, p)) :
    cs[0]? = some (.string ⟨(rowW k).toArray⟩) ∧ cs[1]? = some (.bool (rowA k)) ∧ cs[2]? = some (.bool (rowB k)) ∧ cs[3]? = some (.bool (rowN k)) ∧ cs[4]? = some (.int .i64 (rowLo k)) ∧ cs[5]? = some (.int .i64 (rowHi k)) := by
  obtain ⟨xs, n, _, hx, hl, hlen, hf⟩ := DataW.trod_struct Tryz.underlying196 h
  have f0 := hf 0 _ rfl
  have f1 := hf 1 _ rfl
  have f2 := hf 2 _ rfl
  have f3 := hf 3 _ rfl
  have f4 := hf 4 _ rfl
  have f5 := hf 5 _ rfl
  match xs, hlen with
  | [y0, y1, y2, y3, y4, y5], _ =>
    simp only [rowD, Prod.mk.injEq, DataW.agg.injEq, List.map_cons, List.map_nil, List.cons.injEq, and_true] at hx
    obtain ⟨⟨e0, e1, e2, e3, e4, e5⟩, _⟩ := hx
    obtain ⟨s, c0, d0, _⟩ := DataW.trod_string Tryz.underlying9 f0
    obtain ⟨b1, c1, d1⟩ := DataW.trod_bool Tryz.underlying4 f1
    obtain ⟨b2, c2, d2⟩ := DataW.trod_bool Tryz.underlying4 f2
    obtain ⟨b3, c3, d3⟩ := DataW.trod_bool Tryz.underlying4 f3
    obtain ⟨n4, c4, d4, _⟩ := DataW.trod_int Tryz.underlying3 f4
    obtain ⟨n5, c5, d5, _⟩ := DataW.trod_int Tryz.underlying3 f5
    subst d0 d1 d2 d3 d4 d5
    simp only [DataW.lit.injEq, Lit.string.injEq, Lit.bool.injEq, Lit.int.injEq, true_and] at e0 e1 e2 e3 e4 e5
    subst e1 e2 e3 e4 e5
    change (cs.drop 0).take (Tryz.prog.cellsOf 9) = _ at c0
    change (cs.drop 1).take (Tryz.prog.cellsOf 4) = _ at c1
    change (cs.drop 2).take (Tryz.prog.cellsOf 4) = _ at c2
    change (cs.drop 3).take (Tryz.prog.cellsOf 4) = _ at c3
    change (cs.drop 4).take (Tryz.prog.cellsOf 3) = _ at c4
    change (cs.drop 5).take (Tryz.prog.cellsOf 3) = _ at c5
    rw [cells9] at c0
    rw [cells4] at c1 c2 c3
    rw [cells3] at c4 c5
    have es : s = ⟨(rowW k).toArray⟩ := by
      apply ByteArray.ext
      rw [e0]
    exact ⟨es ▸ at_of c0, at_of c1, at_of c2, at_of c3, at_of c4, at_of c5⟩
theorem shp_of {W : World} {r : List (String × DataW Unit)} (h : laidMet Tryz.prog (("lychgate/isa.shapes", Rows.laid_lychgate_isa_shapes) :: r) W) : Shp W := by
  obtain ⟨ps, ⟨g', t', cs, fuel, p, q, hg', ht', hvar, hd, _, _⟩, _⟩ := h
  obtain rfl := Option.some.inj (gShp.symm.trans hg')
  obtain rfl := Option.some.inj (gShpType.symm.trans ht')
  obtain ⟨xs, m, _, hx, hl, hlen, hf⟩ := DataW.trod_array Tryz.underlying197 hd
  have hrow : ∀ k, k < 16 → ∃ p', DataW.trod (fun _ => ()) Tryz.prog W 0 (fun _ => true) false m 196 ((cs.toList.drop (k * 6)).take 6) = some (rowD k, p') := by
    intro k hk
    have h1 := hf k hk
    rw [cells55] at h1
    have h2 : xs.map (·.1) = (List.range 16).map rowD := by
      have := congrArg Prod.fst hx
      simp only [laid_rows, DataW.agg.injEq] at this
      exact this.symm
    have h3 := congrArg (·[k]?) h2
    simp only [List.getElem?_map, List.getElem?_range hk, Option.map_some] at h3
    cases hy : xs[k]? with
    | none => rw [hy] at h3; cases h3
    | some y =>
      rw [hy] at h3
      simp only [Option.map_some, Option.some.injEq] at h3
      refine ⟨y.2, ?_⟩
      rw [h1, hy, ← h3]
  have cell : ∀ i, W.cell? ⟨0, i, none⟩ = cs[i]? := fun i => World.var?_cell gShp hvar i
  have key : ∀ k, k < 16 → ∀ j v, j < 6 → ((cs.toList.drop (k * 6)).take 6)[j]? = some v → W.cell? ⟨0, k * 6 + j, none⟩ = some v := by
    intro k hk j v hj h
    have := at_in h hj
    rw [cell, ← Array.getElem?_toList]
    exact this
  refine ⟨?_, fun k hk => ?_, fun k hk => ?_, fun k hk => ?_, fun k hk => ?_, fun k hk => ?_, fun k hk => ?_⟩
  · have h0 : W.var? Tryz.prog "lychgate/isa.shapes" = some cs := hvar
    unfold World.var? at h0
    rw [gShp] at h0
    simp only [Option.bind_some] at h0
    rcases Nat.lt_or_ge 0 W.heap.size with h' | h'
    · exact h'
    · simp [Array.getElem?_eq_none h'] at h0
  all_goals obtain ⟨p', hp⟩ := hrow k hk
  all_goals obtain ⟨r0, r1, r2, r3, r4, r5⟩ := row_cells hp
  · exact key k hk 0 _ (by decide) r0
  · exact key k hk 1 _ (by decide) r1
  · exact key k hk 2 _ (by decide) r2
  · exact key k hk 3 _ (by decide) r3
  · exact key k hk 4 _ (by decide) r4
  · exact key k hk 5 _ (by decide) r5
theorem env_of {W : World} {r : List (String × DataW Unit)} (h : laidMet Tryz.prog (("lychgate/isa.shapes", Rows.laid_lychgate_isa_shapes) :: r) W) : Env W := ⟨shp_of h⟩
end Go.Proofs.YtehhhiodfcdnmaaGreatDoor

namespace Go.Proofs.YtehhhiodfcdnmaaGreatDoor
set_option linter.unusedSimpArgs false
set_option linter.unusedVariables false
def laidW (P : Program) (os : Os) : World :=
  let w0 := World.holding P os ⟨#[], #[], []⟩
  let put := fun (h : Array Obj) (g : Nat) (cs : Array Value) => h.modify g fun
      | .cells _ t frozen => .cells cs t frozen
      | o => o
  { w0 with heap := put w0.heap 0 #[.string ⟨#[]⟩, .bool false, .bool false, .bool false, .int .i64 0, .int .i64 0, .string ⟨#[115, 101, 116]⟩, .bool true, .bool false, .bool true, .int .i64 (-9223372036854775808), .int .i64 9223372036854775807, .string ⟨#[99, 111, 112, 121]⟩, .bool true, .bool true, .bool false, .int .i64 0, .int .i64 0, .string ⟨#[97, 100, 100]⟩, .bool true, .bool true, .bool false, .int .i64 0, .int .i64 0, .string ⟨#[115, 117, 98]⟩, .bool true, .bool true, .bool false, .int .i64 0, .int .i64 0, .string ⟨#[108, 101, 115, 115]⟩, .bool true, .bool true, .bool false, .int .i64 0, .int .i64 0, .string ⟨#[108, 111, 97, 100]⟩, .bool true, .bool true, .bool false, .int .i64 0, .int .i64 0, .string ⟨#[115, 97, 118, 101]⟩, .bool true, .bool true, .bool false, .int .i64 0, .int .i64 0, .string ⟨#[106, 117, 109, 112]⟩, .bool false, .bool false, .bool true, .int .i64 0, .int .i64 19, .string ⟨#[122, 101, 114, 111]⟩, .bool true, .bool false, .bool true, .int .i64 0, .int .i64 19, .string ⟨#[105, 110]⟩, .bool true, .bool false, .bool false, .int .i64 0, .int .i64 0, .string ⟨#[111, 117, 116]⟩, .bool true, .bool false, .bool false, .int .i64 0, .int .i64 0, .string ⟨#[112, 117, 116]⟩, .bool true, .bool false, .bool true, .int .i64 0, .int .i64 5, .string ⟨#[103, 101, 116]⟩, .bool true, .bool true, .bool true, .int .i64 0, .int .i64 5, .string ⟨#[114, 101, 115, 116]⟩, .bool false, .bool false, .bool false, .int .i64 0, .int .i64 0, .string ⟨#[115, 116, 111, 112]⟩, .bool false, .bool false, .bool false, .int .i64 0, .int .i64 0] }
end Go.Proofs.YtehhhiodfcdnmaaGreatDoor

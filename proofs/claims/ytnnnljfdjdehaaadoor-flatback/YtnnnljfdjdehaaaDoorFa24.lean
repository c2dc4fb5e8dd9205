/- FlatBack. -/
import Derived.Test.YtnnnljfdjdehaaaDoorJ15
namespace Go.Proofs.YtnnnljfdjdehaaaDoor
set_option linter.unusedSimpArgs false
set_option linter.unusedVariables false
open Go.RowKit Go.Sort

theorem liftW_zero {S : SysD} {l : List Int} (h : liftW S l = 0) : chkW S (liftR S l) = 0 ∧ rowF (liftR S l) = l := by
  unfold liftW at h
  split at h
  · rename_i h1; exact absurd h h1
  · rename_i h1
    have h1 : chkS S = 0 := by simpa using h1
    split at h
    · cases h
    · rename_i h2
      cases e : liftD S l with
      | none => exact absurd e h2
      | some D =>
        have e2 : liftR S l = D := by unfold liftR; rw [if_pos h1, e]; rfl
        obtain ⟨h3, h4⟩ := row_liftD e
        rw [e2]
        exact ⟨h4, h3.symm⟩
theorem liftW_row {S : SysD} {D : WldD} (h : chkW S D = 0) : liftW S (rowF D) = 0 ∧ liftR S (rowF D) = D := by
  have h1 := (chkW_zero h).1
  refine ⟨?_, ?_⟩
  · unfold liftW
    rw [if_neg (by rw [h1]; simp), liftD_row h, if_neg (by simp)]
  · unfold liftR
    rw [if_pos h1, liftD_row h]
    rfl
theorem small_chk {S : SysD} {D : WldD} (h : chkW S D = 0) : WSmall D := small_right (chkW_zero h).1 (chkW_zero h).2
set_option maxRecDepth 100000 in
set_option maxHeartbeats 8000000 in
theorem flatBack_any (S : SysD) (D : WldD) (l : List Int) (vp vc vs uc ul u : Value) (w : World) (he : Env w) (hS : Sys w vp vc vs S) (hW : Wld w uc ul D) (hl : Sl w 1 u l.length (ints l)) :
    Calls Tryd.prog 5 #[.agg #[vp, vc, vs], .agg #[.int .i64 D.tick, uc, ul], u] w fun e w' => e = .returned (.bool true) ∧ Below w.heap.size w w' := by
  obtain ⟨pa, pc, rfl⟩ := hS.p.form
  obtain ⟨ka, kc, rfl⟩ := hS.c.form
  obtain ⟨sa, sc, rfl⟩ := hS.s.form
  obtain ⟨ua, uc, rfl⟩ := hW.c.form
  obtain ⟨la, lc, rfl⟩ := hW.l.form
  obtain ⟨na, nc, rfl⟩ := hl.form
  obtain ⟨v2, hv2⟩ : ∃ v2, liftW S l = v2 := ⟨_, rfl⟩
  obtain ⟨D2, hD2⟩ : ∃ D2, liftR S l = D2 := ⟨_, rfl⟩
  have HLI := Lib.hid fun w he hS hl => flatLift_any S l (.slice pa S.parts.length pc) (.slice ka S.chans.length kc) (.slice sa S.slots.length sc) (.slice na l.length nc) w he hS hl v2 hv2 D2 hD2
  have HBA : Hid (v2 = 0 → chkW S D2 = 0 ∧ rowF D2 = l) := Lib.hid fun h => by rw [← hD2]; exact liftW_zero (hv2.trans h)
  have HE := Lib.hid he
  have HS := Lib.hid hS
  have HW := Lib.hid hW
  have HL := Lib.hid hl
  clear he hS hW hl hv2 hD2
  go_enter Tryd.func5, Tryd.ntmps5
  go_wp2_with fail
  refine (flatLay_any S D _ _ _ _ _ _ (HE.out.up (by repeat (first | exact Below.refl _ _ | assumption | refine Below.drew ?_ | refine Below.alloc ?_ (by first | (simp; done) | (simp; omega)) _ | refine Below.setCell ?_ (by first | (simp; done) | (simp; omega)) _))) (HS.out.up (by repeat (first | exact Below.refl _ _ | assumption | refine Below.drew ?_ | refine Below.alloc ?_ (by first | (simp; done) | (simp; omega)) _ | refine Below.setCell ?_ (by first | (simp; done) | (simp; omega)) _))) (HW.out.up (by repeat (first | exact Below.refl _ _ | assumption | refine Below.drew ?_ | refine Below.alloc ?_ (by first | (simp; done) | (simp; omega)) _ | refine Below.setCell ?_ (by first | (simp; done) | (simp; omega)) _)))).mono ?_
  rintro e w1 ⟨v1, rfl, ho, b1⟩
  have z1 := b1.size
  simp at z1
  have R0 : Hid (Rw w1 w.heap.size 26 #[.slice pa S.parts.length pc, .slice ka S.chans.length kc, .slice sa S.slots.length sc]) := Rw.up (by repeat (first | exact Rw.new _ _ _ (by first | rfl | (simp; done) | omega | (simp; omega)) | refine Rw.alloc ?_ _)) b1 (by first | omega | (simp; done) | (simp; omega))
  have R1 : Hid (Rw w1 (w.heap.size + 1) 30 #[.int .i64 D.tick, .slice ua D.cells.length uc, .slice la D.lines.length lc]) := Rw.up (by repeat (first | exact Rw.new _ _ _ (by first | rfl | (simp; done) | omega | (simp; omega)) | refine Rw.alloc ?_ _)) b1 (by first | omega | (simp; done) | (simp; omega))
  have HB : Hid (Below w.heap.size w w1) := by
    refine Below.trans ?_ (b1.mono (by first | omega | (simp; done) | (simp; omega)))
    exact (by repeat (first | exact Below.refl _ _ | assumption | refine Below.drew ?_ | refine Below.alloc ?_ (by first | (simp; done) | (simp; omega)) _ | refine Below.setCell ?_ (by first | (simp; done) | (simp; omega)) _))
  obtain ⟨a1, c1, rfl⟩ := own_form ho
  have SA := Lib.hid (own_sl ho)
  clear b1 ho
  by_cases hk : chkW S D = 0
  · have HK := Lib.hid hk
    have e1 : laidF S D = rowF D := if_pos hk
    rw [e1] at SA ⊢
    rw [hk]
    clear hk e1
    have s0 := R0.out.cell (j := 0) (v := .slice pa S.parts.length pc) rfl
    have s1 := R0.out.cell (j := 1) (v := .slice ka S.chans.length kc) rfl
    have s2 := R0.out.cell (j := 2) (v := .slice sa S.slots.length sc) rfl
    go_wp2_with fail
    refine (flatLift_any S (rowF D) _ _ _ _ _ (HE.out.up HB.out) (HS.out.up HB.out) SA.out 0 (liftW_row HK.out).1 D (liftW_row HK.out).2).mono ?_
    rintro e w2 ⟨xc, xl, rfl, hN, b2⟩
    obtain ⟨xa, xb, rfl⟩ := hN.wld.c.form
    obtain ⟨da, dc, rfl⟩ := hN.wld.l.form
    have z2 := b2.size
    have HN := Lib.hid hN
    have R02 := Lib.hid (R0.out.up b2 R0.out.lt)
    have R12 := Lib.hid (R1.out.up b2 R1.out.lt)
    have HB2 := Lib.hid (HB.out.trans (b2.mono (by omega)))
    clear hN b2 s0 s1 s2 R0 R1 HB SA
    go_wp2_with (refine wpList_store_rowW rfl 30 (.tmp 9) (.tmp 27) rfl w2.heap.size #[.int .i64 D.tick, .slice xa D.cells.length xb, .slice da D.lines.length dc] rfl rfl 30 #[.int .i64 0, .slice none 0 0, .slice none 0 0] (by repeat (first | exact Rw.new _ _ _ (by first | rfl | (simp; done) | omega | (simp; omega)) | refine Rw.alloc ?_ _)) sizeWld rfl (by simp [Value.oneCell']) ?_)
    intro W3 HW3
    have b3 : Below w2.heap.size w2 W3 := by rw [HW3.out]; exact below_row ((Below.refl _ _).alloc (Nat.le_refl _) _) (Nat.le_refl _) _
    have RX : Hid (Rw W3 w2.heap.size 30 #[.int .i64 D.tick, .slice xa D.cells.length xb, .slice da D.lines.length dc]) := by
      show Rw _ _ _ _
      rw [HW3.out]
      exact Rw.row (cs := #[.int .i64 0, .slice none 0 0, .slice none 0 0]) (by repeat (first | exact Rw.new _ _ _ (by first | rfl | (simp; done) | omega | (simp; omega)) | refine Rw.alloc ?_ _)) _
    have NX : Hid (Wld W3 (.slice xa D.cells.length xb) (.slice da D.lines.length dc) D) := by
      show Wld _ _ _ _
      rw [HW3.out]
      exact (HN.out.fresh _ _).wld
    have R03 := Lib.hid (R02.out.up b3 R02.out.lt)
    have R13 := R12.out.up b3 R12.out.lt
    have z3 := b3.size
    have HB3 := Lib.hid (HB2.out.trans (b3.mono (by omega)))
    have q0 := RX.out.cell (j := 0) (v := .int .i64 D.tick) rfl
    have q1 := RX.out.cell (j := 1) (v := .slice xa D.cells.length xb) rfl
    have q2 := RX.out.cell (j := 2) (v := .slice da D.lines.length dc) rfl
    have p0 := R13.cell (j := 0) (v := .int .i64 D.tick) rfl
    have p1 := R13.cell (j := 1) (v := .slice ua D.cells.length uc) rfl
    have p2 := R13.cell (j := 2) (v := .slice la D.lines.length lc) rfl
    clear HW3 b3 HN R02 R12 R13 HB2
    go_wp2_with fail
    refine (sameWorlds_yes D (small_chk HK.out) _ _ _ _ _ NX.out (HW.out.up HB3.out)).mono ?_
    rintro e w4 ⟨rfl, b4⟩
    have R0 := Lib.hid (R03.out.up b4 R03.out.lt)
    have HB := Lib.hid (HB3.out.trans (b4.mono (by omega)))
    clear b4 q0 q1 q2 p0 p1 p2 RX NX R03 HB3
    have s0 := R0.out.cell (j := 0) (v := .slice pa S.parts.length pc) rfl
    have s1 := R0.out.cell (j := 1) (v := .slice ka S.chans.length kc) rfl
    have s2 := R0.out.cell (j := 2) (v := .slice sa S.slots.length sc) rfl
    go_wp2_with fail
    refine (HLI.out _ (HE.out.up HB.out) (HS.out.up HB.out) (HL.out.up HB.out)).mono ?_
    rintro e x1 ⟨yc, yl, rfl, hN1, b1⟩
    obtain ⟨ya, yb, rfl⟩ := hN1.wld.c.form
    obtain ⟨ea, ec, rfl⟩ := hN1.wld.l.form
    have y1 := b1.size
    have zB := HB.out.size
    have HN1 := Lib.hid hN1
    have R01 := Lib.hid (R0.out.up b1 R0.out.lt)
    have HB1 := Lib.hid (HB.out.trans (b1.mono zB))
    clear hN1 b1 s0 s1 s2 R0 HB
    go_wp2_with (refine wpList_store_rowW rfl 30 (.tmp 11) (.tmp 41) rfl x1.heap.size #[.int .i64 D2.tick, .slice ya D2.cells.length yb, .slice ea D2.lines.length ec] rfl rfl 30 #[.int .i64 0, .slice none 0 0, .slice none 0 0] (by repeat (first | exact Rw.new _ _ _ (by first | rfl | (simp; done) | omega | (simp; omega)) | refine Rw.alloc ?_ _)) sizeWld rfl (by simp [Value.oneCell']) ?_)
    intro X2 HX2
    have b2 : Below x1.heap.size x1 X2 := by rw [HX2.out]; exact below_row ((Below.refl _ _).alloc (Nat.le_refl _) _) (Nat.le_refl _) _
    have RX : Hid (Rw X2 x1.heap.size 30 #[.int .i64 D2.tick, .slice ya D2.cells.length yb, .slice ea D2.lines.length ec]) := by
      show Rw _ _ _ _
      rw [HX2.out]
      exact Rw.row (cs := #[.int .i64 0, .slice none 0 0, .slice none 0 0]) (by repeat (first | exact Rw.new _ _ _ (by first | rfl | (simp; done) | omega | (simp; omega)) | refine Rw.alloc ?_ _)) _
    have NX : Hid (Wld X2 (.slice ya D2.cells.length yb) (.slice ea D2.lines.length ec) D2) := by
      show Wld _ _ _ _
      rw [HX2.out]
      exact (HN1.out.fresh _ _).wld
    have R02 := Lib.hid (R01.out.up b2 R01.out.lt)
    have y2 := b2.size
    have HB2 := Lib.hid (HB1.out.trans (b2.mono HB1.out.size))
    clear HX2 b2 HN1 R01 HB1
    by_cases hv : v2 = 0
    · subst hv
      have HBK := Lib.hid (HBA.out rfl)
      have R0 := R02
      have s0 := R0.out.cell (j := 0) (v := .slice pa S.parts.length pc) rfl
      have s1 := R0.out.cell (j := 1) (v := .slice ka S.chans.length kc) rfl
      have s2 := R0.out.cell (j := 2) (v := .slice sa S.slots.length sc) rfl
      have q0 := RX.out.cell (j := 0) (v := .int .i64 D2.tick) rfl
      have q1 := RX.out.cell (j := 1) (v := .slice ya D2.cells.length yb) rfl
      have q2 := RX.out.cell (j := 2) (v := .slice ea D2.lines.length ec) rfl
      go_wp2_with fail
      refine (flatLay_any S D2 _ _ _ _ _ _ (HE.out.up HB2.out) (HS.out.up HB2.out) NX.out).mono ?_
      rw [HBK.out.1, show laidF S D2 = l from (if_pos HBK.out.1).trans HBK.out.2]
      rintro e x3 ⟨v3, rfl, ho3, b3⟩
      obtain ⟨a3, c3, rfl⟩ := own_form ho3
      have S3 := Lib.hid (own_sl ho3)
      have HB3 := Lib.hid (HB2.out.trans (b3.mono HB2.out.size))
      clear b3 ho3 s0 s1 s2 q0 q1 q2
      go_wp2_with fail
      refine (flatBegun_any _ (HE.out.up HB3.out)).mono ?_
      rintro e x4 ⟨rfl, b4⟩
      have S4 := Lib.hid (S3.out.up b4)
      have HB4 := Lib.hid (HB3.out.trans (b4.mono HB3.out.size))
      clear b4
      go_wp2_with fail
      refine (sameInts_any l l _ _ _ S4.out (HL.out.up HB4.out) (by
        have h1 := HBK.out.2
        have h2 := rowF_len (chkW_small HBK.out.1)
        have h3 := (chkW_small HBK.out.1).cells
        have h4 := (chkW_small HBK.out.1).lines
        rw [h1] at h2
        omega) true (by simp)).mono ?_
      rintro e x5 ⟨rfl, b5⟩
      have HB5 := Lib.hid (HB4.out.trans (b5.mono HB4.out.size))
      clear b5
      go_wp2
      go_ret
      exact ⟨rfl, HB5.out⟩
    · have hvb : (v2 == 0) = false := by simpa using hv
      clear hv
      go_wp2_with fail
      refine (flatBegun_any _ (HE.out.up HB2.out)).mono ?_
      rintro e x4 ⟨rfl, b4⟩
      have HB4 := Lib.hid (HB2.out.trans (b4.mono HB2.out.size))
      clear b4
      go_wp2
      go_ret
      exact ⟨rfl, HB4.out⟩
  · have hkb : (chkW S D == 0) = false := by simpa using hk
    clear hk R1 SA
    have s0 := R0.out.cell (j := 0) (v := .slice pa S.parts.length pc) rfl
    have s1 := R0.out.cell (j := 1) (v := .slice ka S.chans.length kc) rfl
    have s2 := R0.out.cell (j := 2) (v := .slice sa S.slots.length sc) rfl
    go_wp2_with fail
    refine (HLI.out _ (HE.out.up HB.out) (HS.out.up HB.out) (HL.out.up HB.out)).mono ?_
    rintro e x1 ⟨yc, yl, rfl, hN1, b1⟩
    obtain ⟨ya, yb, rfl⟩ := hN1.wld.c.form
    obtain ⟨ea, ec, rfl⟩ := hN1.wld.l.form
    have y1 := b1.size
    have zB := HB.out.size
    have HN1 := Lib.hid hN1
    have R01 := Lib.hid (R0.out.up b1 R0.out.lt)
    have HB1 := Lib.hid (HB.out.trans (b1.mono zB))
    clear hN1 b1 s0 s1 s2 R0 HB
    go_wp2_with (refine wpList_store_rowW rfl 30 (.tmp 11) (.tmp 41) rfl x1.heap.size #[.int .i64 D2.tick, .slice ya D2.cells.length yb, .slice ea D2.lines.length ec] rfl rfl 30 #[.int .i64 0, .slice none 0 0, .slice none 0 0] (by repeat (first | exact Rw.new _ _ _ (by first | rfl | (simp; done) | omega | (simp; omega)) | refine Rw.alloc ?_ _)) sizeWld rfl (by simp [Value.oneCell']) ?_)
    intro X2 HX2
    have b2 : Below x1.heap.size x1 X2 := by rw [HX2.out]; exact below_row ((Below.refl _ _).alloc (Nat.le_refl _) _) (Nat.le_refl _) _
    have RX : Hid (Rw X2 x1.heap.size 30 #[.int .i64 D2.tick, .slice ya D2.cells.length yb, .slice ea D2.lines.length ec]) := by
      show Rw _ _ _ _
      rw [HX2.out]
      exact Rw.row (cs := #[.int .i64 0, .slice none 0 0, .slice none 0 0]) (by repeat (first | exact Rw.new _ _ _ (by first | rfl | (simp; done) | omega | (simp; omega)) | refine Rw.alloc ?_ _)) _
    have NX : Hid (Wld X2 (.slice ya D2.cells.length yb) (.slice ea D2.lines.length ec) D2) := by
      show Wld _ _ _ _
      rw [HX2.out]
      exact (HN1.out.fresh _ _).wld
    have R02 := Lib.hid (R01.out.up b2 R01.out.lt)
    have y2 := b2.size
    have HB2 := Lib.hid (HB1.out.trans (b2.mono HB1.out.size))
    clear HX2 b2 HN1 R01 HB1
    by_cases hv : v2 = 0
    · subst hv
      have HBK := Lib.hid (HBA.out rfl)
      have R0 := R02
      have s0 := R0.out.cell (j := 0) (v := .slice pa S.parts.length pc) rfl
      have s1 := R0.out.cell (j := 1) (v := .slice ka S.chans.length kc) rfl
      have s2 := R0.out.cell (j := 2) (v := .slice sa S.slots.length sc) rfl
      have q0 := RX.out.cell (j := 0) (v := .int .i64 D2.tick) rfl
      have q1 := RX.out.cell (j := 1) (v := .slice ya D2.cells.length yb) rfl
      have q2 := RX.out.cell (j := 2) (v := .slice ea D2.lines.length ec) rfl
      go_wp2_with fail
      refine (flatLay_any S D2 _ _ _ _ _ _ (HE.out.up HB2.out) (HS.out.up HB2.out) NX.out).mono ?_
      rw [HBK.out.1, show laidF S D2 = l from (if_pos HBK.out.1).trans HBK.out.2]
      rintro e x3 ⟨v3, rfl, ho3, b3⟩
      obtain ⟨a3, c3, rfl⟩ := own_form ho3
      have S3 := Lib.hid (own_sl ho3)
      have HB3 := Lib.hid (HB2.out.trans (b3.mono HB2.out.size))
      clear b3 ho3 s0 s1 s2 q0 q1 q2
      go_wp2_with fail
      refine (flatBegun_any _ (HE.out.up HB3.out)).mono ?_
      rintro e x4 ⟨rfl, b4⟩
      have S4 := Lib.hid (S3.out.up b4)
      have HB4 := Lib.hid (HB3.out.trans (b4.mono HB3.out.size))
      clear b4
      go_wp2_with fail
      refine (sameInts_any l l _ _ _ S4.out (HL.out.up HB4.out) (by
        have h1 := HBK.out.2
        have h2 := rowF_len (chkW_small HBK.out.1)
        have h3 := (chkW_small HBK.out.1).cells
        have h4 := (chkW_small HBK.out.1).lines
        rw [h1] at h2
        omega) true (by simp)).mono ?_
      rintro e x5 ⟨rfl, b5⟩
      have HB5 := Lib.hid (HB4.out.trans (b5.mono HB4.out.size))
      clear b5
      go_wp2
      go_ret
      exact ⟨rfl, HB5.out⟩
    · have hvb : (v2 == 0) = false := by simpa using hv
      clear hv
      go_wp2_with fail
      refine (flatBegun_any _ (HE.out.up HB2.out)).mono ?_
      rintro e x4 ⟨rfl, b4⟩
      have HB4 := Lib.hid (HB2.out.trans (b4.mono HB2.out.size))
      clear b4
      go_wp2
      go_ret
      exact ⟨rfl, HB4.out⟩
end Go.Proofs.YtnnnljfdjdehaaaDoor

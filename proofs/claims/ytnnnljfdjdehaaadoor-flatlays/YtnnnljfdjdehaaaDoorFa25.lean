/- FlatLays. -/
import Derived.Test.YtnnnljfdjdehaaaDoorFa21
import Derived.Test.YtnnnljfdjdehaaaDoorFa24
namespace Go.Proofs.YtnnnljfdjdehaaaDoor
set_option linter.unusedSimpArgs false
set_option linter.unusedVariables false
open Go.RowKit Go.Sort

theorem small_lift (S : SysD) (l : List Int) : WSmall (liftR S l) := by
  unfold liftR
  split
  · cases e : liftD S l with
    | none => exact small_nil
    | some D => exact small_chk (row_liftD e).2
  · exact small_nil
theorem chkW_of {S : SysD} {D : WldD} (h : chkS S ≠ 0) : chkW S D = chkS S := if_pos h
set_option maxRecDepth 100000 in
set_option maxHeartbeats 8000000 in
theorem flatLays_any (S : SysD) (hok : S.ok) (D : WldD) (l : List Int) (vp vc vs uc ul u : Value) (w : World) (he : Env w) (hS : Sys w vp vc vs S) (hW : Wld w uc ul D) (hl : Sl w 1 u l.length (ints l)) :
    Calls Tryd.prog 3 #[.agg #[vp, vc, vs], .agg #[.int .i64 D.tick, uc, ul], u] w fun e w' => e = .returned (.bool true) ∧ Below w.heap.size w w' := by
  obtain ⟨pa, pc, rfl⟩ := hS.p.form
  obtain ⟨ka, kc, rfl⟩ := hS.c.form
  obtain ⟨sa, sc, rfl⟩ := hS.s.form
  obtain ⟨ua, uc, rfl⟩ := hW.c.form
  obtain ⟨la, lc, rfl⟩ := hW.l.form
  obtain ⟨na, nc, rfl⟩ := hl.form
  obtain ⟨v2, hv2⟩ : ∃ v2, liftW S l = v2 := ⟨_, rfl⟩
  obtain ⟨D2, hD2⟩ : ∃ D2, liftR S l = D2 := ⟨_, rfl⟩
  obtain ⟨c0, hc0⟩ : ∃ c0, chkW S D = c0 := ⟨_, rfl⟩
  obtain ⟨s9, hs9⟩ : ∃ s9, chkS S = s9 := ⟨_, rfl⟩
  have HLI := Lib.hid fun w he hS hl => flatLift_any S l (.slice pa S.parts.length pc) (.slice ka S.chans.length kc) (.slice sa S.slots.length sc) (.slice na l.length nc) w he hS hl v2 hv2 D2 hD2
  have HCW := Lib.hid fun w hS hW => checkWorld_any S hok D (.slice pa S.parts.length pc) (.slice ka S.chans.length kc) (.slice sa S.slots.length sc) (.slice ua D.cells.length uc) (.slice la D.lines.length lc) w hS hW c0 hc0
  have HCS := Lib.hid fun w hS => sysRef_any S hok (.slice pa S.parts.length pc) (.slice ka S.chans.length kc) (.slice sa S.slots.length sc) w hS
  rw [hs9] at HCS
  have HOK := Lib.hid hok
  have HS9 := Lib.hid hs9
  have HNO : Hid (s9 = 0 → liftD S l = none → 1 = v2 ∧ wldZ = D2) := Lib.hid fun h hn => ⟨by rw [← hv2]; unfold liftW; rw [if_neg (by rw [hs9, h]; simp), if_pos hn], by rw [← hD2]; unfold liftR; rw [if_pos (hs9.trans h), hn]; rfl⟩
  have HYE : Hid (s9 = 0 → ∀ D3, liftD S l = some D3 → 0 = v2 ∧ D2 = D3) := Lib.hid fun h D3 hn => ⟨by rw [← hv2]; unfold liftW; rw [if_neg (by rw [hs9, h]; simp), if_neg (by rw [hn]; simp)], by rw [← hD2]; unfold liftR; rw [if_pos (hs9.trans h), hn]; rfl⟩
  have HBD : Hid (s9 ≠ 0 → s9 = v2 ∧ wldZ = D2) := Lib.hid fun h => ⟨by rw [← hv2]; unfold liftW; rw [if_pos (by rw [hs9]; exact h), hs9], by rw [← hD2]; unfold liftR; rw [if_neg (by rw [hs9]; exact h)]⟩
  have HSM : Hid (WSmall D2) := Lib.hid (by rw [← hD2]; exact small_lift S l)
  have HC0 := Lib.hid hc0
  have HE := Lib.hid he
  have HS := Lib.hid hS
  have HW := Lib.hid hW
  have HL := Lib.hid hl
  clear he hS hW hl hv2 hD2 hs9 hok hc0
  go_enter Tryd.func3, Tryd.ntmps3
  go_wp2_with fail
  refine (flatLay_any S D _ _ _ _ _ _ (HE.out.up (by repeat (first | exact Below.refl _ _ | assumption | refine Below.drew ?_ | refine Below.alloc ?_ (by first | (simp; done) | (simp; omega)) _ | refine Below.setCell ?_ (by first | (simp; done) | (simp; omega)) _))) (HS.out.up (by repeat (first | exact Below.refl _ _ | assumption | refine Below.drew ?_ | refine Below.alloc ?_ (by first | (simp; done) | (simp; omega)) _ | refine Below.setCell ?_ (by first | (simp; done) | (simp; omega)) _))) (HW.out.up (by repeat (first | exact Below.refl _ _ | assumption | refine Below.drew ?_ | refine Below.alloc ?_ (by first | (simp; done) | (simp; omega)) _ | refine Below.setCell ?_ (by first | (simp; done) | (simp; omega)) _)))).mono ?_
  rw [HC0.out]
  rintro e w1 ⟨v1, rfl, ho, b1⟩
  have z1 := b1.size
  simp at z1
  have R01 : Hid (Rw w1 w.heap.size 26 #[.slice pa S.parts.length pc, .slice ka S.chans.length kc, .slice sa S.slots.length sc]) := Rw.up (by repeat (first | exact Rw.new _ _ _ (by first | rfl | (simp; done) | omega | (simp; omega)) | refine Rw.alloc ?_ _)) b1 (by first | omega | (simp; done) | (simp; omega))
  have R11 : Hid (Rw w1 (w.heap.size + 1) 30 #[.int .i64 D.tick, .slice ua D.cells.length uc, .slice la D.lines.length lc]) := Rw.up (by repeat (first | exact Rw.new _ _ _ (by first | rfl | (simp; done) | omega | (simp; omega)) | refine Rw.alloc ?_ _)) b1 (by first | omega | (simp; done) | (simp; omega))
  have HB1 : Hid (Below w.heap.size w w1) := by
    refine Below.trans ?_ (b1.mono (by first | omega | (simp; done) | (simp; omega)))
    exact (by repeat (first | exact Below.refl _ _ | assumption | refine Below.drew ?_ | refine Below.alloc ?_ (by first | (simp; done) | (simp; omega)) _ | refine Below.setCell ?_ (by first | (simp; done) | (simp; omega)) _))
  obtain ⟨A, hA⟩ : ∃ A, laidF S D = A := ⟨_, rfl⟩
  rw [hA] at ho
  have HA := Lib.hid hA
  obtain ⟨a1, c1, rfl⟩ := own_form ho
  have SA1 := Lib.hid (own_sl ho)
  have R0 := R01
  have R1 := R11
  have s0 := R0.out.cell (j := 0) (v := .slice pa S.parts.length pc) rfl
  have s1 := R0.out.cell (j := 1) (v := .slice ka S.chans.length kc) rfl
  have s2 := R0.out.cell (j := 2) (v := .slice sa S.slots.length sc) rfl
  have t0 := R1.out.cell (j := 0) (v := .int .i64 D.tick) rfl
  have t1 := R1.out.cell (j := 1) (v := .slice ua D.cells.length uc) rfl
  have t2 := R1.out.cell (j := 2) (v := .slice la D.lines.length lc) rfl
  clear b1 ho hA R0 R1
  go_wp2_with fail
  refine (HCW.out _ (HS.out.up HB1.out) (HW.out.up HB1.out)).mono ?_
  rintro e w2 ⟨rfl, b2⟩
  have z2 := b2.size
  have R0 := Lib.hid (R01.out.up b2 R01.out.lt)
  have R1 := Lib.hid (R11.out.up b2 R11.out.lt)
  have SA2 := Lib.hid (SA1.out.up b2)
  have HB2 := Lib.hid (HB1.out.trans (b2.mono HB1.out.size))
  clear b2 R01 R11 SA1 HB1 s0 s1 s2 t0 t1 t2
  by_cases h0 : c0 = 0
  · subst h0
    have HAE : Hid (rowF D = A) := Lib.hid (by rw [← HA.out]; exact (if_pos HC0.out).symm)
    have HRO := Lib.hid fun w hW => rowOf_any D (chkW_small HC0.out) (.slice ua D.cells.length uc) (.slice la D.lines.length lc) w hW
    have hal : A.length ≤ 1000 := by
      have h2 := rowF_len (chkW_small HC0.out)
      have h3 := (chkW_small HC0.out).cells
      have h4 := (chkW_small HC0.out).lines
      rw [HAE.out] at h2
      omega
    rw [HAE.out] at HRO
    have t0 := R1.out.cell (j := 0) (v := .int .i64 D.tick) rfl
    have t1 := R1.out.cell (j := 1) (v := .slice ua D.cells.length uc) rfl
    have t2 := R1.out.cell (j := 2) (v := .slice la D.lines.length lc) rfl
    go_wp2_with fail
    refine (HRO.out _ (HW.out.up HB2.out)).mono ?_
    rintro e w3 ⟨v3, rfl, ho3, b3⟩
    obtain ⟨a3, c3, rfl⟩ := own_form ho3
    have SB := Lib.hid (own_sl ho3)
    have SA := Lib.hid (SA2.out.up b3)
    have R03 := Lib.hid (R0.out.up b3 R0.out.lt)
    have HB := Lib.hid (HB2.out.trans (b3.mono HB2.out.size))
    clear b3 ho3 SA2 HB2 R0 R1 HRO t0 t1 t2 HCW
    have R0 := R03
    clear R03
    have s0 := R0.out.cell (j := 0) (v := .slice pa S.parts.length pc) rfl
    have s1 := R0.out.cell (j := 1) (v := .slice ka S.chans.length kc) rfl
    have s2 := R0.out.cell (j := 2) (v := .slice sa S.slots.length sc) rfl
    go_wp2_with fail
    refine (HLI.out _ (HE.out.up HB.out) (HS.out.up HB.out) (HL.out.up HB.out)).mono ?_
    rintro e x4 ⟨yc, yl, rfl, hN1, b1⟩
    obtain ⟨ya, yb, rfl⟩ := hN1.wld.c.form
    obtain ⟨ea, ec, rfl⟩ := hN1.wld.l.form
    have HN1 := Lib.hid hN1
    have R01 := Lib.hid (R0.out.up b1 R0.out.lt)
    have SA1 := Lib.hid (SA.out.up b1)
    have SB1 := Lib.hid (SB.out.up b1)
    have HB1 := Lib.hid (HB.out.trans (b1.mono HB.out.size))
    clear hN1 b1 s0 s1 s2 R0 HB SA SB
    go_wp2_with (refine wpList_store_rowW rfl 30 (.tmp 11) (.tmp 33) rfl x4.heap.size #[.int .i64 D2.tick, .slice ya D2.cells.length yb, .slice ea D2.lines.length ec] rfl rfl 30 #[.int .i64 0, .slice none 0 0, .slice none 0 0] (by repeat (first | exact Rw.new _ _ _ (by first | rfl | (simp; done) | omega | (simp; omega)) | refine Rw.alloc ?_ _)) sizeWld rfl (by simp [Value.oneCell']) ?_)
    intro X5 HX5
    have b2 : Below x4.heap.size x4 X5 := by rw [HX5.out]; exact below_row ((Below.refl _ _).alloc (Nat.le_refl _) _) (Nat.le_refl _) _
    have RX : Hid (Rw X5 x4.heap.size 30 #[.int .i64 D2.tick, .slice ya D2.cells.length yb, .slice ea D2.lines.length ec]) := by
      show Rw _ _ _ _
      rw [HX5.out]
      exact Rw.row (cs := #[.int .i64 0, .slice none 0 0, .slice none 0 0]) (by repeat (first | exact Rw.new _ _ _ (by first | rfl | (simp; done) | omega | (simp; omega)) | refine Rw.alloc ?_ _)) _
    have NX : Hid (Wld X5 (.slice ya D2.cells.length yb) (.slice ea D2.lines.length ec) D2) := by
      show Wld _ _ _ _
      rw [HX5.out]
      exact (HN1.out.fresh _ _).wld
    have R0 := Lib.hid (R01.out.up b2 R01.out.lt)
    have SA := Lib.hid (SA1.out.up b2)
    have SB := Lib.hid (SB1.out.up b2)
    have HB := Lib.hid (HB1.out.trans (b2.mono HB1.out.size))
    clear HX5 b2 HN1 R01 HB1 SA1 SB1
    have s0 := R0.out.cell (j := 0) (v := .slice pa S.parts.length pc) rfl
    have s1 := R0.out.cell (j := 1) (v := .slice ka S.chans.length kc) rfl
    have s2 := R0.out.cell (j := 2) (v := .slice sa S.slots.length sc) rfl
    go_wp2_with fail
    refine (HCS.out _ (HS.out.up HB.out)).mono ?_
    rintro e x6 ⟨rfl, b3⟩
    have R06 := Lib.hid (R0.out.up b3 R0.out.lt)
    have SA6 := Lib.hid (SA.out.up b3)
    have SB6 := Lib.hid (SB.out.up b3)
    have RX6 := Lib.hid (RX.out.up b3 RX.out.lt)
    have NX6 := Lib.hid (NX.out.up b3)
    have HB6 := Lib.hid (HB.out.trans (b3.mono HB.out.size))
    clear b3 s0 s1 s2 R0 HB SA SB RX NX
    go_upto_region 9 with fail
    generalize hX7 : World.alloc _ _ = X7
    have b7 : Below x6.heap.size x6 X7 := by rw [← hX7]; exact (Below.refl _ _).alloc (Nat.le_refl _) _
    have RY : Hid (Rw X7 x6.heap.size 30 #[.int .i64 0, .slice none 0 0, .slice none 0 0]) := by
      show Rw _ _ _ _
      rw [← hX7]
      exact Rw.new _ _ _ rfl
    have B7 := Lib.hid b7
    have HB7 := Lib.hid (HB6.out.trans (b7.mono HB6.out.size))
    have R0 := Lib.hid (R06.out.up b7 R06.out.lt)
    have hxy : x4.heap.size < x6.heap.size := RX6.out.lt
    have hwx : w.heap.size < x6.heap.size := R06.out.lt
    clear hX7 b7
    by_cases hs : s9 = 0
    · subst hs
      have HNO1 := Lib.hid (HNO.out rfl)
      have HYE1 := Lib.hid (HYE.out rfl)
      clear HBD HNO HYE
      have s0 := R0.out.cell (j := 0) (v := .slice pa S.parts.length pc) rfl
      have s1 := R0.out.cell (j := 1) (v := .slice ka S.chans.length kc) rfl
      have s2 := R0.out.cell (j := 2) (v := .slice sa S.slots.length sc) rfl
      go_wp2_with fail
      refine (worldFrom_any S HOK.out HS9.out l _ _ _ _ _ (HS.out.up HB7.out) (HL.out.up HB7.out)).mono ?_
      rintro e x8 (⟨hn, rfl, b8⟩ | ⟨D3, hn, zc, zl, rfl, hN8, b8⟩)
      · obtain ⟨e1, e2⟩ := HNO1.out hn
        subst e1
        subst e2
        have RY8 := Lib.hid (RY.out.up b8 RY.out.lt)
        have B8 := Lib.hid (B7.out.trans (b8.mono B7.out.size))
        clear b8 s0 s1 s2 R0 RY hn
        go_wp2_with (refine wpList_store_rowW rfl 30 (.tmp 14) (.tmp 43) rfl x6.heap.size #[.int .i64 0, .slice none 0 0, .slice none 0 0] rfl rfl 30 _ RY8.out sizeWld rfl (by simp [Value.oneCell']) ?_)
        intro X9 HX9
        have BX : Hid (Below x6.heap.size x6 X9) := Lib.hid (by rw [HX9.out]; exact below_row B8.out (Nat.le_refl _) _)
        have RY : Hid (Rw X9 x6.heap.size 30 #[.int .i64 0, .slice none 0 0, .slice none 0 0]) := by
          show Rw _ _ _ _
          rw [HX9.out]
          exact RY8.out.row _
        have NY : Hid (Wld X9 (.slice none 0 0) (.slice none 0 0) wldZ) := Lib.hid (WldF.nil 0 _).wld
        clear HX9 RY8 B8
        have hvv : ((1 : Int) == 1) = true := by simp
        have hcc : ((0 : Int) == (0 : Int)) = true := by simp
        have SA := Lib.hid (SA6.out.up BX.out)
        have SB := Lib.hid (SB6.out.up BX.out)
        have RX := Lib.hid (RX6.out.up BX.out RX6.out.lt)
        have NX := Lib.hid (NX6.out.up BX.out)
        have HB := Lib.hid (HB6.out.trans (BX.out.mono HB6.out.size))
        clear SA6 SB6 RX6 NX6 HB6 BX B7 HB7
        go_wp2_with fail
        refine (flatBegun_any _ (HE.out.up HB.out)).mono ?_
        rintro e f1 ⟨rfl, b1⟩
        have SA1 := Lib.hid (SA.out.up b1)
        have SB1 := Lib.hid (SB.out.up b1)
        have RX1 := Lib.hid (RX.out.up b1 RX.out.lt)
        have RY1 := Lib.hid (RY.out.up b1 RY.out.lt)
        have NX1 := Lib.hid (NX.out.up b1)
        have NY1 := Lib.hid (NY.out.up b1)
        have HB1 := Lib.hid (HB.out.trans (b1.mono HB.out.size))
        clear b1 SA SB RX RY NX NY HB
        go_wp2_with fail
        refine (sameInts_any A A _ _ _ SA1.out SB1.out (by omega) true (by simp)).mono ?_
        rintro e f2 ⟨rfl, b2⟩
        have RX2 := RX1.out.up b2 RX1.out.lt
        have RY2 := RY1.out.up b2 RY1.out.lt
        have NX2 := Lib.hid (NX1.out.up b2)
        have NY2 := Lib.hid (NY1.out.up b2)
        have HB2 := Lib.hid (HB1.out.trans (b2.mono HB1.out.size))
        have q0 := RX2.cell (j := 0) (v := .int .i64 (WldD.tick wldZ)) rfl
        have q1 := RX2.cell (j := 1) (v := .slice ya (WldD.cells wldZ).length yb) rfl
        have q2 := RX2.cell (j := 2) (v := .slice ea (WldD.lines wldZ).length ec) rfl
        have r0 := RY2.cell (j := 0) (v := .int .i64 (WldD.tick wldZ)) rfl
        have r1 := RY2.cell (j := 1) (v := .slice none 0 0) rfl
        have r2 := RY2.cell (j := 2) (v := .slice none 0 0) rfl
        clear b2 SA1 SB1 RX1 RY1 NX1 NY1 HB1 RX2 RY2
        go_wp2_with fail
        refine (sameWorlds_yes wldZ HSM.out _ _ _ _ _ NX2.out NY2.out).mono ?_
        rintro e f3 ⟨rfl, b3⟩
        have HB3 := Lib.hid (HB2.out.trans (b3.mono HB2.out.size))
        clear b3 q0 q1 q2 r0 r1 r2
        go_wp2
        go_ret
        exact ⟨rfl, HB3.out⟩

      · obtain ⟨e1, e2⟩ := HYE1.out D3 hn
        subst e1
        subst e2
        obtain ⟨za, zb, rfl⟩ := hN8.wld.c.form
        obtain ⟨ga, gc, rfl⟩ := hN8.wld.l.form
        have RY8 := Lib.hid (RY.out.up b8 RY.out.lt)
        have B8 := Lib.hid (B7.out.trans (b8.mono B7.out.size))
        have N8 := Lib.hid hN8
        have hx7 : x6.heap.size < X7.heap.size := RY.out.lt
        clear b8 s0 s1 s2 R0 RY hn hN8
        go_wp2_with (refine wpList_store_rowW rfl 30 (.tmp 14) (.tmp 43) rfl x6.heap.size #[.int .i64 D2.tick, .slice za D2.cells.length zb, .slice ga D2.lines.length gc] rfl rfl 30 _ RY8.out sizeWld rfl (by simp [Value.oneCell']) ?_)
        intro X9 HX9
        have BX : Hid (Below x6.heap.size x6 X9) := Lib.hid (by rw [HX9.out]; exact below_row B8.out (Nat.le_refl _) _)
        have RY : Hid (Rw X9 x6.heap.size 30 #[.int .i64 D2.tick, .slice za D2.cells.length zb, .slice ga D2.lines.length gc]) := by
          show Rw _ _ _ _
          rw [HX9.out]
          exact RY8.out.row _
        have NY : Hid (Wld X9 (.slice za D2.cells.length zb) (.slice ga D2.lines.length gc) D2) := by
          show Wld _ _ _ _
          rw [HX9.out]
          exact (N8.out.row hx7 _).wld
        clear HX9 RY8 B8 N8
        have hvv : ((0 : Int) == 0) = true := by simp
        have hcc : ((0 : Int) == (0 : Int)) = true := by simp
        have SA := Lib.hid (SA6.out.up BX.out)
        have SB := Lib.hid (SB6.out.up BX.out)
        have RX := Lib.hid (RX6.out.up BX.out RX6.out.lt)
        have NX := Lib.hid (NX6.out.up BX.out)
        have HB := Lib.hid (HB6.out.trans (BX.out.mono HB6.out.size))
        clear SA6 SB6 RX6 NX6 HB6 BX B7 HB7
        go_wp2_with fail
        refine (flatBegun_any _ (HE.out.up HB.out)).mono ?_
        rintro e f1 ⟨rfl, b1⟩
        have SA1 := Lib.hid (SA.out.up b1)
        have SB1 := Lib.hid (SB.out.up b1)
        have RX1 := Lib.hid (RX.out.up b1 RX.out.lt)
        have RY1 := Lib.hid (RY.out.up b1 RY.out.lt)
        have NX1 := Lib.hid (NX.out.up b1)
        have NY1 := Lib.hid (NY.out.up b1)
        have HB1 := Lib.hid (HB.out.trans (b1.mono HB.out.size))
        clear b1 SA SB RX RY NX NY HB
        go_wp2_with fail
        refine (sameInts_any A A _ _ _ SA1.out SB1.out (by omega) true (by simp)).mono ?_
        rintro e f2 ⟨rfl, b2⟩
        have RX2 := RX1.out.up b2 RX1.out.lt
        have RY2 := RY1.out.up b2 RY1.out.lt
        have NX2 := Lib.hid (NX1.out.up b2)
        have NY2 := Lib.hid (NY1.out.up b2)
        have HB2 := Lib.hid (HB1.out.trans (b2.mono HB1.out.size))
        have q0 := RX2.cell (j := 0) (v := .int .i64 (WldD.tick D2)) rfl
        have q1 := RX2.cell (j := 1) (v := .slice ya (WldD.cells D2).length yb) rfl
        have q2 := RX2.cell (j := 2) (v := .slice ea (WldD.lines D2).length ec) rfl
        have r0 := RY2.cell (j := 0) (v := .int .i64 (WldD.tick D2)) rfl
        have r1 := RY2.cell (j := 1) (v := .slice za D2.cells.length zb) rfl
        have r2 := RY2.cell (j := 2) (v := .slice ga D2.lines.length gc) rfl
        clear b2 SA1 SB1 RX1 RY1 NX1 NY1 HB1 RX2 RY2
        go_wp2_with fail
        refine (sameWorlds_yes D2 HSM.out _ _ _ _ _ NX2.out NY2.out).mono ?_
        rintro e f3 ⟨rfl, b3⟩
        have HB3 := Lib.hid (HB2.out.trans (b3.mono HB2.out.size))
        clear b3 q0 q1 q2 r0 r1 r2
        go_wp2
        go_ret
        exact ⟨rfl, HB3.out⟩

    · have hsb : (s9 == 0) = false := by simpa using hs
      obtain ⟨e1, e2⟩ := HBD.out hs
      subst e1
      subst e2
      have BX := B7
      have NY : Hid (Wld X7 (.slice none 0 0) (.slice none 0 0) wldZ) := Lib.hid (WldF.nil 0 _).wld
      clear hs R0
      have hvv : ((s9 : Int) == s9) = true := by simp
      have hcc : ((0 : Int) == (0 : Int)) = true := by simp
      have SA := Lib.hid (SA6.out.up BX.out)
      have SB := Lib.hid (SB6.out.up BX.out)
      have RX := Lib.hid (RX6.out.up BX.out RX6.out.lt)
      have NX := Lib.hid (NX6.out.up BX.out)
      have HB := Lib.hid (HB6.out.trans (BX.out.mono HB6.out.size))
      clear SA6 SB6 RX6 NX6 HB6 BX B7 HB7
      go_wp2_with fail
      refine (flatBegun_any _ (HE.out.up HB.out)).mono ?_
      rintro e f1 ⟨rfl, b1⟩
      have SA1 := Lib.hid (SA.out.up b1)
      have SB1 := Lib.hid (SB.out.up b1)
      have RX1 := Lib.hid (RX.out.up b1 RX.out.lt)
      have RY1 := Lib.hid (RY.out.up b1 RY.out.lt)
      have NX1 := Lib.hid (NX.out.up b1)
      have NY1 := Lib.hid (NY.out.up b1)
      have HB1 := Lib.hid (HB.out.trans (b1.mono HB.out.size))
      clear b1 SA SB RX RY NX NY HB
      go_wp2_with fail
      refine (sameInts_any A A _ _ _ SA1.out SB1.out (by omega) true (by simp)).mono ?_
      rintro e f2 ⟨rfl, b2⟩
      have RX2 := RX1.out.up b2 RX1.out.lt
      have RY2 := RY1.out.up b2 RY1.out.lt
      have NX2 := Lib.hid (NX1.out.up b2)
      have NY2 := Lib.hid (NY1.out.up b2)
      have HB2 := Lib.hid (HB1.out.trans (b2.mono HB1.out.size))
      have q0 := RX2.cell (j := 0) (v := .int .i64 (WldD.tick wldZ)) rfl
      have q1 := RX2.cell (j := 1) (v := .slice ya (WldD.cells wldZ).length yb) rfl
      have q2 := RX2.cell (j := 2) (v := .slice ea (WldD.lines wldZ).length ec) rfl
      have r0 := RY2.cell (j := 0) (v := .int .i64 (WldD.tick wldZ)) rfl
      have r1 := RY2.cell (j := 1) (v := .slice none 0 0) rfl
      have r2 := RY2.cell (j := 2) (v := .slice none 0 0) rfl
      clear b2 SA1 SB1 RX1 RY1 NX1 NY1 HB1 RX2 RY2
      go_wp2_with fail
      refine (sameWorlds_yes wldZ HSM.out _ _ _ _ _ NX2.out NY2.out).mono ?_
      rintro e f3 ⟨rfl, b3⟩
      have HB3 := Lib.hid (HB2.out.trans (b3.mono HB2.out.size))
      clear b3 q0 q1 q2 r0 r1 r2
      go_wp2
      go_ret
      exact ⟨rfl, HB3.out⟩
  · have h0b : (c0 == 0) = false := by simpa using h0
    have hae : A = [] := by rw [← HA.out]; exact if_neg (by rw [HC0.out]; exact h0)
    have hal : A.length ≤ 1000 := by rw [hae]; simp
    have SB : Hid (Sl w2 1 (.slice none 0 0) A.length (ints A)) := Lib.hid (by rw [hae]; exact Sl.nil _ _)
    have SA := SA2
    have HB := HB2
    clear h0 hae SA2 HB2 R1 HCW
    have s0 := R0.out.cell (j := 0) (v := .slice pa S.parts.length pc) rfl
    have s1 := R0.out.cell (j := 1) (v := .slice ka S.chans.length kc) rfl
    have s2 := R0.out.cell (j := 2) (v := .slice sa S.slots.length sc) rfl
    go_wp2_with fail
    refine (HLI.out _ (HE.out.up HB.out) (HS.out.up HB.out) (HL.out.up HB.out)).mono ?_
    rintro e x4 ⟨yc, yl, rfl, hN1, b1⟩
    obtain ⟨ya, yb, rfl⟩ := hN1.wld.c.form
    obtain ⟨ea, ec, rfl⟩ := hN1.wld.l.form
    have HN1 := Lib.hid hN1
    have R01 := Lib.hid (R0.out.up b1 R0.out.lt)
    have SA1 := Lib.hid (SA.out.up b1)
    have SB1 := Lib.hid (SB.out.up b1)
    have HB1 := Lib.hid (HB.out.trans (b1.mono HB.out.size))
    clear hN1 b1 s0 s1 s2 R0 HB SA SB
    go_wp2_with (refine wpList_store_rowW rfl 30 (.tmp 11) (.tmp 33) rfl x4.heap.size #[.int .i64 D2.tick, .slice ya D2.cells.length yb, .slice ea D2.lines.length ec] rfl rfl 30 #[.int .i64 0, .slice none 0 0, .slice none 0 0] (by repeat (first | exact Rw.new _ _ _ (by first | rfl | (simp; done) | omega | (simp; omega)) | refine Rw.alloc ?_ _)) sizeWld rfl (by simp [Value.oneCell']) ?_)
    intro X5 HX5
    have b2 : Below x4.heap.size x4 X5 := by rw [HX5.out]; exact below_row ((Below.refl _ _).alloc (Nat.le_refl _) _) (Nat.le_refl _) _
    have RX : Hid (Rw X5 x4.heap.size 30 #[.int .i64 D2.tick, .slice ya D2.cells.length yb, .slice ea D2.lines.length ec]) := by
      show Rw _ _ _ _
      rw [HX5.out]
      exact Rw.row (cs := #[.int .i64 0, .slice none 0 0, .slice none 0 0]) (by repeat (first | exact Rw.new _ _ _ (by first | rfl | (simp; done) | omega | (simp; omega)) | refine Rw.alloc ?_ _)) _
    have NX : Hid (Wld X5 (.slice ya D2.cells.length yb) (.slice ea D2.lines.length ec) D2) := by
      show Wld _ _ _ _
      rw [HX5.out]
      exact (HN1.out.fresh _ _).wld
    have R0 := Lib.hid (R01.out.up b2 R01.out.lt)
    have SA := Lib.hid (SA1.out.up b2)
    have SB := Lib.hid (SB1.out.up b2)
    have HB := Lib.hid (HB1.out.trans (b2.mono HB1.out.size))
    clear HX5 b2 HN1 R01 HB1 SA1 SB1
    have s0 := R0.out.cell (j := 0) (v := .slice pa S.parts.length pc) rfl
    have s1 := R0.out.cell (j := 1) (v := .slice ka S.chans.length kc) rfl
    have s2 := R0.out.cell (j := 2) (v := .slice sa S.slots.length sc) rfl
    go_wp2_with fail
    refine (HCS.out _ (HS.out.up HB.out)).mono ?_
    rintro e x6 ⟨rfl, b3⟩
    have R06 := Lib.hid (R0.out.up b3 R0.out.lt)
    have SA6 := Lib.hid (SA.out.up b3)
    have SB6 := Lib.hid (SB.out.up b3)
    have RX6 := Lib.hid (RX.out.up b3 RX.out.lt)
    have NX6 := Lib.hid (NX.out.up b3)
    have HB6 := Lib.hid (HB.out.trans (b3.mono HB.out.size))
    clear b3 s0 s1 s2 R0 HB SA SB RX NX
    go_upto_region 9 with fail
    generalize hX7 : World.alloc _ _ = X7
    have b7 : Below x6.heap.size x6 X7 := by rw [← hX7]; exact (Below.refl _ _).alloc (Nat.le_refl _) _
    have RY : Hid (Rw X7 x6.heap.size 30 #[.int .i64 0, .slice none 0 0, .slice none 0 0]) := by
      show Rw _ _ _ _
      rw [← hX7]
      exact Rw.new _ _ _ rfl
    have B7 := Lib.hid b7
    have HB7 := Lib.hid (HB6.out.trans (b7.mono HB6.out.size))
    have R0 := Lib.hid (R06.out.up b7 R06.out.lt)
    have hxy : x4.heap.size < x6.heap.size := RX6.out.lt
    have hwx : w.heap.size < x6.heap.size := R06.out.lt
    clear hX7 b7
    by_cases hs : s9 = 0
    · subst hs
      have HNO1 := Lib.hid (HNO.out rfl)
      have HYE1 := Lib.hid (HYE.out rfl)
      clear HBD HNO HYE
      have s0 := R0.out.cell (j := 0) (v := .slice pa S.parts.length pc) rfl
      have s1 := R0.out.cell (j := 1) (v := .slice ka S.chans.length kc) rfl
      have s2 := R0.out.cell (j := 2) (v := .slice sa S.slots.length sc) rfl
      go_wp2_with fail
      refine (worldFrom_any S HOK.out HS9.out l _ _ _ _ _ (HS.out.up HB7.out) (HL.out.up HB7.out)).mono ?_
      rintro e x8 (⟨hn, rfl, b8⟩ | ⟨D3, hn, zc, zl, rfl, hN8, b8⟩)
      · obtain ⟨e1, e2⟩ := HNO1.out hn
        subst e1
        subst e2
        have RY8 := Lib.hid (RY.out.up b8 RY.out.lt)
        have B8 := Lib.hid (B7.out.trans (b8.mono B7.out.size))
        clear b8 s0 s1 s2 R0 RY hn
        go_wp2_with (refine wpList_store_rowW rfl 30 (.tmp 14) (.tmp 43) rfl x6.heap.size #[.int .i64 0, .slice none 0 0, .slice none 0 0] rfl rfl 30 _ RY8.out sizeWld rfl (by simp [Value.oneCell']) ?_)
        intro X9 HX9
        have BX : Hid (Below x6.heap.size x6 X9) := Lib.hid (by rw [HX9.out]; exact below_row B8.out (Nat.le_refl _) _)
        have RY : Hid (Rw X9 x6.heap.size 30 #[.int .i64 0, .slice none 0 0, .slice none 0 0]) := by
          show Rw _ _ _ _
          rw [HX9.out]
          exact RY8.out.row _
        have NY : Hid (Wld X9 (.slice none 0 0) (.slice none 0 0) wldZ) := Lib.hid (WldF.nil 0 _).wld
        clear HX9 RY8 B8
        have hvv : ((1 : Int) == 1) = true := by simp
        have hcc : (c0 == c0) = true := by simp
        have SA := Lib.hid (SA6.out.up BX.out)
        have SB := Lib.hid (SB6.out.up BX.out)
        have RX := Lib.hid (RX6.out.up BX.out RX6.out.lt)
        have NX := Lib.hid (NX6.out.up BX.out)
        have HB := Lib.hid (HB6.out.trans (BX.out.mono HB6.out.size))
        clear SA6 SB6 RX6 NX6 HB6 BX B7 HB7
        go_wp2_with fail
        refine (flatBegun_any _ (HE.out.up HB.out)).mono ?_
        rintro e f1 ⟨rfl, b1⟩
        have SA1 := Lib.hid (SA.out.up b1)
        have SB1 := Lib.hid (SB.out.up b1)
        have RX1 := Lib.hid (RX.out.up b1 RX.out.lt)
        have RY1 := Lib.hid (RY.out.up b1 RY.out.lt)
        have NX1 := Lib.hid (NX.out.up b1)
        have NY1 := Lib.hid (NY.out.up b1)
        have HB1 := Lib.hid (HB.out.trans (b1.mono HB.out.size))
        clear b1 SA SB RX RY NX NY HB
        go_wp2_with fail
        refine (sameInts_any A A _ _ _ SA1.out SB1.out (by omega) true (by simp)).mono ?_
        rintro e f2 ⟨rfl, b2⟩
        have RX2 := RX1.out.up b2 RX1.out.lt
        have RY2 := RY1.out.up b2 RY1.out.lt
        have NX2 := Lib.hid (NX1.out.up b2)
        have NY2 := Lib.hid (NY1.out.up b2)
        have HB2 := Lib.hid (HB1.out.trans (b2.mono HB1.out.size))
        have q0 := RX2.cell (j := 0) (v := .int .i64 (WldD.tick wldZ)) rfl
        have q1 := RX2.cell (j := 1) (v := .slice ya (WldD.cells wldZ).length yb) rfl
        have q2 := RX2.cell (j := 2) (v := .slice ea (WldD.lines wldZ).length ec) rfl
        have r0 := RY2.cell (j := 0) (v := .int .i64 (WldD.tick wldZ)) rfl
        have r1 := RY2.cell (j := 1) (v := .slice none 0 0) rfl
        have r2 := RY2.cell (j := 2) (v := .slice none 0 0) rfl
        clear b2 SA1 SB1 RX1 RY1 NX1 NY1 HB1 RX2 RY2
        go_wp2_with fail
        refine (sameWorlds_yes wldZ HSM.out _ _ _ _ _ NX2.out NY2.out).mono ?_
        rintro e f3 ⟨rfl, b3⟩
        have HB3 := Lib.hid (HB2.out.trans (b3.mono HB2.out.size))
        clear b3 q0 q1 q2 r0 r1 r2
        go_wp2
        go_ret
        exact ⟨rfl, HB3.out⟩

      · obtain ⟨e1, e2⟩ := HYE1.out D3 hn
        subst e1
        subst e2
        obtain ⟨za, zb, rfl⟩ := hN8.wld.c.form
        obtain ⟨ga, gc, rfl⟩ := hN8.wld.l.form
        have RY8 := Lib.hid (RY.out.up b8 RY.out.lt)
        have B8 := Lib.hid (B7.out.trans (b8.mono B7.out.size))
        have N8 := Lib.hid hN8
        have hx7 : x6.heap.size < X7.heap.size := RY.out.lt
        clear b8 s0 s1 s2 R0 RY hn hN8
        go_wp2_with (refine wpList_store_rowW rfl 30 (.tmp 14) (.tmp 43) rfl x6.heap.size #[.int .i64 D2.tick, .slice za D2.cells.length zb, .slice ga D2.lines.length gc] rfl rfl 30 _ RY8.out sizeWld rfl (by simp [Value.oneCell']) ?_)
        intro X9 HX9
        have BX : Hid (Below x6.heap.size x6 X9) := Lib.hid (by rw [HX9.out]; exact below_row B8.out (Nat.le_refl _) _)
        have RY : Hid (Rw X9 x6.heap.size 30 #[.int .i64 D2.tick, .slice za D2.cells.length zb, .slice ga D2.lines.length gc]) := by
          show Rw _ _ _ _
          rw [HX9.out]
          exact RY8.out.row _
        have NY : Hid (Wld X9 (.slice za D2.cells.length zb) (.slice ga D2.lines.length gc) D2) := by
          show Wld _ _ _ _
          rw [HX9.out]
          exact (N8.out.row hx7 _).wld
        clear HX9 RY8 B8 N8
        have hvv : ((0 : Int) == 0) = true := by simp
        have hcc : (c0 == c0) = true := by simp
        have SA := Lib.hid (SA6.out.up BX.out)
        have SB := Lib.hid (SB6.out.up BX.out)
        have RX := Lib.hid (RX6.out.up BX.out RX6.out.lt)
        have NX := Lib.hid (NX6.out.up BX.out)
        have HB := Lib.hid (HB6.out.trans (BX.out.mono HB6.out.size))
        clear SA6 SB6 RX6 NX6 HB6 BX B7 HB7
        go_wp2_with fail
        refine (flatBegun_any _ (HE.out.up HB.out)).mono ?_
        rintro e f1 ⟨rfl, b1⟩
        have SA1 := Lib.hid (SA.out.up b1)
        have SB1 := Lib.hid (SB.out.up b1)
        have RX1 := Lib.hid (RX.out.up b1 RX.out.lt)
        have RY1 := Lib.hid (RY.out.up b1 RY.out.lt)
        have NX1 := Lib.hid (NX.out.up b1)
        have NY1 := Lib.hid (NY.out.up b1)
        have HB1 := Lib.hid (HB.out.trans (b1.mono HB.out.size))
        clear b1 SA SB RX RY NX NY HB
        go_wp2_with fail
        refine (sameInts_any A A _ _ _ SA1.out SB1.out (by omega) true (by simp)).mono ?_
        rintro e f2 ⟨rfl, b2⟩
        have RX2 := RX1.out.up b2 RX1.out.lt
        have RY2 := RY1.out.up b2 RY1.out.lt
        have NX2 := Lib.hid (NX1.out.up b2)
        have NY2 := Lib.hid (NY1.out.up b2)
        have HB2 := Lib.hid (HB1.out.trans (b2.mono HB1.out.size))
        have q0 := RX2.cell (j := 0) (v := .int .i64 (WldD.tick D2)) rfl
        have q1 := RX2.cell (j := 1) (v := .slice ya (WldD.cells D2).length yb) rfl
        have q2 := RX2.cell (j := 2) (v := .slice ea (WldD.lines D2).length ec) rfl
        have r0 := RY2.cell (j := 0) (v := .int .i64 (WldD.tick D2)) rfl
        have r1 := RY2.cell (j := 1) (v := .slice za D2.cells.length zb) rfl
        have r2 := RY2.cell (j := 2) (v := .slice ga D2.lines.length gc) rfl
        clear b2 SA1 SB1 RX1 RY1 NX1 NY1 HB1 RX2 RY2
        go_wp2_with fail
        refine (sameWorlds_yes D2 HSM.out _ _ _ _ _ NX2.out NY2.out).mono ?_
        rintro e f3 ⟨rfl, b3⟩
        have HB3 := Lib.hid (HB2.out.trans (b3.mono HB2.out.size))
        clear b3 q0 q1 q2 r0 r1 r2
        go_wp2
        go_ret
        exact ⟨rfl, HB3.out⟩

    · have hsb : (s9 == 0) = false := by simpa using hs
      obtain ⟨e1, e2⟩ := HBD.out hs
      subst e1
      subst e2
      have BX := B7
      have NY : Hid (Wld X7 (.slice none 0 0) (.slice none 0 0) wldZ) := Lib.hid (WldF.nil 0 _).wld
      clear hs R0
      have hvv : ((s9 : Int) == s9) = true := by simp
      have hcc : (c0 == c0) = true := by simp
      have SA := Lib.hid (SA6.out.up BX.out)
      have SB := Lib.hid (SB6.out.up BX.out)
      have RX := Lib.hid (RX6.out.up BX.out RX6.out.lt)
      have NX := Lib.hid (NX6.out.up BX.out)
      have HB := Lib.hid (HB6.out.trans (BX.out.mono HB6.out.size))
      clear SA6 SB6 RX6 NX6 HB6 BX B7 HB7
      go_wp2_with fail
      refine (flatBegun_any _ (HE.out.up HB.out)).mono ?_
      rintro e f1 ⟨rfl, b1⟩
      have SA1 := Lib.hid (SA.out.up b1)
      have SB1 := Lib.hid (SB.out.up b1)
      have RX1 := Lib.hid (RX.out.up b1 RX.out.lt)
      have RY1 := Lib.hid (RY.out.up b1 RY.out.lt)
      have NX1 := Lib.hid (NX.out.up b1)
      have NY1 := Lib.hid (NY.out.up b1)
      have HB1 := Lib.hid (HB.out.trans (b1.mono HB.out.size))
      clear b1 SA SB RX RY NX NY HB
      go_wp2_with fail
      refine (sameInts_any A A _ _ _ SA1.out SB1.out (by omega) true (by simp)).mono ?_
      rintro e f2 ⟨rfl, b2⟩
      have RX2 := RX1.out.up b2 RX1.out.lt
      have RY2 := RY1.out.up b2 RY1.out.lt
      have NX2 := Lib.hid (NX1.out.up b2)
      have NY2 := Lib.hid (NY1.out.up b2)
      have HB2 := Lib.hid (HB1.out.trans (b2.mono HB1.out.size))
      have q0 := RX2.cell (j := 0) (v := .int .i64 (WldD.tick wldZ)) rfl
      have q1 := RX2.cell (j := 1) (v := .slice ya (WldD.cells wldZ).length yb) rfl
      have q2 := RX2.cell (j := 2) (v := .slice ea (WldD.lines wldZ).length ec) rfl
      have r0 := RY2.cell (j := 0) (v := .int .i64 (WldD.tick wldZ)) rfl
      have r1 := RY2.cell (j := 1) (v := .slice none 0 0) rfl
      have r2 := RY2.cell (j := 2) (v := .slice none 0 0) rfl
      clear b2 SA1 SB1 RX1 RY1 NX1 NY1 HB1 RX2 RY2
      go_wp2_with fail
      refine (sameWorlds_yes wldZ HSM.out _ _ _ _ _ NX2.out NY2.out).mono ?_
      rintro e f3 ⟨rfl, b3⟩
      have HB3 := Lib.hid (HB2.out.trans (b3.mono HB2.out.size))
      clear b3 q0 q1 q2 r0 r1 r2
      go_wp2
      go_ret
      exact ⟨rfl, HB3.out⟩
end Go.Proofs.YtnnnljfdjdehaaaDoor

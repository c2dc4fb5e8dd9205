/- The law ConfCalm, walked. -/
import Derived.Test.YtdijpjmbicfcdaaDoorCb2
namespace Go.Proofs.YtdijpjmbicfcdaaDoor
set_option linter.unusedSimpArgs false
set_option linter.unusedVariables false
open Go.RowKit Go.Sort

theorem calmE_zero {S : SysD} {part : Int} (h : calmE S part = 0) : chkS S = 0 ∧ ∃ p : Nat, part = (p : Int) ∧ p < S.parts.length := by
  unfold calmE at h
  by_cases h0 : chkS S = 0
  · rw [if_pos h0] at h
    cases hw : withinB part 0 ((S.parts.length : Int) - 1)
    · rw [hw] at h; cases h
    · unfold withinB at hw
      simp at hw
      exact ⟨h0, part.toNat, by omega, by omega⟩
  · rw [if_neg h0] at h; exact absurd h h0
theorem calm_c (S : SysD) (vp vc vs : Value) (part : Int) (w : World) (he : Env w) (hS : Sys w vp vc vs S) (c : Int) (hc : calmE S part = c) :
    Calls Tryd.prog 7 #[.agg #[vp, vc, vs], .int .i64 part] w fun e w' => ∃ a1 n1 c1 a2 n2 c2 a3 n3 c3, e = .returned (.tuple #[.agg #[.slice a1 n1 c1, .slice a2 n2 c2, .slice a3 n3 c3], .int .i64 c]) ∧ (c = 0 → SysN (w.heap.size + 2) w' (.slice a1 n1 c1) (.slice a2 n2 c2) (.slice a3 n3 c3) (calmS S part.toNat)) ∧ Below w.heap.size w w' := by
  by_cases h0 : c = 0
  · subst h0
    obtain ⟨hz, p, rfl, hp⟩ := calmE_zero hc
    refine (calm_yes S vp vc vs p w he hS hz hp).mono ?_
    rintro e w' ⟨xp, xc, xs, rfl, hx, hb⟩
    obtain ⟨a1, c1, rfl⟩ := hx.sys.p.form
    obtain ⟨a2, c2, rfl⟩ := hx.sys.c.form
    obtain ⟨a3, c3, rfl⟩ := hx.sys.s.form
    exact ⟨_, _, _, _, _, _, _, _, _, rfl, fun _ => hx, hb⟩
  · refine (calm_no S vp vc vs part w he hS c hc h0).mono ?_
    rintro e w' ⟨rfl, hb⟩
    exact ⟨_, _, _, _, _, _, _, _, _, rfl, fun h => absurd h h0, hb⟩
theorem calm_twice (S : SysD) (a : Nat) : calmS (calmS S a) a = calmS S a := by simp [calmS]
theorem calm_swap (S : SysD) (a b : Nat) : calmS (calmS S a) b = calmS (calmS S b) a := by
  by_cases h : a = b
  · rw [h]
  · simp only [calmS]
    rw [List.set_comm _ _ h]
theorem calm_E {S : SysD} (h : chkS S = 0) {a b : Nat} (hb : b < S.parts.length) : calmE (calmS S a) (b : Int) = 0 := by
  unfold calmE
  rw [calm_right h, if_pos rfl, calm_len]
  have : withinB (b : Int) 0 ((S.parts.length : Int) - 1) = true := by unfold withinB; simp; omega
  rw [this]; rfl
theorem small {S : SysD} (h : chkS S = 0) : S.parts.length ≤ 1000 ∧ S.chans.length ≤ 1000 ∧ S.slots.length ≤ 1000 ∧ ∀ j (hj : j < S.parts.length), S.parts[j].code.length ≤ 1000 ∧ S.parts[j].inn.length ≤ 1000 := by
  obtain ⟨h1, h2, -, -, -⟩ := chkS_zero h
  obtain ⟨hc, hi⟩ := countsB_is h1
  refine ⟨by omega, by omega, by omega, fun j hj => ⟨?_, ?_⟩⟩
  · have := (chkC_zero (h2 j hj)).2.1; omega
  · have := hi j hj; omega

set_option maxRecDepth 100000 in
set_option maxHeartbeats 8000000 in
theorem confCalm_any (S : SysD) (vp vc vs : Value) (a b : Int) (w : World) (he : Env w) (hS : Sys w vp vc vs S) :
    Calls Tryd.prog 4 #[.agg #[vp, vc, vs], .int .i64 a, .int .i64 b] w fun e w' => e = .returned (.bool true) ∧ Below w.heap.size w w' := by
  obtain ⟨pa, pc, rfl⟩ := hS.p.form
  obtain ⟨ca, cc, rfl⟩ := hS.c.form
  obtain ⟨sa, sc, rfl⟩ := hS.s.form
  have HS := Lib.hid hS
  generalize hca : calmE S a = ea
  generalize hcb : calmE S b = eb
  have HA := Lib.hid hca
  have HBB := Lib.hid hcb
  clear hS hca hcb
  go_enter Tryd.func4, Tryd.ntmps4
  go_wp2_with fail
  refine (calm_c S _ _ _ a _ (he.up (by repeat (first | exact Below.refl _ _ | assumption | refine Below.drew ?_ | refine Below.alloc ?_ (by first | (simp; done) | (simp; omega)) _ | refine Below.setCell ?_ (by first | (simp; done) | (simp; omega)) _))) (HS.out.up (by repeat (first | exact Below.refl _ _ | assumption | refine Below.drew ?_ | refine Below.alloc ?_ (by first | (simp; done) | (simp; omega)) _ | refine Below.setCell ?_ (by first | (simp; done) | (simp; omega)) _))) ea HA.out).mono ?_
  rintro e w1 ⟨a1, n1, c1, a2, n2, c2, a3, n3, c3, rfl, hx, bb⟩
  have HB := Lib.hid ((box_new w (.slice pa S.parts.length pc) (.slice ca S.chans.length cc) (.slice sa S.slots.length sc) 26 _ rfl).up bb)
  have D := Lib.hid (Below.trans (show Below w.heap.size w _ from (by repeat (first | exact Below.refl _ _ | assumption | refine Below.drew ?_ | refine Below.alloc ?_ (by first | (simp; done) | (simp; omega)) _ | refine Below.setCell ?_ (by first | (simp; done) | (simp; omega)) _))) (bb.mono (by simp)))
  have HX := Lib.hid hx
  clear bb hx
  have XB := Lib.hid (box_new w1 (.slice a1 n1 c1) (.slice a2 n2 c2) (.slice a3 n3 c3) 26 _ rfl)
  have DX := Lib.hid (show Below w1.heap.size w1 (w1.alloc (.cells #[.slice a1 n1 c1, .slice a2 n2 c2, .slice a3 n3 c3] 26)) from (Below.refl _ _).alloc (Nat.le_refl _) _)
  have k0 := (HB.out.up DX.out).p
  have k1 := (HB.out.up DX.out).c
  have k2 := (HB.out.up DX.out).s
  go_wp2_with fail
  generalize w1.alloc (.cells #[.slice a1 n1 c1, .slice a2 n2 c2, .slice a3 n3 c3] 26) = W1 at *
  have D1 := Lib.hid (D.out.trans (DX.out.mono D.out.size))
  have HX : Hid (ea = 0 → Sys W1 (.slice a1 n1 c1) (.slice a2 n2 c2) (.slice a3 n3 c3) (calmS S a.toNat)) := fun h => (HX.out h).sys.up DX.out
  clear DX D k0 k1 k2
  generalize w1.heap.size = xb at *
  refine (calm_c S _ _ _ b _ (he.up D1.out) (HS.out.up D1.out) eb HBB.out).mono ?_
  rintro e w2 ⟨b1, m1, d1, b2, m2, d2, b3, m3, d3, rfl, hy, bb⟩
  have D := Lib.hid (D1.out.trans (bb.mono D1.out.size))
  have XB := Lib.hid (XB.out.up bb)
  have HX : Hid (ea = 0 → Sys w2 (.slice a1 n1 c1) (.slice a2 n2 c2) (.slice a3 n3 c3) (calmS S a.toNat)) := fun h => (HX.out h).up bb
  have HY := Lib.hid hy
  clear bb hy HB D1
  by_cases h1 : ea = 0
  · subst h1
    obtain ⟨hz, p, rfl, hp⟩ := calmE_zero HA.out
    by_cases h2 : eb = 0
    · subst h2
      obtain ⟨-, q, rfl, hq⟩ := calmE_zero HBB.out
      have HZ := Lib.hid hz
      have HXS : Hid (Sys w2 (.slice a1 n1 c1) (.slice a2 n2 c2) (.slice a3 n3 c3) (calmS S p)) := HX.out rfl
      have HYS : Hid (Sys w2 (.slice b1 m1 d1) (.slice b2 m2 d2) (.slice b3 m3 d3) (calmS S q)) := (HY.out rfl).sys
      clear hz HX HY
      have YB := Lib.hid (box_new w2 (.slice b1 m1 d1) (.slice b2 m2 d2) (.slice b3 m3 d3) 26 _ rfl)
      have DX := Lib.hid (show Below w2.heap.size w2 (w2.alloc (.cells #[.slice b1 m1 d1, .slice b2 m2 d2, .slice b3 m3 d3] 26)) from (Below.refl _ _).alloc (Nat.le_refl _) _)
      have k0 := (XB.out.up DX.out).p
      have k1 := (XB.out.up DX.out).c
      have k2 := (XB.out.up DX.out).s
      go_wp2_with fail
      generalize w2.alloc (.cells #[.slice b1 m1 d1, .slice b2 m2 d2, .slice b3 m3 d3] 26) = W2 at *
      have D2 := Lib.hid (D.out.trans (DX.out.mono D.out.size))
      have XB := Lib.hid (XB.out.up DX.out)
      have HXS := Lib.hid (HXS.out.up DX.out)
      have HYS := Lib.hid (HYS.out.up DX.out)
      clear DX D k0 k1 k2
      generalize w2.heap.size = yb at *
      refine (calm_c (calmS S p) _ _ _ (p : Int) _ (he.up D2.out) HXS.out 0 (calm_E HZ.out hp)).mono ?_
      rintro e w3 ⟨e1, f1, g1, e2, f2, g2, e3, f3, g3, rfl, hu, bb⟩
      have E := Lib.hid bb
      have HU : Hid (Sys w3 (.slice e1 f1 g1) (.slice e2 f2 g2) (.slice e3 f3 g3) (calmS S p)) := by
        have := (hu rfl).sys
        rw [Int.toNat_natCast, calm_twice] at this
        exact this
      have UB := Lib.hid (box_new w3 (.slice e1 f1 g1) (.slice e2 f2 g2) (.slice e3 f3 g3) 26 _ rfl)
      have DX := Lib.hid (show Below w3.heap.size w3 (w3.alloc (.cells #[.slice e1 f1 g1, .slice e2 f2 g2, .slice e3 f3 g3] 26)) from (Below.refl _ _).alloc (Nat.le_refl _) _)
      clear bb hu
      have k0 := ((XB.out.up E.out).up DX.out).p
      have k1 := ((XB.out.up E.out).up DX.out).c
      have k2 := ((XB.out.up E.out).up DX.out).s
      go_wp2_with fail
      generalize w3.alloc (.cells #[.slice e1 f1 g1, .slice e2 f2 g2, .slice e3 f3 g3] 26) = W3 at *
      have E := Lib.hid (E.out.trans (DX.out.mono E.out.size))
      have HU := Lib.hid (HU.out.up DX.out)
      clear DX k0 k1 k2
      generalize w3.heap.size = ub at *
      refine (calm_c (calmS S p) _ _ _ (q : Int) _ ((he.up D2.out).up E.out) (HXS.out.up E.out) 0 (calm_E HZ.out hq)).mono ?_
      rintro e w4 ⟨h1, i1, j1, h2, i2, j2, h3, i3, j3, rfl, hv, bb⟩
      have F := Lib.hid bb
      have HV : Hid (Sys w4 (.slice h1 i1 j1) (.slice h2 i2 j2) (.slice h3 i3 j3) (calmS (calmS S p) q)) := by
        have := (hv rfl).sys
        rw [Int.toNat_natCast] at this
        exact this
      have VB := Lib.hid (box_new w4 (.slice h1 i1 j1) (.slice h2 i2 j2) (.slice h3 i3 j3) 26 _ rfl)
      have DX := Lib.hid (show Below w4.heap.size w4 (w4.alloc (.cells #[.slice h1 i1 j1, .slice h2 i2 j2, .slice h3 i3 j3] 26)) from (Below.refl _ _).alloc (Nat.le_refl _) _)
      have G := Lib.hid (E.out.trans (F.out.mono E.out.size))
      clear bb hv
      have k0 := ((YB.out.up G.out).up DX.out).p
      have k1 := ((YB.out.up G.out).up DX.out).c
      have k2 := ((YB.out.up G.out).up DX.out).s
      go_wp2_with fail
      generalize w4.alloc (.cells #[.slice h1 i1 j1, .slice h2 i2 j2, .slice h3 i3 j3] 26) = W4 at *
      have F := Lib.hid (F.out.trans (DX.out.mono F.out.size))
      have G := Lib.hid (G.out.trans (DX.out.mono G.out.size))
      have HV := Lib.hid (HV.out.up DX.out)
      clear DX k0 k1 k2
      generalize w4.heap.size = vb at *
      refine (calm_c (calmS S q) _ _ _ (p : Int) _ ((he.up D2.out).up G.out) (HYS.out.up G.out) 0 (calm_E HZ.out hp)).mono ?_
      rintro e w5 ⟨l1, o1, p1, l2, o2, p2, l3, o3, p3, rfl, hw, bb⟩
      have K := Lib.hid bb
      have HW : Hid (Sys w5 (.slice l1 o1 p1) (.slice l2 o2 p2) (.slice l3 o3 p3) (calmS (calmS S p) q)) := by
        have := (hw rfl).sys
        rw [Int.toNat_natCast, calm_swap] at this
        exact this
      have WB := Lib.hid (box_new w5 (.slice l1 o1 p1) (.slice l2 o2 p2) (.slice l3 o3 p3) 26 _ rfl)
      have DX := Lib.hid (show Below w5.heap.size w5 (w5.alloc (.cells #[.slice l1 o1 p1, .slice l2 o2 p2, .slice l3 o3 p3] 26)) from (Below.refl _ _).alloc (Nat.le_refl _) _)
      clear bb hw YB HYS
      go_wp2_with fail
      generalize w5.alloc (.cells #[.slice l1 o1 p1, .slice l2 o2 p2, .slice l3 o3 p3] 26) = W5 at *
      have K := Lib.hid (K.out.trans (DX.out.mono K.out.size))
      have HW := Lib.hid (HW.out.up DX.out)
      have G5 := Lib.hid (G.out.trans (K.out.mono G.out.size))
      have F5 := Lib.hid (F.out.trans (K.out.mono F.out.size))
      clear DX
      generalize w5.heap.size = wb at *
      have XB := Lib.hid (XB.out.up G5.out)
      have UB := Lib.hid (UB.out.up F5.out)
      have VB := Lib.hid (VB.out.up K.out)
      have HXS := Lib.hid (HXS.out.up G5.out)
      have HU := Lib.hid (HU.out.up F5.out)
      have HV := Lib.hid (HV.out.up K.out)
      have D5 := Lib.hid (D2.out.trans (G5.out.mono D2.out.size))
      clear D2 E F G K G5 F5
      refine (confBegun_any _ (he.up D5.out)).mono ?_
      rintro e w6 ⟨rfl, b6⟩
      have L := Lib.hid b6
      clear b6
      have k0 := (XB.out.up L.out).p
      have k1 := (XB.out.up L.out).c
      have k2 := (XB.out.up L.out).s
      go_wp2_with fail
      refine (confCheck_any (calmS S p) _ _ _ _ ((he.up D5.out).up L.out) (HXS.out.up L.out)).mono ?_
      rw [calm_right HZ.out p]
      rintro e w7 ⟨rfl, b7⟩
      have L := Lib.hid (L.out.trans (b7.mono L.out.size))
      clear b7 k0 k1 k2
      have k0 := (XB.out.up L.out).p
      have k1 := (XB.out.up L.out).c
      have k2 := (XB.out.up L.out).s
      have r0 := (UB.out.up L.out).p
      have r1 := (UB.out.up L.out).c
      have r2 := (UB.out.up L.out).s
      have sm := small (calm_right HZ.out p)
      go_wp2_with fail
      refine (sameSys_any (calmS S p) sm.1 sm.2.1 sm.2.2.1 sm.2.2.2 _ _ _ _ _ _ _ (HU.out.up L.out) (HXS.out.up L.out)).mono ?_
      rintro e w8 ⟨rfl, b8⟩
      have L := Lib.hid (L.out.trans (b8.mono L.out.size))
      clear b8 k0 k1 k2 r0 r1 r2 sm
      have k0 := (VB.out.up L.out).p
      have k1 := (VB.out.up L.out).c
      have k2 := (VB.out.up L.out).s
      have r0 := (WB.out.up L.out).p
      have r1 := (WB.out.up L.out).c
      have r2 := (WB.out.up L.out).s
      have sm := small (calm_right (calm_right HZ.out p) q)
      go_wp2_with fail
      refine (sameSys_any (calmS (calmS S p) q) sm.1 sm.2.1 sm.2.2.1 sm.2.2.2 _ _ _ _ _ _ _ (HV.out.up L.out) (HW.out.up L.out)).mono ?_
      rintro e w9 ⟨rfl, b9⟩
      have Z := Lib.hid (D5.out.trans ((L.out.trans (b9.mono L.out.size)).mono D5.out.size))
      clear b9 k0 k1 k2 r0 r1 r2 sm
      go_wp2
      go_ret
      exact ⟨rfl, Z.out⟩
    · have h2' : (eb != 0) = true := by simpa using h2
      clear h2
      go_wp2_with fail
      refine (confBegun_any _ ((he.up D.out).up (by repeat (first | exact Below.refl _ _ | assumption | refine Below.drew ?_ | refine Below.alloc ?_ (by first | (simp; done) | (simp; omega)) _ | refine Below.setCell ?_ (by first | (simp; done) | (simp; omega)) _)))).mono ?_
      rintro e w3 ⟨rfl, bb⟩
      have Z := Lib.hid (D.out.trans (Below.trans (show Below w.heap.size w2 _ from (Below.refl _ _).alloc D.out.size _) (bb.mono (by have := D.out.size; simp; omega))))
      clear bb
      go_wp2
      go_ret
      exact ⟨rfl, Z.out⟩
  · have h1' : (ea != 0) = true := by simpa using h1
    clear h1
    go_wp2_with fail
    refine (confBegun_any _ ((he.up D.out).up (by repeat (first | exact Below.refl _ _ | assumption | refine Below.drew ?_ | refine Below.alloc ?_ (by first | (simp; done) | (simp; omega)) _ | refine Below.setCell ?_ (by first | (simp; done) | (simp; omega)) _)))).mono ?_
    rintro e w3 ⟨rfl, bb⟩
    have Z := Lib.hid (D.out.trans (Below.trans (show Below w.heap.size w2 _ from (Below.refl _ _).alloc D.out.size _) (bb.mono (by have := D.out.size; simp; omega))))
    clear bb
    go_wp2
    go_ret
    exact ⟨rfl, Z.out⟩
end Go.Proofs.YtdijpjmbicfcdaaDoor

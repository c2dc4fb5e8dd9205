/- The law ConfChecks, walked. -/
import Derived.Test.YtdijpjmbicfcdaaDoorOs3
namespace Go.Proofs.YtdijpjmbicfcdaaDoor
set_option linter.unusedSimpArgs false
set_option linter.unusedVariables false
open Go.RowKit Go.Sort
attribute [local go_sem ↓] Go.wp_at_zero Go.wp_at_succ

def noS : SysD := ⟨[], [], []⟩
theorem noS_is (w : World) : Sys w (.slice none 0 0) (.slice none 0 0) (.slice none 0 0) noS := ⟨⟨[], rfl, Sl.nil _ _, fun k hk => absurd hk (by simp [noS])⟩, Sl.nil _ _, Sl.nil _ _⟩
theorem calm_c2 (S : SysD) (vp vc vs : Value) (part : Int) (w : World) (he : Env w) (hS : Sys w vp vc vs S) (c : Int) (hc : calmE S part = c) :
    Calls Tryd.prog 7 #[.agg #[vp, vc, vs], .int .i64 part] w fun e w' => ∃ a1 n1 c1 a2 n2 c2 a3 n3 c3, e = .returned (.tuple #[.agg #[.slice a1 n1 c1, .slice a2 n2 c2, .slice a3 n3 c3], .int .i64 c]) ∧ Sys w' (.slice a1 n1 c1) (.slice a2 n2 c2) (.slice a3 n3 c3) (if c = 0 then calmS S part.toNat else noS) ∧ Below w.heap.size w w' := by
  by_cases h0 : c = 0
  · refine (calm_c S vp vc vs part w he hS c hc).mono ?_
    rintro e w' ⟨a1, n1, c1, a2, n2, c2, a3, n3, c3, rfl, hx, hb⟩
    refine ⟨_, _, _, _, _, _, _, _, _, rfl, ?_, hb⟩
    rw [if_pos h0]
    exact (hx h0).sys
  · refine (calm_no S vp vc vs part w he hS c hc h0).mono ?_
    rintro e w' ⟨rfl, hb⟩
    refine ⟨_, _, _, _, _, _, _, _, _, rfl, ?_, hb⟩
    rw [if_neg h0]
    exact noS_is _

theorem keep9 {W w' : World} {g1 g2 g3 : Nat} {a b c d e f x y z : Value} (h1 : Box W g1 a b c) (h2 : Box W g2 d e f) (h3 : Box W g3 x y z) (D : Below W.heap.size W w') :
    (w'.cell? ⟨g1, 0, none⟩ = some a ∧ w'.cell? ⟨g1, 1, none⟩ = some b ∧ w'.cell? ⟨g1, 2, none⟩ = some c) ∧ (w'.cell? ⟨g2, 0, none⟩ = some d ∧ w'.cell? ⟨g2, 1, none⟩ = some e ∧ w'.cell? ⟨g2, 2, none⟩ = some f) ∧ w'.cell? ⟨g3, 0, none⟩ = some x ∧ w'.cell? ⟨g3, 1, none⟩ = some y ∧ w'.cell? ⟨g3, 2, none⟩ = some z :=
  ⟨⟨(h1.up D).p, (h1.up D).c, (h1.up D).s⟩, ⟨(h2.up D).p, (h2.up D).c, (h2.up D).s⟩, (h3.up D).p, (h3.up D).c, (h3.up D).s⟩

set_option maxRecDepth 100000 in
set_option maxHeartbeats 8000000 in
theorem confChecks_any (S : SysD) (hok : S.ok) (vp vc vs : Value) (part : Int) (w : World) (he : Env w) (hS : Sys w vp vc vs S) :
    Calls Tryd.prog 3 #[.agg #[vp, vc, vs], .int .i64 part] w fun e w' => e = .returned (.bool true) ∧ Below w.heap.size w w' := by
  obtain ⟨pa, pc, rfl⟩ := hS.p.form
  obtain ⟨ca, cc, rfl⟩ := hS.c.form
  obtain ⟨sa, sc, rfl⟩ := hS.s.form
  have HS := Lib.hid hS
  generalize hca : calmE S part = ea
  have HA := Lib.hid hca
  obtain ⟨T, hT⟩ : ∃ T, T = (if ea = 0 then calmS S part.toNat else noS) := ⟨_, rfl⟩
  have HT := Lib.hid hT
  have SM : Hid (T.parts.length ≤ 1000 ∧ T.chans.length ≤ 1000 ∧ T.slots.length ≤ 1000 ∧ ∀ j (hj : j < T.parts.length), T.parts[j].code.length ≤ 1000 ∧ T.parts[j].inn.length ≤ 1000) := by
    rw [hT]
    split
    · rename_i h
      subst h
      exact small (calm_right (calmE_zero hca).1 _)
    · exact ⟨by simp [noS], by simp [noS], by simp [noS], fun j hj => absurd hj (by simp [noS])⟩
  clear hS hca hT
  go_enter Tryd.func3, Tryd.ntmps3
  go_wp2_with fail
  refine (calm_c2 S _ _ _ part _ (he.up (by repeat (first | exact Below.refl _ _ | assumption | refine Below.drew ?_ | refine Below.alloc ?_ (by first | (simp; done) | (simp; omega)) _ | refine Below.setCell ?_ (by first | (simp; done) | (simp; omega)) _))) (HS.out.up (by repeat (first | exact Below.refl _ _ | assumption | refine Below.drew ?_ | refine Below.alloc ?_ (by first | (simp; done) | (simp; omega)) _ | refine Below.setCell ?_ (by first | (simp; done) | (simp; omega)) _))) ea HA.out).mono ?_
  rw [← HT.out]
  rintro e w1 ⟨a1, n1, c1, a2, n2, c2, a3, n3, c3, rfl, hx, bb⟩
  have HB := Lib.hid ((box_new w (.slice pa S.parts.length pc) (.slice ca S.chans.length cc) (.slice sa S.slots.length sc) 26 _ rfl).up bb)
  have D := Lib.hid (Below.trans (show Below w.heap.size w _ from (by repeat (first | exact Below.refl _ _ | assumption | refine Below.drew ?_ | refine Below.alloc ?_ (by first | (simp; done) | (simp; omega)) _ | refine Below.setCell ?_ (by first | (simp; done) | (simp; omega)) _))) (bb.mono (by simp)))
  have HX := Lib.hid hx
  clear bb hx
  have XB := Lib.hid (box_new w1 (.slice a1 n1 c1) (.slice a2 n2 c2) (.slice a3 n3 c3) 26 _ rfl)
  have DX := Lib.hid (show Below w1.heap.size w1 (w1.alloc (.cells #[.slice a1 n1 c1, .slice a2 n2 c2, .slice a3 n3 c3] 26)) from (Below.refl _ _).alloc (Nat.le_refl _) _)
  have k0 := (HB.out.up DX.out).p
  have k1 := (HB.out.up DX.out).c
  have k2 := (HB.out.up DX.out).s
  go_wp2_with fail
  generalize w1.alloc (.cells #[.slice a1 n1 c1, .slice a2 n2 c2, .slice a3 n3 c3] 26) = W1 at *
  have D1 := Lib.hid (D.out.trans (DX.out.mono D.out.size))
  have HX := Lib.hid (HX.out.up DX.out)
  have HB := Lib.hid (HB.out.up DX.out)
  clear DX D k0 k1 k2
  generalize w1.heap.size = xb at *
  refine (There_any S hok _ _ _ part _ (HS.out.up D1.out) ea HA.out).mono ?_
  rintro e w2 ⟨rfl, bb⟩
  have D := Lib.hid (D1.out.trans (bb.mono D1.out.size))
  have XB := Lib.hid (XB.out.up bb)
  have HX := Lib.hid (HX.out.up bb)
  have HB := Lib.hid (HB.out.up bb)
  clear bb D1
  have DX := Lib.hid (show Below w2.heap.size w2 (w2.alloc (.cells #[.slice none 0 0, .slice none 0 0, .slice none 0 0] 26)) from (Below.refl _ _).alloc (Nat.le_refl _) _)
  have WV := Lib.hid (var3_new w2 (.slice none 0 0) (.slice none 0 0) (.slice none 0 0) 26 _ rfl)
  by_cases h0 : ea = 0
  · subst h0
    obtain ⟨hz, p, rfl, hp⟩ := calmE_zero HA.out
    have hTT : T = calmS S p := by rw [HT.out, if_pos rfl, Int.toNat_natCast]
    have k0 := (HB.out.up DX.out).p
    have k1 := (HB.out.up DX.out).c
    have k2 := (HB.out.up DX.out).s
    have HTT := Lib.hid hTT
    have HZ := Lib.hid hz
    clear hTT hz HT
    go_wp2_with fail
    generalize hW : w2.alloc (.cells #[.slice none 0 0, .slice none 0 0, .slice none 0 0] 26) = W2 at *
    have hs2 : W2.heap.size = w2.heap.size + 1 := by rw [← hW]; simp
    refine (calmOf_any S _ _ _ p _ ((HS.out.up D.out).up DX.out) HZ.out hp).mono ?_
    rintro e w3 ⟨xp, xc, xs, rfl, hn, bb⟩
    rw [← HTT.out] at hn
    obtain ⟨d1, e1, rfl⟩ := hn.sys.p.form
    obtain ⟨d2, e2, rfl⟩ := hn.sys.c.form
    obtain ⟨d3, e3, rfl⟩ := hn.sys.s.form
    have HN := Lib.hid hn
    have WV3 := WV.out.up bb
    have D5 : Below w2.heap.size w2 (((w3.setCell ⟨w2.heap.size, 0, none⟩ (.slice d1 T.parts.length e1)).setCell ⟨w2.heap.size, 1, none⟩ (.slice d2 T.chans.length e2)).setCell ⟨w2.heap.size, 2, none⟩ (.slice d3 T.slots.length e3)) := (((DX.out.trans (bb.mono (by omega))).setCell (Nat.le_refl _) _).setCell (Nat.le_refl _) _).setCell (Nat.le_refl _) _
    have HW := Lib.hid (((HN.out.set (c := w2.heap.size) (j := 0) (by omega) (.slice d1 T.parts.length e1)).set (c := w2.heap.size) (j := 1) (by omega) (.slice d2 T.chans.length e2)).set (c := w2.heap.size) (j := 2) (by omega) (.slice d3 T.slots.length e3)).sys
    have V6 := WV3.sets (a' := .slice d1 T.parts.length e1) (b' := .slice d2 T.chans.length e2) (c' := .slice d3 T.slots.length e3)
    have WB : Hid (Box (((w3.setCell ⟨w2.heap.size, 0, none⟩ (.slice d1 T.parts.length e1)).setCell ⟨w2.heap.size, 1, none⟩ (.slice d2 T.chans.length e2)).setCell ⟨w2.heap.size, 2, none⟩ (.slice d3 T.slots.length e3)) w2.heap.size (.slice d1 T.parts.length e1) (.slice d2 T.chans.length e2) (.slice d3 T.slots.length e3)) := ⟨V6.x, V6.y, V6.z, V6.lt⟩
    have y0 := WV3.x
    have y1 := WV3.y
    have y2 := WV3.z
    have y3 := WV3.fx
    have y4 := WV3.fy
    have y5 := WV3.fz
    have HX := Lib.hid (HX.out.up D5)
    have XB := Lib.hid (XB.out.up D5)
    have HB := Lib.hid (HB.out.up D5)
    have D := Lib.hid (D.out.trans (D5.mono D.out.size))
    clear hn V6 bb WV WV3 HN DX HTT HZ hW k0 k1 k2 D5
    go_wp2_with fail
    generalize (((w3.setCell ⟨w2.heap.size, 0, none⟩ (.slice d1 T.parts.length e1)).setCell ⟨w2.heap.size, 1, none⟩ (.slice d2 T.chans.length e2)).setCell ⟨w2.heap.size, 2, none⟩ (.slice d3 T.slots.length e3)) = W at *
    clear y0 y1 y2 y3 y4 y5 hs2
    generalize w2.heap.size = wb at *
    have HR : Hid (∃ r, r = chkS S) := ⟨_, rfl⟩
    obtain ⟨r, hr⟩ := HR.out
    have HR := Lib.hid hr
    clear hr
    go_region_held3 (fun w' => (w'.cell? ⟨w.heap.size, 0, none⟩ = some (.slice pa S.parts.length pc) ∧ w'.cell? ⟨w.heap.size, 1, none⟩ = some (.slice ca S.chans.length cc) ∧ w'.cell? ⟨w.heap.size, 2, none⟩ = some (.slice sa S.slots.length sc)) ∧ (w'.cell? ⟨xb, 0, none⟩ = some (.slice a1 n1 c1) ∧ w'.cell? ⟨xb, 1, none⟩ = some (.slice a2 n2 c2) ∧ w'.cell? ⟨xb, 2, none⟩ = some (.slice a3 n3 c3)) ∧ w'.cell? ⟨wb, 0, none⟩ = some (.slice d1 T.parts.length e1) ∧ w'.cell? ⟨wb, 1, none⟩ = some (.slice d2 T.chans.length e2) ∧ w'.cell? ⟨wb, 2, none⟩ = some (.slice d3 T.slots.length e3)) (exact keep9 HB.out XB.out WB.out (by repeat (first | exact Below.refl _ _ | assumption | refine Below.drew ?_ | refine Below.alloc ?_ (by first | omega | (simp; done) | (simp; omega)) _ | refine Below.setCell ?_ (by first | omega | (simp; done) | (simp; omega)) _)))
      (first
        | (go_at_call 10; refine (confBegun_any _ ((he.up D.out).up (by repeat (first | exact Below.refl _ _ | assumption | refine Below.drew ?_ | refine Below.alloc ?_ (by first | omega | (simp; done) | (simp; omega)) _ | refine Below.setCell ?_ (by first | omega | (simp; done) | (simp; omega)) _)))).mono ?_; rintro e w6 ⟨rfl, f6⟩; have D6 : Below W.heap.size W w6 := Below.trans (by repeat (first | exact Below.refl _ _ | assumption | refine Below.drew ?_ | refine Below.alloc ?_ (by first | omega | (simp; done) | (simp; omega)) _ | refine Below.setCell ?_ (by first | omega | (simp; done) | (simp; omega)) _)) (f6.mono (by first | omega | (simp; done) | (simp; omega))); clear f6)
        | (go_at_call 11; refine (confCheck_any S _ _ _ _ ((he.up D.out).up (by repeat (first | exact Below.refl _ _ | assumption | refine Below.drew ?_ | refine Below.alloc ?_ (by first | omega | (simp; done) | (simp; omega)) _ | refine Below.setCell ?_ (by first | omega | (simp; done) | (simp; omega)) _))) ((HS.out.up D.out).up (by repeat (first | exact Below.refl _ _ | assumption | refine Below.drew ?_ | refine Below.alloc ?_ (by first | omega | (simp; done) | (simp; omega)) _ | refine Below.setCell ?_ (by first | omega | (simp; done) | (simp; omega)) _)))).mono ?_; rw [← HR.out]; rintro e w7 ⟨rfl, f7⟩; have D7 : Below W.heap.size W w7 := Below.trans (by repeat (first | exact Below.refl _ _ | assumption | refine Below.drew ?_ | refine Below.alloc ?_ (by first | omega | (simp; done) | (simp; omega)) _ | refine Below.setCell ?_ (by first | omega | (simp; done) | (simp; omega)) _)) (f7.mono D6.size); clear f7)
        | (go_at_call 12; refine (sysRef_any S hok _ _ _ _ ((HS.out.up D.out).up (by repeat (first | exact Below.refl _ _ | assumption | refine Below.drew ?_ | refine Below.alloc ?_ (by first | omega | (simp; done) | (simp; omega)) _ | refine Below.setCell ?_ (by first | omega | (simp; done) | (simp; omega)) _)))).mono ?_; rw [← HR.out]; rintro e w8 ⟨rfl, f8⟩; have D8 : Below W.heap.size W w8 := Below.trans (by repeat (first | exact Below.refl _ _ | assumption | refine Below.drew ?_ | refine Below.alloc ?_ (by first | omega | (simp; done) | (simp; omega)) _ | refine Below.setCell ?_ (by first | omega | (simp; done) | (simp; omega)) _)) (f8.mono D7.size); clear f8)
        | (go_at_call 13; refine (sameSys_any T SM.out.1 SM.out.2.1 SM.out.2.2.1 SM.out.2.2.2 _ _ _ _ _ _ _ (HX.out.up (by repeat (first | exact Below.refl _ _ | assumption | refine Below.drew ?_ | refine Below.alloc ?_ (by first | omega | (simp; done) | (simp; omega)) _ | refine Below.setCell ?_ (by first | omega | (simp; done) | (simp; omega)) _))) (HW.out.up (by repeat (first | exact Below.refl _ _ | assumption | refine Below.drew ?_ | refine Below.alloc ?_ (by first | omega | (simp; done) | (simp; omega)) _ | refine Below.setCell ?_ (by first | omega | (simp; done) | (simp; omega)) _)))).mono ?_; rintro e w9 ⟨rfl, f9⟩; have D9 : Below W.heap.size W w9 := Below.trans (by repeat (first | exact Below.refl _ _ | assumption | refine Below.drew ?_ | refine Below.alloc ?_ (by first | omega | (simp; done) | (simp; omega)) _ | refine Below.setCell ?_ (by first | omega | (simp; done) | (simp; omega)) _)) (f9.mono D8.size); clear f9))
    all_goals
      have Z := Lib.hid (D.out.trans (D9.mono D.out.size))
      go_wp2
      go_ret
      exact ⟨rfl, Z.out⟩
  · have h0' : (ea == 0) = false := by simpa using h0
    have hTT : T = noS := by rw [HT.out, if_neg h0]
    clear h0
    have WB := Lib.hid (box_new w2 (.slice none 0 0) (.slice none 0 0) (.slice none 0 0) 26 _ rfl)
    go_wp2_with fail
    generalize w2.alloc (.cells #[.slice none 0 0, .slice none 0 0, .slice none 0 0] 26) = W at *
    have HX := Lib.hid (HX.out.up DX.out)
    have XB := Lib.hid (XB.out.up DX.out)
    have HB := Lib.hid (HB.out.up DX.out)
    have D := Lib.hid (D.out.trans (DX.out.mono D.out.size))
    have HW : Hid (Sys W (.slice none 0 0) (.slice none 0 0) (.slice none 0 0) T) := by rw [hTT]; exact noS_is W
    clear DX WV hTT HT
    generalize w2.heap.size = wb at *
    have HR : Hid (∃ r, r = chkS S) := ⟨_, rfl⟩
    obtain ⟨r, hr⟩ := HR.out
    have HR := Lib.hid hr
    clear hr
    go_region_held3 (fun w' => (w'.cell? ⟨w.heap.size, 0, none⟩ = some (.slice pa S.parts.length pc) ∧ w'.cell? ⟨w.heap.size, 1, none⟩ = some (.slice ca S.chans.length cc) ∧ w'.cell? ⟨w.heap.size, 2, none⟩ = some (.slice sa S.slots.length sc)) ∧ (w'.cell? ⟨xb, 0, none⟩ = some (.slice a1 n1 c1) ∧ w'.cell? ⟨xb, 1, none⟩ = some (.slice a2 n2 c2) ∧ w'.cell? ⟨xb, 2, none⟩ = some (.slice a3 n3 c3)) ∧ w'.cell? ⟨wb, 0, none⟩ = some (.slice none 0 0) ∧ w'.cell? ⟨wb, 1, none⟩ = some (.slice none 0 0) ∧ w'.cell? ⟨wb, 2, none⟩ = some (.slice none 0 0)) (exact keep9 HB.out XB.out WB.out (by repeat (first | exact Below.refl _ _ | assumption | refine Below.drew ?_ | refine Below.alloc ?_ (by first | omega | (simp; done) | (simp; omega)) _ | refine Below.setCell ?_ (by first | omega | (simp; done) | (simp; omega)) _)))
      (first
        | (go_at_call 10; refine (confBegun_any _ ((he.up D.out).up (by repeat (first | exact Below.refl _ _ | assumption | refine Below.drew ?_ | refine Below.alloc ?_ (by first | omega | (simp; done) | (simp; omega)) _ | refine Below.setCell ?_ (by first | omega | (simp; done) | (simp; omega)) _)))).mono ?_; rintro e w6 ⟨rfl, f6⟩; have D6 : Below W.heap.size W w6 := Below.trans (by repeat (first | exact Below.refl _ _ | assumption | refine Below.drew ?_ | refine Below.alloc ?_ (by first | omega | (simp; done) | (simp; omega)) _ | refine Below.setCell ?_ (by first | omega | (simp; done) | (simp; omega)) _)) (f6.mono (by first | omega | (simp; done) | (simp; omega))); clear f6)
        | (go_at_call 11; refine (confCheck_any S _ _ _ _ ((he.up D.out).up (by repeat (first | exact Below.refl _ _ | assumption | refine Below.drew ?_ | refine Below.alloc ?_ (by first | omega | (simp; done) | (simp; omega)) _ | refine Below.setCell ?_ (by first | omega | (simp; done) | (simp; omega)) _))) ((HS.out.up D.out).up (by repeat (first | exact Below.refl _ _ | assumption | refine Below.drew ?_ | refine Below.alloc ?_ (by first | omega | (simp; done) | (simp; omega)) _ | refine Below.setCell ?_ (by first | omega | (simp; done) | (simp; omega)) _)))).mono ?_; rw [← HR.out]; rintro e w7 ⟨rfl, f7⟩; have D7 : Below W.heap.size W w7 := Below.trans (by repeat (first | exact Below.refl _ _ | assumption | refine Below.drew ?_ | refine Below.alloc ?_ (by first | omega | (simp; done) | (simp; omega)) _ | refine Below.setCell ?_ (by first | omega | (simp; done) | (simp; omega)) _)) (f7.mono D6.size); clear f7)
        | (go_at_call 12; refine (sysRef_any S hok _ _ _ _ ((HS.out.up D.out).up (by repeat (first | exact Below.refl _ _ | assumption | refine Below.drew ?_ | refine Below.alloc ?_ (by first | omega | (simp; done) | (simp; omega)) _ | refine Below.setCell ?_ (by first | omega | (simp; done) | (simp; omega)) _)))).mono ?_; rw [← HR.out]; rintro e w8 ⟨rfl, f8⟩; have D8 : Below W.heap.size W w8 := Below.trans (by repeat (first | exact Below.refl _ _ | assumption | refine Below.drew ?_ | refine Below.alloc ?_ (by first | omega | (simp; done) | (simp; omega)) _ | refine Below.setCell ?_ (by first | omega | (simp; done) | (simp; omega)) _)) (f8.mono D7.size); clear f8)
        | (go_at_call 13; refine (sameSys_any T SM.out.1 SM.out.2.1 SM.out.2.2.1 SM.out.2.2.2 _ _ _ _ _ _ _ (HX.out.up (by repeat (first | exact Below.refl _ _ | assumption | refine Below.drew ?_ | refine Below.alloc ?_ (by first | omega | (simp; done) | (simp; omega)) _ | refine Below.setCell ?_ (by first | omega | (simp; done) | (simp; omega)) _))) (HW.out.up (by repeat (first | exact Below.refl _ _ | assumption | refine Below.drew ?_ | refine Below.alloc ?_ (by first | omega | (simp; done) | (simp; omega)) _ | refine Below.setCell ?_ (by first | omega | (simp; done) | (simp; omega)) _)))).mono ?_; rintro e w9 ⟨rfl, f9⟩; have D9 : Below W.heap.size W w9 := Below.trans (by repeat (first | exact Below.refl _ _ | assumption | refine Below.drew ?_ | refine Below.alloc ?_ (by first | omega | (simp; done) | (simp; omega)) _ | refine Below.setCell ?_ (by first | omega | (simp; done) | (simp; omega)) _)) (f9.mono D8.size); clear f9))
    all_goals
      have Z := Lib.hid (D.out.trans (D9.mono D.out.size))
      go_wp2
      go_ret
      exact ⟨rfl, Z.out⟩
end Go.Proofs.YtdijpjmbicfcdaaDoor

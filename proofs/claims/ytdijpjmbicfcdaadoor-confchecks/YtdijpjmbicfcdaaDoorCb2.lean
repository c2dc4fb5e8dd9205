/- What the laws on systems begin with is true. -/
import Derived.Test.YtdijpjmbicfcdaaDoorCb1
namespace Go.Proofs.YtdijpjmbicfcdaaDoor
set_option linter.unusedSimpArgs false
set_option linter.unusedVariables false
open Go.RowKit Go.Sort

set_option maxRecDepth 100000 in
set_option maxHeartbeats 4000000 in
theorem confBegun_any (w : World) (he : Env w) : Calls Tryd.prog 10 #[] w fun e w' => e = .returned (.bool true) ∧ Below w.heap.size w w' := by
  go_enter Tryd.func10, Tryd.ntmps10
  go_wp2_with fail
  refine (relay_any _).mono ?_
  rintro e w1 ⟨vp, vc, vs, rfl, s1, b1⟩
  have S1 := Lib.hid s1.sys
  have D := Lib.hid b1
  clear s1 b1
  go_wp2_with fail
  refine (calm_yes relayS _ _ _ 3 _ (he.up D.out) S1.out relay_chk (by decide)).mono ?_
  rintro e w2 ⟨xp, xc, xs, rfl, s2, b2⟩
  have D2 := Lib.hid (D.out.trans (b2.mono D.out.size))
  have P2 := Lib.hid s2.sys.p
  obtain ⟨xpa, xpc, hxp⟩ : ∃ a c, xp = .slice a 4 c := s2.sys.p.form
  obtain ⟨xca, xcc, hxc⟩ : ∃ a c, xc = .slice a 2 c := s2.sys.c.form
  obtain ⟨xsa, xsc, hxs⟩ : ∃ a c, xs = .slice a 4 c := s2.sys.s.form
  subst hxp hxc hxs
  clear s2 b2 S1 D
  have VV := Lib.hid (var3_new w2 (.slice xpa 4 xpc) (.slice xca 2 xcc) (.slice xsa 4 xsc) 26 _ rfl)
  have DV := Lib.hid (show Below w2.heap.size w2 (w2.alloc (.cells #[.slice xpa 4 xpc, .slice xca 2 xcc, .slice xsa 4 xsc] 26)) from (Below.refl _ _).alloc (Nat.le_refl _) _)
  go_wp2_with fail
  generalize w2.alloc (.cells #[.slice xpa 4 xpc, .slice xca 2 xcc, .slice xsa 4 xsc] 26) = W2 at *
  have P2 := Lib.hid (P2.out.up DV.out)
  have D := Lib.hid (D2.out.trans (DV.out.mono D2.out.size))
  clear DV D2
  generalize w2.heap.size = sb at *
  refine (relay_any _).mono ?_
  rintro e w3 ⟨vp, vc, vs, rfl, s1, b1⟩
  have S1 := Lib.hid s1.sys
  have E := Lib.hid b1
  clear s1 b1
  go_wp2_with fail
  refine (calm_no relayS _ _ _ 4 _ ((he.up D.out).up E.out) S1.out 5 relay_calm4 (by decide)).mono ?_
  rintro e w4 ⟨rfl, b2⟩
  have E := Lib.hid (E.out.trans (b2.mono E.out.size))
  clear b2 S1
  go_wp2_with fail
  have E1 := Lib.hid (E.out.alloc E.out.size (.cells #[.slice none 0 0, .slice none 0 0, .slice none 0 0] 26))
  generalize w4.alloc (.cells #[.slice none 0 0, .slice none 0 0, .slice none 0 0] 26) = W4 at *
  clear E
  refine (relayX_any _).mono ?_
  rintro e w5 ⟨vp, vs, rfl, ⟨q1, q2, q3, rfl⟩, ⟨q4, q5, q6, rfl⟩, hgl, hx, b5⟩
  generalize hgg : W4.heap.size + 7 = g at hx hgl
  have hgW : W2.heap.size ≤ g := by have := E1.out.size; omega
  have E5 := Lib.hid (E1.out.trans (b5.mono E1.out.size))
  have hx0 := hx
  have hx5 := hx _ (show Below w5.heap.size w5 (w5.alloc (.cells #[.slice q1 q2 q3, .slice (some ⟨g, 0, none⟩) 2 2, .slice q4 q5 q6] 26)) from (Below.refl _ _).alloc (Nat.le_refl _) _)
  have hgne : g ≠ w5.heap.size := by omega
  have hz6 : (w5.alloc (.cells #[.slice q1 q2 q3, .slice (some ⟨g, 0, none⟩) 2 2, .slice q4 q5 q6] 26)).heap.size = w5.heap.size + 1 := by simp
  have HX0 := Lib.hid hx
  clear hx b5 E1 hx0
  have HX5 := Lib.hid ((HX0.out _ (Below.refl _ _)).2.2)
  go_wp2_with fail
  have XV := Lib.hid (var3_new (w5.setCell ⟨g, 2, none⟩ (.int .i64 2)) (.slice q1 q2 q3) (.slice (some ⟨g, 0, none⟩) 2 2) (.slice q4 q5 q6) 26 w5.heap.size (by rw [size_set]))
  have SX := Lib.hid (HX5.out.up (w' := (w5.setCell ⟨g, 2, none⟩ (.int .i64 2)).alloc (.cells #[.slice q1 q2 q3, .slice (some ⟨g, 0, none⟩) 2 2, .slice q4 q5 q6] 26)) ((Below.refl _ _).alloc (Nat.le_refl _) _))
  have E6 := Lib.hid ((E5.out.setCell (p := ⟨g, 2, none⟩) hgW (.int .i64 2)).alloc (by rw [size_set]; exact E5.out.size) (.cells #[.slice q1 q2 q3, .slice (some ⟨g, 0, none⟩) 2 2, .slice q4 q5 q6] 26))
  generalize (w5.setCell ⟨g, 2, none⟩ (.int .i64 2)).alloc (.cells #[.slice q1 q2 q3, .slice (some ⟨g, 0, none⟩) 2 2, .slice q4 q5 q6] 26) = W6 at *
  clear hx5 hz6 hgne HX5 HX0 E5 hgl hgg hgW
  generalize w5.heap.size = xb at *
  refine (relay_any _).mono ?_
  rintro e w7 ⟨vp, vc, vs, rfl, s7, b7⟩
  have S7 := Lib.hid s7.sys
  have F := Lib.hid b7
  have H6 := Lib.hid ((he.up D.out).up E6.out)
  clear s7 b7
  go_wp2_with fail
  refine (confCheck_any relayS _ _ _ _ (H6.out.up F.out) S7.out).mono ?_
  rw [relay_chk]
  rintro e w8 ⟨rfl, b8⟩
  have F := Lib.hid (F.out.trans (b8.mono F.out.size))
  clear b8 S7
  go_wp2_with fail
  refine (confCheck_any ⟨[], [], []⟩ _ _ _ _ (H6.out.up F.out) ⟨⟨[], rfl, Sl.nil _ _, fun k hk => absurd hk (by simp)⟩, Sl.nil _ _, Sl.nil _ _⟩).mono ?_
  rw [zero_chk]
  rintro e w9 ⟨rfl, b9⟩
  have F := Lib.hid (F.out.trans (b9.mono F.out.size))
  clear b9
  have x0 := (XV.out.up F.out).x
  have x1 := (XV.out.up F.out).y
  have x2 := (XV.out.up F.out).z
  go_wp2_with fail
  refine (confCheck_any relayX _ _ _ _ (H6.out.up F.out) (SX.out.up F.out)).mono ?_
  rw [relayX_chk]
  rintro e w10 ⟨rfl, b10⟩
  have F := Lib.hid (F.out.trans (b10.mono F.out.size))
  have G := Lib.hid (E6.out.trans (F.out.mono E6.out.size))
  clear b10 x0 x1 x2 XV SX
  have y0 := (VV.out.up G.out).x
  obtain ⟨pb, po, pc, e1, hpc, hpb, hpp⟩ := (P2.out.up G.out).open (by decide)
  cases e1
  obtain ⟨c, i, c0, c1, hpr⟩ := hpp 3 (by decide)
  obtain ⟨cb, co, ccap, hce, hcc, hcb, hcs⟩ := hpr.code.open (by decide)
  obtain ⟨d0, d1, d2, d3⟩ := code_cells hcs 0 (by decide)
  have hce : c = .slice (some ⟨cb, co, none⟩) 1 ccap := hce
  subst hce
  have c0 : w10.cell? ⟨pb, po + 6, none⟩ = some (.slice (some ⟨cb, co, none⟩) 1 ccap) := c0
  have d0 : w10.cell? ⟨cb, co, none⟩ = some (.int .i64 15) := d0
  have Z := Lib.hid (D.out.trans (G.out.mono D.out.size))
  clear hpp hcs hpr c1 d1 d2 d3
  go_wp2
  go_ret
  exact ⟨rfl, Z.out⟩
end Go.Proofs.YtdijpjmbicfcdaaDoor

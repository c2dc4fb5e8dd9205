/- ref.KernStep. -/
import Derived.Test.YtehhhiodfcdnmaaGreatDoorR18
import Derived.Test.YtehhhiodfcdnmaaGreatDoorR36
namespace Go.Proofs.YtehhhiodfcdnmaaGreatDoor
set_option linter.unusedSimpArgs false
set_option linter.unusedVariables false
set_option maxRecDepth 100000
set_option maxHeartbeats 16000000
open Go.RowKit Go.Sort
theorem ent_stepOf : Enters 69 := enters Tryz.func69 kr kr
theorem ent_putOf : Enters 70 := enters Tryz.func70 kr kr
theorem ent_getOf : Enters 71 := enters Tryz.func71 kr kr
theorem stepOf_next (l : List Ins) (inn xs : List Int) (c c' : Cel) (xs' : List Int) (x' : Wnt) (hst : stepC l inn xs c = (c', xs', x')) (v iv ov : Value) (hl : chkC l = 0) (hi : inn.length ≤ 12) (hf : c.fine xs.length = true) (hr : c.read ≤ inn.length) (w : World) (hC : Sl w 4 v l.length (codeC l)) (hI : Sl w 1 iv inn.length (ints inn)) (hO : Sl w 1 ov xs.length (ints xs)) :
  Calls Tryz.prog 69 #[.agg #[v, iv], .agg (c.cs ov)] w fun e w' => ∃ ao cap, e = .returned (.tuple #[.agg (c'.cs (.slice ao xs'.length cap)), .agg x'.cs]) ∧ w'.ownsRow w.heap.size 3 1 (.slice ao xs'.length cap) xs'.length (ints xs') ∧ Below w.heap.size w w' := by
 have h := stepOf_any l inn xs v iv ov c hl hi hf hr w hC hI hO
 rw [hst] at h
 refine h.mono ?_
 rintro e w' ⟨o', rfl, h1, h2⟩
 obtain ⟨ao, cap, rfl⟩ := own_form h1
 exact ⟨ao, cap, rfl, h1, h2⟩
structure Kr (w' : World) (g g9 gw lb lp : Nat) (r3 r9 rw : Array Value) (lv : Value) : Prop where
 a : Rw w' g 30 r3
 b : Rw w' g9 124 r9
 c : Rw w' gw 30 rw
 d : w'.cell? ⟨lb, lp, none⟩ = some lv
theorem Kr.up {w w' : World} {g g9 gw lb lp : Nat} {r3 r9 rw : Array Value} {lv : Value} (h : Kr w g g9 gw lb lp r3 r9 rw lv) (hl : lb < w.heap.size) (hb : Below w.heap.size w w') : Kr w' g g9 gw lb lp r3 r9 rw lv :=
 ⟨h.a.up hb h.a.lt, h.b.up hb h.b.lt, h.c.up hb h.c.lt, bcl hb hl h.d⟩
theorem Kr.set {w : World} {g g9 gw lb lp : Nat} {r3 r9 rw : Array Value} {lv : Value} (h : Kr w g g9 gw lb lp r3 r9 rw lv) {x i : Nat} (u : Value) (h1 : g ≠ x) (h2 : g9 ≠ x) (h3 : gw ≠ x) (h4 : lb ≠ x) : Kr (w.setCell ⟨x, i, none⟩ u) g g9 gw lb lp r3 r9 rw lv :=
 ⟨h.a.set_other _ h1, h.b.set_other _ h2, h.c.set_other _ h3, cl_set (Or.inl h4) h.d⟩
def NE (x : Nat) (o : Value) : Prop := o.ownBlock ≠ some x
structure NewVX (x B G : Nat) (w : World) (vc vl : Value) (cs : List CelD) (ls : List (List Int)) : Prop where
 c : ∃ ps : List (Cel × Value), ps.length = cs.length ∧ w.ownsRow B 35 16 vc cs.length (rowC celC ps) ∧ ∀ k (hk : k < cs.length) (hk' : k < ps.length), ps[k].1 = cs[k].c ∧ Sl w 1 ps[k].2 cs[k].out.length (ints cs[k].out) ∧ In B G w vc vl ps[k].2 ∧ NE x ps[k].2
 l : ∃ vs : List Value, vs.length = ls.length ∧ w.ownsRow B 81 1 vl ls.length vs ∧ ∀ k (hk : k < ls.length) (hk' : k < vs.length), Sl w 1 vs[k] ls[k].length (ints ls[k]) ∧ In B G w vc vl vs[k] ∧ NE x vs[k]
 a : ∀ b, vc.ownBlock = some b → vl.ownBlock ≠ some b
 xc : NE x vc
 xl : NE x vl
structure NewX (x B G : Nat) (w : World) (vc vl : Value) (cs : List CelD) (ls : List (List Int)) : Prop where
 c : ∃ ps : List (Cel × Value), ps.length = cs.length ∧ w.ownsRow B 35 16 vc cs.length (rowC celC ps) ∧ ∀ k (hk : k < cs.length) (hk' : k < ps.length), ps[k].1 = cs[k].c ∧ Sl w 1 ps[k].2 cs[k].out.length (ints cs[k].out) ∧ In2 B G vc ps[k].2 ∧ NE x ps[k].2
 l : ∃ vs : List Value, vs.length = ls.length ∧ Sl w 1 vl ls.length vs ∧ ∀ k (hk : k < ls.length) (hk' : k < vs.length), Sl w 1 vs[k] ls[k].length (ints ls[k]) ∧ In2 B G vc vs[k] ∧ NE x vs[k]
 bl : In2 B G vc vl
 xc : NE x vc
 xl : NE x vl
section
variable {x B G : Nat} {w W : World} {vc vl : Value} {cs : List CelD} {ls : List (List Int)}
theorem NewX.newP (h : NewX x B G w vc vl cs ls) : NewP B G w vc vl cs ls := by
 obtain ⟨⟨ps, p1, p2, p3⟩, ⟨vs, q1, q2, q3⟩, bl, _, _⟩ := h
 exact ⟨⟨ps, p1, p2, fun k hk hk' => ⟨(p3 k hk hk').1, (p3 k hk hk').2.1, (p3 k hk hk').2.2.1⟩⟩, ⟨vs, q1, q2, fun k hk hk' => ⟨(q3 k hk hk').1, (q3 k hk hk').2.1⟩⟩, bl⟩
theorem NewX.up (h : NewX x B G w vc vl cs ls) (hb : Below w.heap.size w W) : NewX x B G W vc vl cs ls := by
 obtain ⟨⟨ps, p1, p2, p3⟩, ⟨vs, q1, q2, q3⟩, bl, xc, xl⟩ := h
 exact ⟨⟨ps, p1, own_up p2 hb (own_lt p2), fun k hk hk' => ⟨(p3 k hk hk').1, (p3 k hk hk').2.1.up hb, (p3 k hk hk').2.2⟩⟩, ⟨vs, q1, q2.up hb, fun k hk hk' => ⟨(q3 k hk hk').1.up hb, (q3 k hk hk').2⟩⟩, bl, xc, xl⟩
theorem NewX.row (h : NewX x B G w vc vl cs ls) (u : Array Value) : NewX x B G (w.setRow x u) vc vl cs ls := by
 obtain ⟨⟨ps, p1, p2, p3⟩, ⟨vs, q1, q2, q3⟩, bl, xc, xl⟩ := h
 exact ⟨⟨ps, p1, own_row p2 u xc, fun k hk hk' => ⟨(p3 k hk hk').1, (p3 k hk hk').2.1.row u (p3 k hk hk').2.2.2, (p3 k hk hk').2.2⟩⟩, ⟨vs, q1, q2.row u xl, fun k hk hk' => ⟨(q3 k hk hk').1.row u (q3 k hk hk').2.2, (q3 k hk hk').2⟩⟩, bl, xc, xl⟩
theorem NewV.toX (h : NewV B G w vc vl cs ls) (hx : w.heap.size ≤ x) (hb : Below w.heap.size w W) : NewVX x B G W vc vl cs ls := by
 obtain ⟨⟨ps, p1, p2, p3⟩, ⟨vs, q1, q2, q3⟩, a⟩ := h
 have ne : ∀ o, In B G w vc vl o → NE x o := fun o h e => by have := (h x e).2.1; omega
 exact ⟨⟨ps, p1, own_up p2 hb (own_lt p2), fun k hk hk' => ⟨(p3 k hk hk').1, (p3 k hk hk').2.1.up hb, (p3 k hk hk').2.2.up hb.size, ne _ (p3 k hk hk').2.2⟩⟩, ⟨vs, q1, own_up q2 hb (own_lt q2), fun k hk hk' => ⟨(q3 k hk hk').1.up hb, (q3 k hk hk').2.up hb.size, ne _ (q3 k hk hk').2⟩⟩, a, fun e => by have := own_lt p2 x e; omega, fun e => by have := own_lt q2 x e; omega⟩
theorem NewVX.putL (h : NewVX x B G w vc vl cs ls) {kn : Nat} (hk : kn < ls.length) (d : List Int) (o : Value) (ho : Sl w 1 o d.length (ints d)) (hi : In2 B G vc o) (hi2 : ∀ b, o.ownBlock = some b → vl.ownBlock ≠ some b) (gl : vl.ownBlock ≠ some G) (hox : NE x o) :
  ∃ g cap, vl = .slice (some ⟨g, 0, none⟩) ls.length cap ∧ B ≤ g ∧ g < w.heap.size ∧ ls.length ≤ cap ∧ (∃ u, w.cell? ⟨g, kn, none⟩ = some u) ∧ w.frozen? ⟨g, kn, none⟩ = false ∧ NewX x B G (w.setCell ⟨g, kn, none⟩ o) vc vl cs (ls.set kn d) := by
 obtain ⟨⟨ps, p1, p2, p3⟩, ⟨vs, q1, q2, q3⟩, a, xc, xl⟩ := h
 obtain ⟨hlen, hor⟩ := q2
 have q2' : w.ownsRow B 81 1 vl ls.length vs := ⟨hlen, hor⟩
 rcases hor with ⟨-, h0⟩ | ⟨g, cap, cur, rfl, hg, hh, hcap, hmax, hsz, htk⟩
 ·omega
 have hgl := own_lt q2' g rfl
 have hne : ∀ y, In B G w vc (.slice (some ⟨g, 0, none⟩) ls.length cap) y → y.ownBlock ≠ some g := fun y hy e => (hy g e).2.2.2 rfl
 refine ⟨g, cap, rfl, hg, hgl, hcap, ?_, frozen_of_row w g _ cur _ hh, ⟨ps, p1, own_set (a := ⟨g, kn, none⟩) p2 o (fun e => a g e rfl), fun k hk hk' => ⟨(p3 k hk hk').1, (p3 k hk hk').2.1.set o (hne _ (p3 k hk hk').2.2.1), (p3 k hk hk').2.2.1.in2, (p3 k hk hk').2.2.2⟩⟩, ⟨vs.set kn o, by simp [q1], ?_, fun k hk2 hk' => ?_⟩, fun b e => ⟨⟨own_block q2' b e, fun e' => gl (e' ▸ e)⟩, fun e' => a b e' e⟩, xc, xl⟩
 ·rw [cell_of_row w g _ cur _ _ hh]
  exact ⟨_, Array.getElem?_eq_getElem om⟩
 ·refine own_sl (base := B) (e := 81) ⟨by simpa using hlen, .inr ⟨g, cap, cur.setIfInBounds kn o, by simp, hg, heap_setCell_same w g kn cur _ o hh, by simpa using hcap, hmax, by simpa using hsz, ?_⟩⟩
  rw [Array.toList_setIfInBounds, List.length_set, List.take_set, htk]
 ·have hk3 : k < ls.length := by simpa using hk2
  have hk3' : k < vs.length := by omega
  by_cases he : kn = k
  ·subst he
   simp only [List.getElem_set_self]
   exact ⟨ho.set o (fun e => hi2 g e rfl), hi, hox⟩
  ·simp only [List.getElem_set_ne he]
   exact ⟨(q3 k hk3 hk3').1.set o (hne _ (q3 k hk3 hk3').2.1), (q3 k hk3 hk3').2.1.in2, (q3 k hk3 hk3').2.2⟩
end
structure Fs (w W : World) (g g8 g9 : Nat) (tick : Int) (nc nl : Value) (cs : List CelD) (ls : List (List Int)) (c : Cel) (v : Value) (x : Wnt) (ys : List Int) : Prop where
 d : Below w.heap.size w W
 r2 : Rw W (w.heap.size + 1 + 1) 30 #[.int .i64 0, .slice none 0 0, .slice none 0 0]
 r3 : Rw W g 30 #[.int .i64 tick, nc, nl]
 n : NewX g8 (w.heap.size + 3) g W nc nl cs ls
 r8 : Rw W g8 35 (c.cs v)
 r9 : Rw W g9 124 x.cs
 s : Sl W 1 v ys.length (ints ys)
 i : In2 (w.heap.size + 3) g nc v
theorem kernStepRef_any (S : SysD) (D : WldD) (vp vc vs uc ul : Value) (w : World) (hS : Sys w vp vc vs S) (hW : Wld w uc ul D) (hk : chkS S = 0) (ht0 : 0 ≤ D.tick) (ht1 : D.tick < 300) (hcB : cellsB S.parts D.cells = true) (hlB : linesB S.chans D.lines = true) :
  Calls Tryz.prog 29 #[.agg #[vp, vc, vs], .agg #[.int .i64 D.tick, uc, ul]] w fun e w' => ∃ vc' vl', e = .returned (.agg #[.int .i64 (D.tick + 1), vc', vl']) ∧ WldF w.heap.size w' vc' vl' (nextC S D) ∧ Below w.heap.size w w' := by
 obtain ⟨hct, hco, -, -, -⟩ := chkS_zero hk
 obtain ⟨hcs, hin⟩ := countsB_is hct
 obtain ⟨hw0, hw1⟩ := who_range hk ht0
 obtain ⟨pn, hpn⟩ := Int.eq_ofNat_of_zero_le hw0
 have hlc := cellsB_len hcB
 have hll := linesB_len hlB
 have hp : pn < S.parts.length := by omega
 have hpd : pn < D.cells.length := by omega
 have hcel := fun k h h' => cellsB_at hcB k h h'
 have hlin := fun k h h' => linesB_at hlB k h h'
 have HO := hd (show ∀ k (h : k < D.cells.length), D.cells[k].out.length ≤ 16 from fun k h => by
  have := hcel k om h
  unfold celB at this
  rw [Bool.and_eq_true] at this
  exact ((fine_iff _ _).1 this.1).2.2.2.2.2.2)
 have HLN := hd (show ∀ k (h : k < D.lines.length), D.lines[k].length ≤ 3 from fun k h => by
  have := chkL_zero (hlin k om h)
  omega)
 have hfp := hcel pn hp hpd
 have hcp := hco pn hp
 have hip := hin pn hp
 have hwant := step_want hk hp (inn := S.parts[pn].inn) (xs := D.cells[pn].out) (c := D.cells[pn].c)
 obtain ⟨pa, pc, rfl⟩ := hS.p.form
 obtain ⟨ka, kc, rfl⟩ := hS.c.form
 obtain ⟨sa, sc, rfl⟩ := hS.s.form
 obtain ⟨ua, uc, rfl⟩ := hW.c.form
 obtain ⟨la, lc, rfl⟩ := hW.l.form
 obtain ⟨pb, po, pcap, e2, hpcap, hpbw, hpc⟩ := hS.p.open om
 cases e2
 obtain ⟨cv, iv, hcv, hiv, hpr⟩ := hpc pn hp
 obtain ⟨b, off, cap, e1, hcap, hbw, hcc⟩ := hW.c.open om
 cases e1
 obtain ⟨ao, oc, hra, hso⟩ := hcc pn hpd
 have HNX : Hid (nextC S D = nextC S D) := hd rfl
 generalize hPe : S.parts[pn] = P at hfp hcp hip hwant hpr
 generalize hde : D.cells[pn] = d at hfp hwant hra hso
 obtain ⟨code, inn⟩ := P
 obtain ⟨c, out⟩ := d
 simp only at hcp hip hwant hra hso
 obtain ⟨ia, ic, rfl⟩ := hpr.inn.form
 obtain ⟨qa, qc, rfl⟩ := hpr.code.form
 have hfp' : c.fine out.length = true ∧ c.read ≤ inn.length := by
  unfold celB at hfp
  rw [Bool.and_eq_true] at hfp
  exact ⟨hfp.1, by simpa using hfp.2⟩
 obtain ⟨hfi, hrd⟩ := hfp'
 have hwant := hwant ((fine_iff c _).1 hfi).1
 obtain ⟨⟨c', ys, x'⟩, hst⟩ : ∃ r, stepC code inn out c = r := ⟨_, rfl⟩
 rw [hst] at hwant
 have hG := stepC_goes (l := code) (inn := inn) (xs := out) (c := c) hcp hfi hrd
 rw [hst] at hG
 simp only at hwant hG
 have HST := hd hst
 have HFI := hd (hG.fine ((fine_iff c _).1 hfi).2.2.1 hip)
 have HA := hd fun w hC hI hO => stepOf_next code inn out c c' ys x' hst (.slice qa code.length qc) (.slice ia inn.length ic) (.slice ao out.length oc) hcp hip hfi hrd w hC hI hO
 have HCPD := hd fun w hW => ownWorld_any D (.slice (some ⟨b, off, none⟩) D.cells.length uc) (.slice la D.lines.length lc) w om om HO.out HLN.out hW
 obtain ⟨hsok, hs1⟩ := slots_ok hk
 have HWHO := hd fun w hS => whoOf_any S hsok hs1 (.slice (some ⟨pb, po, none⟩) S.parts.length pc) (.slice ka S.chans.length kc) (.slice sa S.slots.length sc) D.tick ht0 w hS pn hpn
 clear hsok hs1
 have HS := hd hS
 have HW := hd hW
 have HPR := hd hpr
 have HCV := hd hcv
 have HIV := hd hiv
 have HRA := hd hra
 have HSO := hd hso
 have HPE := hd hPe
 have HDE := hd hde
 have HPN := hd hpn
 have HWANT := hd hwant
 have HGO := hd hG
 have HLIN := hd hlin
 have hpi : (pn : Int) < S.parts.length := by omega
 have hpdi : (pn : Int) < D.cells.length := by omega
 have HLC := hd hlc
 have HLL := hd hll
 clear hS hW hpr hcv hiv hra hso hPe hde hpn hwant hG hlin hst hcel hco hin hct hcB hlB hcc hpc hfi hrd hfp hcp hip hlc hll hw0 hw1 hk HO HLN
 go_enter Tryz.func29, Tryz.ntmps29
 go_wp2_with fail
 refine (HCPD.out _ (HW.out.up up0)).mono ?_
 rintro e w1 ⟨vc1, vl1, rfl, hN, b1⟩
 have z1 := b1.size
 simp at z1
 obtain ⟨a3, c3, rfl⟩ := hN.formC
 obtain ⟨a4, c4, rfl⟩ := hN.formL
 have R0 : Hid (Rw w1 w.heap.size 26 #[.slice (some ⟨pb, po, none⟩) S.parts.length pc, .slice ka S.chans.length kc, .slice sa S.slots.length sc]) := Rw.up rn0 b1 o3
 have R1 : Hid (Rw w1 (w.heap.size + 1) 30 #[.int .i64 D.tick, .slice (some ⟨b, off, none⟩) D.cells.length uc, .slice la D.lines.length lc]) := Rw.up rn0 b1 o3
 have R2 : Hid (Rw w1 (w.heap.size + 1 + 1) 30 #[.int .i64 0, .slice none 0 0, .slice none 0 0]) := Rw.up rn0 b1 o3
 have HD1 : Hid (Below w.heap.size w w1) := by
  refine Below.trans ?_ (b1.mono o3)
  exact up0
 have HN1 := hd ((hN.low (B' := w.heap.size + 3) (by simp)).reG (Nat.le_refl w1.heap.size))
 clear b1 hN HCPD
 go_upto_region 2 with fail
 generalize hWe : World.alloc _ _ = W1
 have hF : Fn w W1 w1.heap.size D.tick (.slice (some ⟨pb, po, none⟩) S.parts.length pc) (.slice ka S.chans.length kc) (.slice sa S.slots.length sc) (.slice (some ⟨b, off, none⟩) D.cells.length uc) (.slice la D.lines.length lc) (.slice a3 D.cells.length c3) (.slice a4 D.lines.length c4) D.cells D.lines := by
  have hb : Below w1.heap.size w1 W1 := by rw [← hWe]; exact (Below.refl _ _).alloc (Nat.le_refl _) _
  refine ⟨HD1.out.trans (hb.mono om), R0.out.up hb om, R1.out.up hb om, R2.out.up hb om, ?_, HN1.out.up hb, by omega, fun k e => ?_, fun k e => ?_⟩
  ·rw [← hWe]; exact rn0
  ·have := (HN1.out.ltC k e).2; omega
  ·have := (HN1.out.ltL k e).2; omega
 have FN := hd hF
 have q0 := hF.r0.cell (j := 0) (v := .slice (some ⟨pb, po, none⟩) S.parts.length pc) rfl
 have q1 := hF.r0.cell (j := 1) (v := .slice ka S.chans.length kc) rfl
 have q2 := hF.r0.cell (j := 2) (v := .slice sa S.slots.length sc) rfl
 have q3 := hF.r1.cell (j := 0) (v := .int .i64 D.tick) rfl
 clear hWe hF R0 R1 R2 HD1 HN1
 go_wp2_with fail
 refine (HWHO.out _ (HS.out.up FN.out.d)).mono ?_
 rintro e w2 ⟨rfl, b2⟩
 have FN2 := hd (FN.out.up b2)
 have hsz2 := FN2.out.d.size
 clear b2 FN HWHO q0 q1 q2 q3
 go_upto_region 3 with fail
 have hpb2 : pb < w2.heap.size := by omega
 have hb2 : b < w2.heap.size := by omega
 have PCV := hd (bcl FN2.out.d hpbw HCV.out)
 have PIV := hd (bcl FN2.out.d hpbw HIV.out)
 have PRA := hd (range_up HRA.out FN2.out.d hbw)
 clear HCV HIV HRA hwant HNX
 go_cut [7, 8] from 18 to 31 (fun p8 p9 wd => ∃ g8 g9 a8 c8, p8 = .pointer (some ⟨g8, 0, none⟩) ∧ p9 = .pointer (some ⟨g9, 0, none⟩) ∧ Hid (Nd w2 wd g8 g9 c' (.slice a8 ys.length c8) x' ys))
 case first =>
  refine region_still (S := fun w' => Below w2.heap.size w2 w') 17 kr (Below.refl _ _).drew (fun hHeld => ?_)
  have hq := fun w' (hSw : (fun w' => Below w2.heap.size w2 w') w') => And.intro ((FN2.out.r0.up hSw FN2.out.r0.lt).cell (j := 0) (v := .slice (some ⟨pb, po, none⟩) S.parts.length pc) rfl) (And.intro ((FN2.out.r1.up hSw FN2.out.r1.lt).cell (j := 1) (v := .slice (some ⟨b, off, none⟩) D.cells.length uc) rfl) (And.intro (bcl hSw hpb2 PCV.out) (bcl hSw hpb2 PIV.out)))
  refine Still.u 0 [] hHeld hq ?_
  refine Still.u 1 [] hHeld hq ?_
  refine Still.u 2 [] hHeld hq ?_
  refine Still.u 3 [] hHeld hq ?_
  refine Still.u 4 [] hHeld hq ?_
  refine Still.u 5 [] hHeld hq ?_
  refine Still.u 6 [] hHeld hq ?_
  refine Still.u 7 [] hHeld hq ?_
  refine Still.u 8 [] hHeld hq ?_
  refine Still.y 9 [] rfl (yields_load_midA (by rfl) _ _ rfl b (off + pn * 16) ev (c.cs (.slice ao out.length oc)) _ (fun w' hSw => range_up PRA.out hSw hb2) Tryz.underlying35 rfl sizeCell) hHeld ?_
  have M0 := hd (Nx.begin w2 ys)
  generalize World.drew _ = Y0 at M0 hHeld ⊢
  refine Still.all (rs := [10, 14, 15]) kr (by simp) (Still.one (i := 10) rfl rfl (fun K hK => ?_) (Still.one (i := 14) rfl rfl (fun K hK => ?_) (Still.one (i := 15) rfl rfl (fun K hK => ?_) (by simp))))
  ·refine wp_call 69 _ _ rfl ent_stepOf #[.agg #[.slice qa code.length qc, .slice ia inn.length ic], .agg (c.cs (.slice ao out.length oc))] ev ((HA.out _ (HPR.out.code.up (FN2.out.d.trans (M0.out.d.mono hsz2))) (HPR.out.inn.up (FN2.out.d.trans (M0.out.d.mono hsz2))) (HSO.out.up (FN2.out.d.trans (M0.out.d.mono hsz2)))).mono ?_)
   rintro e Y1 ⟨a8, c8, rfl, o8, f8⟩
   have m := M0.out.call o8 f8
   refine ⟨_, rfl, hK _ _ (fun _ => m.d) (fun hh => ?_)⟩
   have hHeld := hh (by decide)
   clear hK K hh
   try simp only [Act.put, l1, l2, l3, l4, l5, l6]
   have M1 := hd m
   clear m M0 o8 f8
   refine Still.t 11 [] hHeld ?_
   refine Still.t 12 [] hHeld ?_
   refine Still.t 13 [] hHeld ?_
   refine Still.all (rs := [14, 15]) kr (by simp) (Still.one (i := 14) rfl rfl (fun K hK => ?_) (Still.one (i := 15) rfl rfl (fun K hK => ?_) (by simp)))
   ·go_simp
    have m : Nx w2 (Y1.alloc (.cells #[.int .i64 0, .int .i64 0, .int .i64 0, .int .i64 0, .int .i64 0, .int .i64 0, .int .i64 0, .int .i64 0, .int .i64 0, .int .i64 0, .int .i64 0, .int .i64 0, .int .i64 0, .int .i64 0, .slice none 0 0, .int .i64 0] 35)) (some (.slice a8 ys.length c8)) (some Y1.heap.size) none ys := M1.out.eight rfl
    refine hK _ _ (fun _ => m.d) (fun hh => ?_)
    have hHeld := hh (by decide)
    clear hK K hh
    try simp only [Act.put, l1, l2, l3, l4, l5, l6]
    generalize World.alloc _ _ = Y2 at m hHeld ⊢
    have M2 := hd m
    clear m M1
    refine Still.o 15 rfl rfl (fun K hK => ?_)
    go_simp
    have m : Nx w2 (Y2.alloc (.cells #[.int .i64 0, .int .i64 0, .int .i64 0, .int .i64 0, .int .i64 0] 124)) (some (.slice a8 ys.length c8)) (some Y1.heap.size) (some Y2.heap.size) ys := M2.out.nine rfl
    refine hK _ _ (fun _ => m.d) (fun hh => ?_)
    have hHeld := hh (by decide)
    clear hK K hh
    try simp only [Act.put, l1, l2, l3, l4, l5, l6]
    generalize World.alloc _ _ = Y3 at m hHeld ⊢
    have M3 := hd m
    clear m M2
    refine Still.o 16 rfl rfl (fun K hK => ?_)
    refine wp_store_row 35 _ _ rfl (Y1.heap.size) (c'.cs (.slice a8 ys.length c8)) ev ev 35 (celZ.cs (.slice none 0 0)) (M3.out.g _ rfl).1 sizeCell rfl (Cel.cs_one _ _ rfl) ?_
    refine hK _ _ (fun _ => below_row M3.out.d (M3.out.g _ rfl).2.1 _) (fun hh => ?_)
    have hHeld := hh (by decide)
    clear hK K hh
    try simp only [Act.put, l1, l2, l3, l4, l5, l6]
    refine Still.o 17 rfl rfl (fun K hK => ?_)
    refine wp_store_row 124 _ _ rfl (Y2.heap.size) x'.cs ev ev 124 wntZ.cs ((M3.out.h _ rfl).1.row_other _ (Ne.symm (M3.out.ne _ _ rfl rfl))) sizeWant rfl (Wnt.cs_one _) ?_
    refine hK _ _ ab (fun _ => Still.vv ?_)
    clear hK K
    clear hHeld
    go_wp2
    go_meet
    exact ⟨_, _, a8, c8, rfl, rfl, M3.out.done _ _⟩
   ·go_simp
    have m : Nx w2 (Y1.alloc (.cells #[.int .i64 0, .int .i64 0, .int .i64 0, .int .i64 0, .int .i64 0] 124)) (some (.slice a8 ys.length c8)) none (some Y1.heap.size) ys := M1.out.nine rfl
    refine hK _ _ (fun _ => m.d) (fun hh => ?_)
    have hHeld := hh (by decide)
    clear hK K hh
    try simp only [Act.put, l1, l2, l3, l4, l5, l6]
    generalize World.alloc _ _ = Y2 at m hHeld ⊢
    have M2 := hd m
    clear m M1
    refine Still.o 14 rfl rfl (fun K hK => ?_)
    go_simp
    have m : Nx w2 (Y2.alloc (.cells #[.int .i64 0, .int .i64 0, .int .i64 0, .int .i64 0, .int .i64 0, .int .i64 0, .int .i64 0, .int .i64 0, .int .i64 0, .int .i64 0, .int .i64 0, .int .i64 0, .int .i64 0, .int .i64 0, .slice none 0 0, .int .i64 0] 35)) (some (.slice a8 ys.length c8)) (some Y2.heap.size) (some Y1.heap.size) ys := M2.out.eight rfl
    refine hK _ _ (fun _ => m.d) (fun hh => ?_)
    have hHeld := hh (by decide)
    clear hK K hh
    try simp only [Act.put, l1, l2, l3, l4, l5, l6]
    generalize World.alloc _ _ = Y3 at m hHeld ⊢
    have M3 := hd m
    clear m M2
    refine Still.o 16 rfl rfl (fun K hK => ?_)
    refine wp_store_row 35 _ _ rfl (Y2.heap.size) (c'.cs (.slice a8 ys.length c8)) ev ev 35 (celZ.cs (.slice none 0 0)) (M3.out.g _ rfl).1 sizeCell rfl (Cel.cs_one _ _ rfl) ?_
    refine hK _ _ (fun _ => below_row M3.out.d (M3.out.g _ rfl).2.1 _) (fun hh => ?_)
    have hHeld := hh (by decide)
    clear hK K hh
    try simp only [Act.put, l1, l2, l3, l4, l5, l6]
    refine Still.o 17 rfl rfl (fun K hK => ?_)
    refine wp_store_row 124 _ _ rfl (Y1.heap.size) x'.cs ev ev 124 wntZ.cs ((M3.out.h _ rfl).1.row_other _ (Ne.symm (M3.out.ne _ _ rfl rfl))) sizeWant rfl (Wnt.cs_one _) ?_
    refine hK _ _ ab (fun _ => Still.vv ?_)
    clear hK K
    clear hHeld
    go_wp2
    go_meet
    exact ⟨_, _, a8, c8, rfl, rfl, M3.out.done _ _⟩
  ·go_simp
   have m : Nx w2 (Y0.alloc (.cells #[.int .i64 0, .int .i64 0, .int .i64 0, .int .i64 0, .int .i64 0, .int .i64 0, .int .i64 0, .int .i64 0, .int .i64 0, .int .i64 0, .int .i64 0, .int .i64 0, .int .i64 0, .int .i64 0, .slice none 0 0, .int .i64 0] 35)) none (some Y0.heap.size) none ys := M0.out.eight rfl
   refine hK _ _ (fun _ => m.d) (fun hh => ?_)
   have hHeld := hh (by decide)
   clear hK K hh
   try simp only [Act.put, l1, l2, l3, l4, l5, l6]
   generalize World.alloc _ _ = Y1 at m hHeld ⊢
   have M1 := hd m
   clear m M0
   refine Still.all (rs := [10, 15]) kr (by simp) (Still.one (i := 10) rfl rfl (fun K hK => ?_) (Still.one (i := 15) rfl rfl (fun K hK => ?_) (by simp)))
   ·refine wp_call 69 _ _ rfl ent_stepOf #[.agg #[.slice qa code.length qc, .slice ia inn.length ic], .agg (c.cs (.slice ao out.length oc))] ev ((HA.out _ (HPR.out.code.up (FN2.out.d.trans (M1.out.d.mono hsz2))) (HPR.out.inn.up (FN2.out.d.trans (M1.out.d.mono hsz2))) (HSO.out.up (FN2.out.d.trans (M1.out.d.mono hsz2)))).mono ?_)
    rintro e Y2 ⟨a8, c8, rfl, o8, f8⟩
    have m := M1.out.call o8 f8
    refine ⟨_, rfl, hK _ _ (fun _ => m.d) (fun hh => ?_)⟩
    have hHeld := hh (by decide)
    clear hK K hh
    try simp only [Act.put, l1, l2, l3, l4, l5, l6]
    have M2 := hd m
    clear m M1 o8 f8
    refine Still.t 11 [] hHeld ?_
    refine Still.t 12 [] hHeld ?_
    refine Still.t 13 [] hHeld ?_
    refine Still.o 15 rfl rfl (fun K hK => ?_)
    go_simp
    have m : Nx w2 (Y2.alloc (.cells #[.int .i64 0, .int .i64 0, .int .i64 0, .int .i64 0, .int .i64 0] 124)) (some (.slice a8 ys.length c8)) (some Y0.heap.size) (some Y2.heap.size) ys := M2.out.nine rfl
    refine hK _ _ (fun _ => m.d) (fun hh => ?_)
    have hHeld := hh (by decide)
    clear hK K hh
    try simp only [Act.put, l1, l2, l3, l4, l5, l6]
    generalize World.alloc _ _ = Y3 at m hHeld ⊢
    have M3 := hd m
    clear m M2
    refine Still.o 16 rfl rfl (fun K hK => ?_)
    refine wp_store_row 35 _ _ rfl (Y0.heap.size) (c'.cs (.slice a8 ys.length c8)) ev ev 35 (celZ.cs (.slice none 0 0)) (M3.out.g _ rfl).1 sizeCell rfl (Cel.cs_one _ _ rfl) ?_
    refine hK _ _ (fun _ => below_row M3.out.d (M3.out.g _ rfl).2.1 _) (fun hh => ?_)
    have hHeld := hh (by decide)
    clear hK K hh
    try simp only [Act.put, l1, l2, l3, l4, l5, l6]
    refine Still.o 17 rfl rfl (fun K hK => ?_)
    refine wp_store_row 124 _ _ rfl (Y2.heap.size) x'.cs ev ev 124 wntZ.cs ((M3.out.h _ rfl).1.row_other _ (Ne.symm (M3.out.ne _ _ rfl rfl))) sizeWant rfl (Wnt.cs_one _) ?_
    refine hK _ _ ab (fun _ => Still.vv ?_)
    clear hK K
    clear hHeld
    go_wp2
    go_meet
    exact ⟨_, _, a8, c8, rfl, rfl, M3.out.done _ _⟩
   ·go_simp
    have m : Nx w2 (Y1.alloc (.cells #[.int .i64 0, .int .i64 0, .int .i64 0, .int .i64 0, .int .i64 0] 124)) none (some Y0.heap.size) (some Y1.heap.size) ys := M1.out.nine rfl
    refine hK _ _ (fun _ => m.d) (fun hh => ?_)
    have hHeld := hh (by decide)
    clear hK K hh
    try simp only [Act.put, l1, l2, l3, l4, l5, l6]
    generalize World.alloc _ _ = Y2 at m hHeld ⊢
    have M2 := hd m
    clear m M1
    refine Still.o 10 rfl rfl (fun K hK => ?_)
    refine wp_call 69 _ _ rfl ent_stepOf #[.agg #[.slice qa code.length qc, .slice ia inn.length ic], .agg (c.cs (.slice ao out.length oc))] ev ((HA.out _ (HPR.out.code.up (FN2.out.d.trans (M2.out.d.mono hsz2))) (HPR.out.inn.up (FN2.out.d.trans (M2.out.d.mono hsz2))) (HSO.out.up (FN2.out.d.trans (M2.out.d.mono hsz2)))).mono ?_)
    rintro e Y3 ⟨a8, c8, rfl, o8, f8⟩
    have m := M2.out.call o8 f8
    refine ⟨_, rfl, hK _ _ (fun _ => m.d) (fun hh => ?_)⟩
    have hHeld := hh (by decide)
    clear hK K hh
    try simp only [Act.put, l1, l2, l3, l4, l5, l6]
    have M3 := hd m
    clear m M2 o8 f8
    refine Still.t 11 [] hHeld ?_
    refine Still.t 12 [] hHeld ?_
    refine Still.t 13 [] hHeld ?_
    refine Still.o 16 rfl rfl (fun K hK => ?_)
    refine wp_store_row 35 _ _ rfl (Y0.heap.size) (c'.cs (.slice a8 ys.length c8)) ev ev 35 (celZ.cs (.slice none 0 0)) (M3.out.g _ rfl).1 sizeCell rfl (Cel.cs_one _ _ rfl) ?_
    refine hK _ _ (fun _ => below_row M3.out.d (M3.out.g _ rfl).2.1 _) (fun hh => ?_)
    have hHeld := hh (by decide)
    clear hK K hh
    try simp only [Act.put, l1, l2, l3, l4, l5, l6]
    refine Still.o 17 rfl rfl (fun K hK => ?_)
    refine wp_store_row 124 _ _ rfl (Y1.heap.size) x'.cs ev ev 124 wntZ.cs ((M3.out.h _ rfl).1.row_other _ (Ne.symm (M3.out.ne _ _ rfl rfl))) sizeWant rfl (Wnt.cs_one _) ?_
    refine hK _ _ ab (fun _ => Still.vv ?_)
    clear hK K
    clear hHeld
    go_wp2
    go_meet
    exact ⟨_, _, a8, c8, rfl, rfl, M3.out.done _ _⟩
  ·go_simp
   have m : Nx w2 (Y0.alloc (.cells #[.int .i64 0, .int .i64 0, .int .i64 0, .int .i64 0, .int .i64 0] 124)) none none (some Y0.heap.size) ys := M0.out.nine rfl
   refine hK _ _ (fun _ => m.d) (fun hh => ?_)
   have hHeld := hh (by decide)
   clear hK K hh
   try simp only [Act.put, l1, l2, l3, l4, l5, l6]
   generalize World.alloc _ _ = Y1 at m hHeld ⊢
   have M1 := hd m
   clear m M0
   refine Still.all (rs := [10, 14]) kr (by simp) (Still.one (i := 10) rfl rfl (fun K hK => ?_) (Still.one (i := 14) rfl rfl (fun K hK => ?_) (by simp)))
   ·refine wp_call 69 _ _ rfl ent_stepOf #[.agg #[.slice qa code.length qc, .slice ia inn.length ic], .agg (c.cs (.slice ao out.length oc))] ev ((HA.out _ (HPR.out.code.up (FN2.out.d.trans (M1.out.d.mono hsz2))) (HPR.out.inn.up (FN2.out.d.trans (M1.out.d.mono hsz2))) (HSO.out.up (FN2.out.d.trans (M1.out.d.mono hsz2)))).mono ?_)
    rintro e Y2 ⟨a8, c8, rfl, o8, f8⟩
    have m := M1.out.call o8 f8
    refine ⟨_, rfl, hK _ _ (fun _ => m.d) (fun hh => ?_)⟩
    have hHeld := hh (by decide)
    clear hK K hh
    try simp only [Act.put, l1, l2, l3, l4, l5, l6]
    have M2 := hd m
    clear m M1 o8 f8
    refine Still.t 11 [] hHeld ?_
    refine Still.t 12 [] hHeld ?_
    refine Still.t 13 [] hHeld ?_
    refine Still.o 14 rfl rfl (fun K hK => ?_)
    go_simp
    have m : Nx w2 (Y2.alloc (.cells #[.int .i64 0, .int .i64 0, .int .i64 0, .int .i64 0, .int .i64 0, .int .i64 0, .int .i64 0, .int .i64 0, .int .i64 0, .int .i64 0, .int .i64 0, .int .i64 0, .int .i64 0, .int .i64 0, .slice none 0 0, .int .i64 0] 35)) (some (.slice a8 ys.length c8)) (some Y2.heap.size) (some Y0.heap.size) ys := M2.out.eight rfl
    refine hK _ _ (fun _ => m.d) (fun hh => ?_)
    have hHeld := hh (by decide)
    clear hK K hh
    try simp only [Act.put, l1, l2, l3, l4, l5, l6]
    generalize World.alloc _ _ = Y3 at m hHeld ⊢
    have M3 := hd m
    clear m M2
    refine Still.o 16 rfl rfl (fun K hK => ?_)
    refine wp_store_row 35 _ _ rfl (Y2.heap.size) (c'.cs (.slice a8 ys.length c8)) ev ev 35 (celZ.cs (.slice none 0 0)) (M3.out.g _ rfl).1 sizeCell rfl (Cel.cs_one _ _ rfl) ?_
    refine hK _ _ (fun _ => below_row M3.out.d (M3.out.g _ rfl).2.1 _) (fun hh => ?_)
    have hHeld := hh (by decide)
    clear hK K hh
    try simp only [Act.put, l1, l2, l3, l4, l5, l6]
    refine Still.o 17 rfl rfl (fun K hK => ?_)
    refine wp_store_row 124 _ _ rfl (Y0.heap.size) x'.cs ev ev 124 wntZ.cs ((M3.out.h _ rfl).1.row_other _ (Ne.symm (M3.out.ne _ _ rfl rfl))) sizeWant rfl (Wnt.cs_one _) ?_
    refine hK _ _ ab (fun _ => Still.vv ?_)
    clear hK K
    clear hHeld
    go_wp2
    go_meet
    exact ⟨_, _, a8, c8, rfl, rfl, M3.out.done _ _⟩
   ·go_simp
    have m : Nx w2 (Y1.alloc (.cells #[.int .i64 0, .int .i64 0, .int .i64 0, .int .i64 0, .int .i64 0, .int .i64 0, .int .i64 0, .int .i64 0, .int .i64 0, .int .i64 0, .int .i64 0, .int .i64 0, .int .i64 0, .int .i64 0, .slice none 0 0, .int .i64 0] 35)) none (some Y1.heap.size) (some Y0.heap.size) ys := M1.out.eight rfl
    refine hK _ _ (fun _ => m.d) (fun hh => ?_)
    have hHeld := hh (by decide)
    clear hK K hh
    try simp only [Act.put, l1, l2, l3, l4, l5, l6]
    generalize World.alloc _ _ = Y2 at m hHeld ⊢
    have M2 := hd m
    clear m M1
    refine Still.o 10 rfl rfl (fun K hK => ?_)
    refine wp_call 69 _ _ rfl ent_stepOf #[.agg #[.slice qa code.length qc, .slice ia inn.length ic], .agg (c.cs (.slice ao out.length oc))] ev ((HA.out _ (HPR.out.code.up (FN2.out.d.trans (M2.out.d.mono hsz2))) (HPR.out.inn.up (FN2.out.d.trans (M2.out.d.mono hsz2))) (HSO.out.up (FN2.out.d.trans (M2.out.d.mono hsz2)))).mono ?_)
    rintro e Y3 ⟨a8, c8, rfl, o8, f8⟩
    have m := M2.out.call o8 f8
    refine ⟨_, rfl, hK _ _ (fun _ => m.d) (fun hh => ?_)⟩
    have hHeld := hh (by decide)
    clear hK K hh
    try simp only [Act.put, l1, l2, l3, l4, l5, l6]
    have M3 := hd m
    clear m M2 o8 f8
    refine Still.t 11 [] hHeld ?_
    refine Still.t 12 [] hHeld ?_
    refine Still.t 13 [] hHeld ?_
    refine Still.o 16 rfl rfl (fun K hK => ?_)
    refine wp_store_row 35 _ _ rfl (Y1.heap.size) (c'.cs (.slice a8 ys.length c8)) ev ev 35 (celZ.cs (.slice none 0 0)) (M3.out.g _ rfl).1 sizeCell rfl (Cel.cs_one _ _ rfl) ?_
    refine hK _ _ (fun _ => below_row M3.out.d (M3.out.g _ rfl).2.1 _) (fun hh => ?_)
    have hHeld := hh (by decide)
    clear hK K hh
    try simp only [Act.put, l1, l2, l3, l4, l5, l6]
    refine Still.o 17 rfl rfl (fun K hK => ?_)
    refine wp_store_row 124 _ _ rfl (Y0.heap.size) x'.cs ev ev 124 wntZ.cs ((M3.out.h _ rfl).1.row_other _ (Ne.symm (M3.out.ne _ _ rfl rfl))) sizeWant rfl (Wnt.cs_one _) ?_
    refine hK _ _ ab (fun _ => Still.vv ?_)
    clear hK K
    clear hHeld
    go_wp2
    go_meet
    exact ⟨_, _, a8, c8, rfl, rfl, M3.out.done _ _⟩
 case rest =>
  obtain ⟨g8, g9, a8, c8, rfl, rfl, HN⟩ := hcut
  have F3 := hd (FN2.out.up HN.out.d)
  have hlt3 := FN2.out.r3.lt
  have HIN : Hid (In (w.heap.size + 3) w1.heap.size wc (.slice a3 D.cells.length c3) (.slice a4 D.lines.length c4) (.slice a8 ys.length c8)) := fun x e => by
   obtain ⟨h1, h2, _, _⟩ := HN.out.n x e
   refine ⟨⟨by omega, by omega⟩, h2, fun e' => ?_, fun e' => ?_⟩
   ·have := (FN2.out.n.ltC x e').2; omega
   ·have := (FN2.out.n.ltL x e').2; omega
  have hn8 := HN.out.n8
  have HB8 := hd (show ∀ k, (Value.slice a3 D.cells.length c3).ownBlock = some k → k ≠ g8 ∧ k < w2.heap.size from fun k e => by have := (FN2.out.n.ltC k e).2; omega)
  have e1 : S.parts[(whoS S D.tick).toNat]? = some ⟨code, inn⟩ := by rw [HPN.out, Int.toNat_natCast, List.getElem?_eq_getElem hp, HPE.out]
  have e2 : D.cells[(whoS S D.tick).toNat]? = some ⟨c, out⟩ := by rw [HPN.out, Int.toNat_natCast, List.getElem?_eq_getElem hpd, HDE.out]
  have E1 := hd e1
  have E2 := hd e2
  have k9 := HN.out.r9.cell (j := 0) (v := .int .i64 x'.k) rfl
  clear e1 e2 HA PCV PIV PRA HSO HPR HPE HDE
  go_upto_if 34 with fail
  go_cut [9, 10, 11] from 34 to 85 (fun p9 p10 p11 wd => ∃ c2 a9 c9 ls', Hid (Fe w wd w1.heap.size g8 D.tick (.slice a3 D.cells.length c3) (.slice a4 D.lines.length c4) D.cells ls' c2 (.slice a9 ys.length c9) ys) ∧ Hid (nextC S D = ⟨D.tick + 1, D.cells.set pn ⟨c2, ys⟩, ls'⟩) ∧ Hid (Rw wd (w.heap.size + 1) 30 #[.int .i64 D.tick, .slice (some ⟨b, off, none⟩) D.cells.length uc, .slice la D.lines.length lc]))
  case first =>
   by_cases hx0 : x'.k = 0
   ·have hx' : (x'.k != 0) = false := by simpa using hx0
    have HEQ : Hid (nextC S D = ⟨D.tick + 1, D.cells.set pn ⟨c', ys⟩, D.lines⟩) := by
     show _ = _
     unfold nextC
     rw [E1.out, E2.out]
     simp only [HST.out]
     rw [if_pos hx0, HPN.out, Int.toNat_natCast]
    clear hx0
    go_wp2
    go_meet
    exact ⟨c', a8, c8, D.lines, ⟨F3.out.d, F3.out.r2, F3.out.r3, F3.out.n.newP (fun e => F3.out.gl _ e rfl), F3.out.g0, F3.out.gc, HN.out.r8, HN.out.s, HIN.out.in2⟩, HEQ, F3.out.r1⟩
   ·have hOK : WantOk S x' := by
     rcases HWANT.out with h | h
     ·exact absurd (by rw [h]; rfl) hx0
     ·exact h
    have hx' : (x'.k != 0) = true := by simpa using hx0
    rw [hx']
    obtain ⟨cn, hcn⟩ := Int.eq_ofNat_of_zero_le hOK.c0
    have hc1 := hOK.c1
    have hcl : cn < S.chans.length := by omega
    have hcli : (cn : Int) < S.chans.length := by omega
    have hc0i : (0 : Int) ≤ cn := by omega
    have hll := HLL.out
    have hll2 : cn < D.lines.length := by omega
    have hlli : (cn : Int) < D.lines.length := by omega
    obtain ⟨kb, ko, kcap, e5, hkcap, hkbw, hkc⟩ := HS.out.c.open om
    cases e5
    obtain ⟨hkd, _, _⟩ := chan_cells hkc cn hcl
    obtain ⟨lb, lo, lcap, e6, hlcap, hlbw, hlc⟩ := HW.out.l.open om
    cases e6
    obtain ⟨la1, lc1, hlv, hls⟩ := hlc cn hll2
    have hck := HLIN.out cn hcl hll2
    have e7 : S.chans[x'.ch.toNat]? = some S.chans[cn] := by rw [hcn, Int.toNat_natCast, List.getElem?_eq_getElem hcl]
    have e8 : D.lines[x'.ch.toNat]? = some D.lines[cn] := by rw [hcn, Int.toNat_natCast, List.getElem?_eq_getElem hll2]
    generalize S.chans[cn] = ch at hkd hck e7
    generalize D.lines[cn] = ln at hlv hls hck e8
    obtain ⟨kd, fr, tt⟩ := ch
    simp only at hkd hck
    obtain ⟨⟨zs, nv, tv⟩, hsv⟩ : ∃ r, servR kd ln x' = r := ⟨_, rfl⟩
    have hre : replyE true x'.k x'.reg x'.flag kd = 0 := by
     have h1 := chkL_zero hck
     have h2 : kindB kd = true := by unfold kindB; rcases h1 with h1 | h1 <;> simp [h1.1]
     have h3 : regB x'.reg = true := by unfold regB; simp [hOK.r0, hOK.r1]
     have h4 : regB x'.flag = true := by unfold regB; simp [hOK.f0, hOK.f1]
     unfold replyE
     rw [h2, h3, h4]
     rcases hOK.k with h5 | h5 <;> rw [h5] <;> rfl
    have HRP := hd fun w hS => replyOf_any c' ys (.slice a8 ys.length c8) x'.k x'.ch x'.reg x'.flag x'.val kd nv tv ((fine_iff _ _).1 HFI.out).2.2.2.2.2.2 hre w hS
    have HEQ : Hid (nextC S D = ⟨D.tick + 1, D.cells.set pn ⟨c'.replied x'.k x'.reg x'.flag kd nv tv, ys⟩, D.lines.set cn zs⟩) := by
     show _ = _
     unfold nextC
     rw [E1.out, E2.out]
     simp only [HST.out]
     rw [if_neg hx0, e7, e8]
     simp only [hsv]
     rw [HPN.out, Int.toNat_natCast, hcn, Int.toNat_natCast]
    generalize c'.replied x'.k x'.reg x'.flag kd nv tv = c2 at HRP HEQ
    have hwl := F3.out.d.size
    have q1 := F3.out.r0.cell (j := 1) (v := .slice (some ⟨kb, ko, none⟩) S.chans.length kc) rfl
    have q2 := HN.out.r9.cell (j := 1) (v := .int .i64 x'.ch) rfl
    rw [hcn] at q2
    have q3 := bcl F3.out.d hkbw hkd
    have HCK := hd hck
    have HSV := hd hsv
    have HCN := hd hcn
    -- the new world's lines lie in a row of their own
    obtain ⟨g4, hg4⟩ : ∃ g4, a4 = some ⟨g4, 0, none⟩ := by
     obtain ⟨vs, q1, q2, q3⟩ := F3.out.n.l
     rcases q2.2 with ⟨_, h0⟩ | ⟨g, cap, cur, e, _⟩
     ·omega
     ·injection e with e _ _
      exact ⟨g, e⟩
    subst hg4
    have hg42 := (FN2.out.n.ltL g4 rfl).2
    have hg41 := (FN2.out.n.ltL g4 rfl).1
    have hgg := F3.out.gl g4 rfl
    have hn9 := HN.out.n9
    have HKR : Hid (Kr wc w1.heap.size g9 (w.heap.size + 1) lb (lo + cn) #[.int .i64 D.tick, .slice a3 D.cells.length c3, .slice (some ⟨g4, 0, none⟩) D.lines.length c4] x'.cs #[.int .i64 D.tick, .slice (some ⟨b, off, none⟩) D.cells.length uc, .slice (some ⟨lb, lo, none⟩) D.lines.length lc] (.slice la1 ln.length lc1)) :=
     ⟨F3.out.r3, HN.out.r9, F3.out.r1, bcl F3.out.d hlbw hlv⟩
    have HLS := hd (hls.up F3.out.d)
    have hlbc : lb < wc.heap.size := by omega
    clear hkd hlv hls hkc hlc hck hsv hre e7 e8 hx0 hc1 hll hcn hOK
    go_upto_if 44 with fail
    clear q1 q2 q3
    go_cut [10, 11] from 44 to 79 (fun p10 p11 wd => p10 = .int .i64 nv ∧ p11 = .bool tv ∧ Hid (Fs w wd w1.heap.size g8 g9 D.tick (.slice a3 D.cells.length c3) (.slice (some ⟨g4, 0, none⟩) D.lines.length c4) D.cells (D.lines.set cn zs) c' (.slice a8 ys.length c8) x' ys) ∧ Hid (Rw wd (w.heap.size + 1) 30 #[.int .i64 D.tick, .slice (some ⟨b, off, none⟩) D.cells.length uc, .slice (some ⟨lb, lo, none⟩) D.lines.length lc]))
    case first =>
     by_cases hx12 : x'.k = 12
     ·have hx12' : (x'.k == 12) = true := by simpa using hx12
      have hp : putR kd ln x'.val = (zs, tv) ∧ nv = 0 := by
       have := HSV.out
       unfold servR at this
       rw [if_pos hx12] at this
       injection this with h1 h2
       injection h2 with h2 h3
       exact ⟨by rw [← h1, ← h3], h2.symm⟩
      obtain ⟨hp, rfl⟩ := hp
      have HPT := hd fun w hS => putRef_c kd ln (.slice la1 ln.length lc1) x'.val w hS HCK.out zs tv hp
      clear hp hx12
      rw [hx12']
      go_upto_region 8 with fail
      refine region_still (S := fun w' => Kr w' w1.heap.size g9 (w.heap.size + 1) lb (lo + cn) #[.int .i64 D.tick, .slice a3 D.cells.length c3, .slice (some ⟨g4, 0, none⟩) D.lines.length c4] x'.cs #[.int .i64 D.tick, .slice (some ⟨b, off, none⟩) D.cells.length uc, .slice (some ⟨lb, lo, none⟩) D.lines.length lc] (.slice la1 ln.length lc1)) 19 kr (HKR.out.up hlbc (Below.refl _ _).drew) (fun hHeld => ?_)
      refine Still.t 0 [] hHeld ?_ (hy := by (intro w' hSw; (try dsimp only at hSw); have q0 := hSw.a.cell (j := 2) (v := .slice (some ⟨g4, 0, none⟩) D.lines.length c4) rfl; have q1 := hSw.b.cell (j := 1) (v := .int .i64 x'.ch) rfl; rw [HCN.out] at q1; have q2 := hSw.c.cell (j := 2) (v := .slice (some ⟨lb, lo, none⟩) D.lines.length lc) rfl; have q3 := hSw.d; have q4 := hSw.b.cell (j := 4) (v := .int .i64 x'.val) rfl; clear hSw; go_simp; try with_reducible rfl))
      refine Still.t 1 [] hHeld ?_ (hy := by (intro w' hSw; (try dsimp only at hSw); have q0 := hSw.a.cell (j := 2) (v := .slice (some ⟨g4, 0, none⟩) D.lines.length c4) rfl; have q1 := hSw.b.cell (j := 1) (v := .int .i64 x'.ch) rfl; rw [HCN.out] at q1; have q2 := hSw.c.cell (j := 2) (v := .slice (some ⟨lb, lo, none⟩) D.lines.length lc) rfl; have q3 := hSw.d; have q4 := hSw.b.cell (j := 4) (v := .int .i64 x'.val) rfl; clear hSw; go_simp; try with_reducible rfl))
      refine Still.t 2 [] hHeld ?_ (hy := by (intro w' hSw; (try dsimp only at hSw); have q0 := hSw.a.cell (j := 2) (v := .slice (some ⟨g4, 0, none⟩) D.lines.length c4) rfl; have q1 := hSw.b.cell (j := 1) (v := .int .i64 x'.ch) rfl; rw [HCN.out] at q1; have q2 := hSw.c.cell (j := 2) (v := .slice (some ⟨lb, lo, none⟩) D.lines.length lc) rfl; have q3 := hSw.d; have q4 := hSw.b.cell (j := 4) (v := .int .i64 x'.val) rfl; clear hSw; go_simp; try with_reducible rfl))
      refine Still.t 3 [] hHeld ?_ (hy := by (intro w' hSw; (try dsimp only at hSw); have q0 := hSw.a.cell (j := 2) (v := .slice (some ⟨g4, 0, none⟩) D.lines.length c4) rfl; have q1 := hSw.b.cell (j := 1) (v := .int .i64 x'.ch) rfl; rw [HCN.out] at q1; have q2 := hSw.c.cell (j := 2) (v := .slice (some ⟨lb, lo, none⟩) D.lines.length lc) rfl; have q3 := hSw.d; have q4 := hSw.b.cell (j := 4) (v := .int .i64 x'.val) rfl; clear hSw; go_simp; try with_reducible rfl))
      refine Still.t 4 [] hHeld ?_ (hy := by (intro w' hSw; (try dsimp only at hSw); have q0 := hSw.a.cell (j := 2) (v := .slice (some ⟨g4, 0, none⟩) D.lines.length c4) rfl; have q1 := hSw.b.cell (j := 1) (v := .int .i64 x'.ch) rfl; rw [HCN.out] at q1; have q2 := hSw.c.cell (j := 2) (v := .slice (some ⟨lb, lo, none⟩) D.lines.length lc) rfl; have q3 := hSw.d; have q4 := hSw.b.cell (j := 4) (v := .int .i64 x'.val) rfl; clear hSw; go_simp; try with_reducible rfl))
      refine Still.t 5 [] hHeld ?_ (hy := by (intro w' hSw; (try dsimp only at hSw); have q0 := hSw.a.cell (j := 2) (v := .slice (some ⟨g4, 0, none⟩) D.lines.length c4) rfl; have q1 := hSw.b.cell (j := 1) (v := .int .i64 x'.ch) rfl; rw [HCN.out] at q1; have q2 := hSw.c.cell (j := 2) (v := .slice (some ⟨lb, lo, none⟩) D.lines.length lc) rfl; have q3 := hSw.d; have q4 := hSw.b.cell (j := 4) (v := .int .i64 x'.val) rfl; clear hSw; go_simp; try with_reducible rfl))
      refine Still.t 6 [] hHeld ?_ (hy := by (intro w' hSw; (try dsimp only at hSw); have q0 := hSw.a.cell (j := 2) (v := .slice (some ⟨g4, 0, none⟩) D.lines.length c4) rfl; have q1 := hSw.b.cell (j := 1) (v := .int .i64 x'.ch) rfl; rw [HCN.out] at q1; have q2 := hSw.c.cell (j := 2) (v := .slice (some ⟨lb, lo, none⟩) D.lines.length lc) rfl; have q3 := hSw.d; have q4 := hSw.b.cell (j := 4) (v := .int .i64 x'.val) rfl; clear hSw; go_simp; try with_reducible rfl))
      refine Still.t 7 [] hHeld ?_ (hy := by (intro w' hSw; (try dsimp only at hSw); have q0 := hSw.a.cell (j := 2) (v := .slice (some ⟨g4, 0, none⟩) D.lines.length c4) rfl; have q1 := hSw.b.cell (j := 1) (v := .int .i64 x'.ch) rfl; rw [HCN.out] at q1; have q2 := hSw.c.cell (j := 2) (v := .slice (some ⟨lb, lo, none⟩) D.lines.length lc) rfl; have q3 := hSw.d; have q4 := hSw.b.cell (j := 4) (v := .int .i64 x'.val) rfl; clear hSw; go_simp; try with_reducible rfl))
      refine Still.t 8 [] hHeld ?_ (hy := by (intro w' hSw; (try dsimp only at hSw); have q0 := hSw.a.cell (j := 2) (v := .slice (some ⟨g4, 0, none⟩) D.lines.length c4) rfl; have q1 := hSw.b.cell (j := 1) (v := .int .i64 x'.ch) rfl; rw [HCN.out] at q1; have q2 := hSw.c.cell (j := 2) (v := .slice (some ⟨lb, lo, none⟩) D.lines.length lc) rfl; have q3 := hSw.d; have q4 := hSw.b.cell (j := 4) (v := .int .i64 x'.val) rfl; clear hSw; go_simp; try with_reducible rfl))
      refine Still.t 9 [] hHeld ?_ (hy := by (intro w' hSw; (try dsimp only at hSw); have q0 := hSw.a.cell (j := 2) (v := .slice (some ⟨g4, 0, none⟩) D.lines.length c4) rfl; have q1 := hSw.b.cell (j := 1) (v := .int .i64 x'.ch) rfl; rw [HCN.out] at q1; have q2 := hSw.c.cell (j := 2) (v := .slice (some ⟨lb, lo, none⟩) D.lines.length lc) rfl; have q3 := hSw.d; have q4 := hSw.b.cell (j := 4) (v := .int .i64 x'.val) rfl; clear hSw; go_simp; try with_reducible rfl))
      refine Still.t 10 [] hHeld ?_ (hy := by (intro w' hSw; (try dsimp only at hSw); have q0 := hSw.a.cell (j := 2) (v := .slice (some ⟨g4, 0, none⟩) D.lines.length c4) rfl; have q1 := hSw.b.cell (j := 1) (v := .int .i64 x'.ch) rfl; rw [HCN.out] at q1; have q2 := hSw.c.cell (j := 2) (v := .slice (some ⟨lb, lo, none⟩) D.lines.length lc) rfl; have q3 := hSw.d; have q4 := hSw.b.cell (j := 4) (v := .int .i64 x'.val) rfl; clear hSw; go_simp; try with_reducible rfl))
      refine Still.t 11 [] hHeld ?_ (hy := by (intro w' hSw; (try dsimp only at hSw); have q0 := hSw.a.cell (j := 2) (v := .slice (some ⟨g4, 0, none⟩) D.lines.length c4) rfl; have q1 := hSw.b.cell (j := 1) (v := .int .i64 x'.ch) rfl; rw [HCN.out] at q1; have q2 := hSw.c.cell (j := 2) (v := .slice (some ⟨lb, lo, none⟩) D.lines.length lc) rfl; have q3 := hSw.d; have q4 := hSw.b.cell (j := 4) (v := .int .i64 x'.val) rfl; clear hSw; go_simp; try with_reducible rfl))
      refine Still.t 12 [] hHeld ?_ (hy := by (intro w' hSw; (try dsimp only at hSw); have q0 := hSw.a.cell (j := 2) (v := .slice (some ⟨g4, 0, none⟩) D.lines.length c4) rfl; have q1 := hSw.b.cell (j := 1) (v := .int .i64 x'.ch) rfl; rw [HCN.out] at q1; have q2 := hSw.c.cell (j := 2) (v := .slice (some ⟨lb, lo, none⟩) D.lines.length lc) rfl; have q3 := hSw.d; have q4 := hSw.b.cell (j := 4) (v := .int .i64 x'.val) rfl; clear hSw; go_simp; try with_reducible rfl))
      refine Still.o 13 rfl rfl (fun K hK => ?_)
      refine wp_call 70 _ _ rfl ent_putOf #[.int .i64 kd, .agg #[.slice la1 ln.length lc1], .int .i64 x'.val] ev ((HPT.out _ (HLS.out.up (Below.refl _ _).drew)).mono ?_)
      rintro e V1 ⟨v6, rfl, o6, f6⟩
      obtain ⟨a6, c6, rfl⟩ := o6.1.form
      have bW : Below wc.heap.size wc V1 := Below.trans (Below.refl _ _).drew f6
      have HNT := hd o6.2
      have hzV := bW.size
      have hd2 := HN.out.d.size
      refine ⟨_, rfl, hK _ _ (fun _ => HKR.out.up hlbc bW) (fun hh => ?_)⟩
      have hHeld := hh (by decide)
      clear hK K hh
      try simp only [Act.put, l1, l2, l3, l4, l5, l6]
      have hNX := (NewV.toX FN2.out.n hn8 (HN.out.d.trans (bW.mono HN.out.d.size))).putL hll2 zs (.slice a6 zs.length c6) o6.1 (fun x e => ⟨⟨by have : wc.heap.size ≤ x := HNT.out x e; omega, by have : wc.heap.size ≤ x := HNT.out x e; omega⟩, fun e' => by have : wc.heap.size ≤ x := HNT.out x e; have := (FN2.out.n.ltC x e').2; omega⟩) (fun x e e' => by have : wc.heap.size ≤ x := HNT.out x e; have := (FN2.out.n.ltL x e').2; omega) (fun e => FN2.out.gl _ e rfl) (fun e => by have : wc.heap.size ≤ g8 := HNT.out g8 e; have := HN.out.r8.lt; omega)
      obtain ⟨g4', cap4, e4, _, _, _, ⟨u4, hu4⟩, hf4, hX⟩ := hNX
      injection e4 with e4 _ e5
      injection e4 with e4
      injection e4 with e4
      subst e4 e5
      have HX := hd hX
      have BW := hd bW
      clear hX bW o6 f6
      refine Still.t 14 [] hHeld ?_
      refine Still.t 15 [] hHeld ?_
      refine Still.t 16 [] hHeld ?_
      refine Still.t 17 [] hHeld ?_
      refine Still.o 18 rfl rfl (fun K hK => ?_)
      go_simp
      refine hK _ _ (fun _ => hHeld.set _ om om om om) (fun hh => ?_)
      have hHeld := hh (by decide)
      clear hK K hh
      try simp only [Act.put, l1, l2, l3, l4, l5, l6]
      clear hu4 hf4
      refine Still.o 19 rfl rfl (fun K hK => ?_)
      go_simp
      refine hK _ _ ab (fun _ => Still.vv ?_)
      clear hK K
      clear hHeld
      go_wp2
      go_meet
      have h8 := HN.out.r8.lt
      have h9 := HN.out.r9.lt
      have h3 := F3.out.r3.lt
      have h2 := F3.out.r2.lt
      have h1 := F3.out.r1.lt
      refine ⟨rfl, rfl, ⟨?_, ?_, ?_, HX.out, ?_, ?_, ?_, HIN.out.in2⟩, ?_⟩
      ·exact (F3.out.d.trans (BW.out.mono F3.out.d.size)).setCell (p := ⟨g4, cn, none⟩) so _
      ·exact (F3.out.r2.up BW.out h2).set_other _ so
      ·exact (F3.out.r3.up BW.out h3).set_other _ so
      ·exact (HN.out.r8.up BW.out h8).set_other _ so
      ·exact (HN.out.r9.up BW.out h9).set_other _ so
      ·exact (HN.out.s.up BW.out).set _ (fun e => by have := (HN.out.n _ e).1; omega)
      ·exact (F3.out.r1.up BW.out h1).set_other _ so
     ·have hx12' : (x'.k == 12) = false := by simpa using hx12
      have hp : getR kd ln = (zs, nv, tv) := by
       have := HSV.out
       unfold servR at this
       rwa [if_neg hx12] at this
      have HPT := hd fun w hS => getRef_c kd ln (.slice la1 ln.length lc1) w hS HCK.out zs nv tv hp
      clear hp hx12
      rw [hx12']
      go_upto_region 9 with fail
      refine region_still (S := fun w' => Kr w' w1.heap.size g9 (w.heap.size + 1) lb (lo + cn) #[.int .i64 D.tick, .slice a3 D.cells.length c3, .slice (some ⟨g4, 0, none⟩) D.lines.length c4] x'.cs #[.int .i64 D.tick, .slice (some ⟨b, off, none⟩) D.cells.length uc, .slice (some ⟨lb, lo, none⟩) D.lines.length lc] (.slice la1 ln.length lc1)) 19 kr (HKR.out.up hlbc (Below.refl _ _).drew) (fun hHeld => ?_)
      refine Still.t 0 [] hHeld ?_ (hy := by (intro w' hSw; (try dsimp only at hSw); have q0 := hSw.a.cell (j := 2) (v := .slice (some ⟨g4, 0, none⟩) D.lines.length c4) rfl; have q1 := hSw.b.cell (j := 1) (v := .int .i64 x'.ch) rfl; rw [HCN.out] at q1; have q2 := hSw.c.cell (j := 2) (v := .slice (some ⟨lb, lo, none⟩) D.lines.length lc) rfl; have q3 := hSw.d; have q4 := hSw.b.cell (j := 4) (v := .int .i64 x'.val) rfl; clear hSw; go_simp; try with_reducible rfl))
      refine Still.t 1 [] hHeld ?_ (hy := by (intro w' hSw; (try dsimp only at hSw); have q0 := hSw.a.cell (j := 2) (v := .slice (some ⟨g4, 0, none⟩) D.lines.length c4) rfl; have q1 := hSw.b.cell (j := 1) (v := .int .i64 x'.ch) rfl; rw [HCN.out] at q1; have q2 := hSw.c.cell (j := 2) (v := .slice (some ⟨lb, lo, none⟩) D.lines.length lc) rfl; have q3 := hSw.d; have q4 := hSw.b.cell (j := 4) (v := .int .i64 x'.val) rfl; clear hSw; go_simp; try with_reducible rfl))
      refine Still.t 2 [] hHeld ?_ (hy := by (intro w' hSw; (try dsimp only at hSw); have q0 := hSw.a.cell (j := 2) (v := .slice (some ⟨g4, 0, none⟩) D.lines.length c4) rfl; have q1 := hSw.b.cell (j := 1) (v := .int .i64 x'.ch) rfl; rw [HCN.out] at q1; have q2 := hSw.c.cell (j := 2) (v := .slice (some ⟨lb, lo, none⟩) D.lines.length lc) rfl; have q3 := hSw.d; have q4 := hSw.b.cell (j := 4) (v := .int .i64 x'.val) rfl; clear hSw; go_simp; try with_reducible rfl))
      refine Still.t 3 [] hHeld ?_ (hy := by (intro w' hSw; (try dsimp only at hSw); have q0 := hSw.a.cell (j := 2) (v := .slice (some ⟨g4, 0, none⟩) D.lines.length c4) rfl; have q1 := hSw.b.cell (j := 1) (v := .int .i64 x'.ch) rfl; rw [HCN.out] at q1; have q2 := hSw.c.cell (j := 2) (v := .slice (some ⟨lb, lo, none⟩) D.lines.length lc) rfl; have q3 := hSw.d; have q4 := hSw.b.cell (j := 4) (v := .int .i64 x'.val) rfl; clear hSw; go_simp; try with_reducible rfl))
      refine Still.t 4 [] hHeld ?_ (hy := by (intro w' hSw; (try dsimp only at hSw); have q0 := hSw.a.cell (j := 2) (v := .slice (some ⟨g4, 0, none⟩) D.lines.length c4) rfl; have q1 := hSw.b.cell (j := 1) (v := .int .i64 x'.ch) rfl; rw [HCN.out] at q1; have q2 := hSw.c.cell (j := 2) (v := .slice (some ⟨lb, lo, none⟩) D.lines.length lc) rfl; have q3 := hSw.d; have q4 := hSw.b.cell (j := 4) (v := .int .i64 x'.val) rfl; clear hSw; go_simp; try with_reducible rfl))
      refine Still.t 5 [] hHeld ?_ (hy := by (intro w' hSw; (try dsimp only at hSw); have q0 := hSw.a.cell (j := 2) (v := .slice (some ⟨g4, 0, none⟩) D.lines.length c4) rfl; have q1 := hSw.b.cell (j := 1) (v := .int .i64 x'.ch) rfl; rw [HCN.out] at q1; have q2 := hSw.c.cell (j := 2) (v := .slice (some ⟨lb, lo, none⟩) D.lines.length lc) rfl; have q3 := hSw.d; have q4 := hSw.b.cell (j := 4) (v := .int .i64 x'.val) rfl; clear hSw; go_simp; try with_reducible rfl))
      refine Still.t 6 [] hHeld ?_ (hy := by (intro w' hSw; (try dsimp only at hSw); have q0 := hSw.a.cell (j := 2) (v := .slice (some ⟨g4, 0, none⟩) D.lines.length c4) rfl; have q1 := hSw.b.cell (j := 1) (v := .int .i64 x'.ch) rfl; rw [HCN.out] at q1; have q2 := hSw.c.cell (j := 2) (v := .slice (some ⟨lb, lo, none⟩) D.lines.length lc) rfl; have q3 := hSw.d; have q4 := hSw.b.cell (j := 4) (v := .int .i64 x'.val) rfl; clear hSw; go_simp; try with_reducible rfl))
      refine Still.t 7 [] hHeld ?_ (hy := by (intro w' hSw; (try dsimp only at hSw); have q0 := hSw.a.cell (j := 2) (v := .slice (some ⟨g4, 0, none⟩) D.lines.length c4) rfl; have q1 := hSw.b.cell (j := 1) (v := .int .i64 x'.ch) rfl; rw [HCN.out] at q1; have q2 := hSw.c.cell (j := 2) (v := .slice (some ⟨lb, lo, none⟩) D.lines.length lc) rfl; have q3 := hSw.d; have q4 := hSw.b.cell (j := 4) (v := .int .i64 x'.val) rfl; clear hSw; go_simp; try with_reducible rfl))
      refine Still.t 8 [] hHeld ?_ (hy := by (intro w' hSw; (try dsimp only at hSw); have q0 := hSw.a.cell (j := 2) (v := .slice (some ⟨g4, 0, none⟩) D.lines.length c4) rfl; have q1 := hSw.b.cell (j := 1) (v := .int .i64 x'.ch) rfl; rw [HCN.out] at q1; have q2 := hSw.c.cell (j := 2) (v := .slice (some ⟨lb, lo, none⟩) D.lines.length lc) rfl; have q3 := hSw.d; have q4 := hSw.b.cell (j := 4) (v := .int .i64 x'.val) rfl; clear hSw; go_simp; try with_reducible rfl))
      refine Still.t 9 [] hHeld ?_ (hy := by (intro w' hSw; (try dsimp only at hSw); have q0 := hSw.a.cell (j := 2) (v := .slice (some ⟨g4, 0, none⟩) D.lines.length c4) rfl; have q1 := hSw.b.cell (j := 1) (v := .int .i64 x'.ch) rfl; rw [HCN.out] at q1; have q2 := hSw.c.cell (j := 2) (v := .slice (some ⟨lb, lo, none⟩) D.lines.length lc) rfl; have q3 := hSw.d; have q4 := hSw.b.cell (j := 4) (v := .int .i64 x'.val) rfl; clear hSw; go_simp; try with_reducible rfl))
      refine Still.t 10 [] hHeld ?_ (hy := by (intro w' hSw; (try dsimp only at hSw); have q0 := hSw.a.cell (j := 2) (v := .slice (some ⟨g4, 0, none⟩) D.lines.length c4) rfl; have q1 := hSw.b.cell (j := 1) (v := .int .i64 x'.ch) rfl; rw [HCN.out] at q1; have q2 := hSw.c.cell (j := 2) (v := .slice (some ⟨lb, lo, none⟩) D.lines.length lc) rfl; have q3 := hSw.d; have q4 := hSw.b.cell (j := 4) (v := .int .i64 x'.val) rfl; clear hSw; go_simp; try with_reducible rfl))
      refine Still.o 11 rfl rfl (fun K hK => ?_)
      refine wp_call 71 _ _ rfl ent_getOf #[.int .i64 kd, .agg #[.slice la1 ln.length lc1]] ev ((HPT.out _ (HLS.out.up (Below.refl _ _).drew)).mono ?_)
      rintro e V1 ⟨v6, rfl, o6, f6⟩
      obtain ⟨a6, c6, rfl⟩ := o6.1.form
      have bW : Below wc.heap.size wc V1 := Below.trans (Below.refl _ _).drew f6
      have HNT := hd o6.2
      have hzV := bW.size
      have hd2 := HN.out.d.size
      refine ⟨_, rfl, hK _ _ (fun _ => HKR.out.up hlbc bW) (fun hh => ?_)⟩
      have hHeld := hh (by decide)
      clear hK K hh
      try simp only [Act.put, l1, l2, l3, l4, l5, l6]
      have hNX := (NewV.toX FN2.out.n hn8 (HN.out.d.trans (bW.mono HN.out.d.size))).putL hll2 zs (.slice a6 zs.length c6) o6.1 (fun x e => ⟨⟨by have : wc.heap.size ≤ x := HNT.out x e; omega, by have : wc.heap.size ≤ x := HNT.out x e; omega⟩, fun e' => by have : wc.heap.size ≤ x := HNT.out x e; have := (FN2.out.n.ltC x e').2; omega⟩) (fun x e e' => by have : wc.heap.size ≤ x := HNT.out x e; have := (FN2.out.n.ltL x e').2; omega) (fun e => FN2.out.gl _ e rfl) (fun e => by have : wc.heap.size ≤ g8 := HNT.out g8 e; have := HN.out.r8.lt; omega)
      obtain ⟨g4', cap4, e4, _, _, _, ⟨u4, hu4⟩, hf4, hX⟩ := hNX
      injection e4 with e4 _ e5
      injection e4 with e4
      injection e4 with e4
      subst e4 e5
      have HX := hd hX
      have BW := hd bW
      clear hX bW o6 f6
      refine Still.t 12 [] hHeld ?_
      refine Still.t 13 [] hHeld ?_
      refine Still.t 14 [] hHeld ?_
      refine Still.t 15 [] hHeld ?_
      refine Still.t 16 [] hHeld ?_
      refine Still.o 17 rfl rfl (fun K hK => ?_)
      go_simp
      refine hK _ _ (fun _ => hHeld.set _ om om om om) (fun hh => ?_)
      have hHeld := hh (by decide)
      clear hK K hh
      try simp only [Act.put, l1, l2, l3, l4, l5, l6]
      clear hu4 hf4
      refine Still.o 18 rfl rfl (fun K hK => ?_)
      go_simp
      refine hK _ _ (fun _ => hHeld) (fun hh => ?_)
      clear hK K hh
      try simp only [Act.put, l1, l2, l3, l4, l5, l6]
      refine Still.o 19 rfl rfl (fun K hK => ?_)
      go_simp
      refine hK _ _ ab (fun _ => Still.vv ?_)
      clear hK K
      clear hHeld
      go_wp2
      go_meet
      have h8 := HN.out.r8.lt
      have h9 := HN.out.r9.lt
      have h3 := F3.out.r3.lt
      have h2 := F3.out.r2.lt
      have h1 := F3.out.r1.lt
      refine ⟨rfl, rfl, ⟨?_, ?_, ?_, HX.out, ?_, ?_, ?_, HIN.out.in2⟩, ?_⟩
      ·exact (F3.out.d.trans (BW.out.mono F3.out.d.size)).setCell (p := ⟨g4, cn, none⟩) so _
      ·exact (F3.out.r2.up BW.out h2).set_other _ so
      ·exact (F3.out.r3.up BW.out h3).set_other _ so
      ·exact (HN.out.r8.up BW.out h8).set_other _ so
      ·exact (HN.out.r9.up BW.out h9).set_other _ so
      ·exact (HN.out.s.up BW.out).set _ (fun e => by have := (HN.out.n _ e).1; omega)
      ·exact (F3.out.r1.up BW.out h1).set_other _ so
    case rest =>
     obtain ⟨rfl, rfl, HFS, HRW⟩ := hcut
     have hd8 := HFS.out.d.size
     have hne89 := HN.out.ne
     simp only [Cel.v_cs] at HRP
     rw [show wantV x'.k x'.ch x'.reg x'.flag x'.val = .agg x'.cs from rfl] at HRP
     clear HKR HLS HSV HN F3 HIN k9
     go_wp2_with (first | (refine wpList_load_row rfl 35 (.tmp 7) rfl g8 rfl 35 (c'.cs (.slice a8 ys.length c8)) (0, 0) _ HFS.out.r8 Tryz.underlying35 rfl sizeCell ?_) | (refine wpList_load_row rfl 124 (.tmp 8) rfl g9 rfl 124 x'.cs (0, 0) _ HFS.out.r9 Tryz.underlying124 rfl sizeWant ?_))
     refine (HRP.out _ HFS.out.s).mono ?_
     rintro e wr ⟨v', rfl, o8, b8⟩
     obtain ⟨a7, c7, rfl⟩ := own_form o8
     have z8 := b8.size
     have HOB := hd (own_block o8)
     have S8 := hd (own_sl o8)
     have R8 := hd (HFS.out.r8.up b8 HFS.out.r8.lt)
     have hl8 := HFS.out.r8.lt
     have B8 := hd b8
     clear b8 o8 HRP
     go_wp2_with (refine wpList_store_rowW rfl 35 (.tmp 7) (.tmp 85) rfl g8 (c2.cs (.slice a7 ys.length c7)) rfl rfl 35 (c'.cs (.slice a8 ys.length c8)) R8.out sizeCell rfl (Cel.cs_one _ _ rfl) ?_)
     intro W9 HW9
     have HFE : Hid (Fe w W9 w1.heap.size g8 D.tick (.slice a3 D.cells.length c3) (.slice (some ⟨g4, 0, none⟩) D.lines.length c4) D.cells (D.lines.set cn zs) c2 (.slice a7 ys.length c7) ys) := by
      show Fe _ _ _ _ _ _ _ _ _ _ _ _
      rw [HW9.out]
      have hl2 := HFS.out.r2.lt
      have hl3 := HFS.out.r3.lt
      refine ⟨below_row (HFS.out.d.trans (B8.out.mono hd8)) om _, (HFS.out.r2.up B8.out hl2).row_other _ om, (HFS.out.r3.up B8.out hl3).row_other _ om, ((HFS.out.n.up B8.out).row _).newP, by omega, FN2.out.gc, R8.out.row _, S8.out.row _ (fun e => by have := HOB.out _ e; omega), fun x e => ⟨⟨by have := HOB.out x e; omega, by have := HOB.out x e; omega⟩, fun e' => by have := HOB.out x e; have := (HB8.out x e').2; omega⟩⟩
     have HRW9 : Hid (Rw W9 (w.heap.size + 1) 30 #[.int .i64 D.tick, .slice (some ⟨b, off, none⟩) D.cells.length uc, .slice (some ⟨lb, lo, none⟩) D.lines.length lc]) := by
      show Rw _ _ _ _
      rw [HW9.out]
      exact (HRW.out.up B8.out HRW.out.lt).row_other _ om
     clear HW9 B8 R8 S8 HOB HFS HRW
     go_wp2
     go_meet
     exact ⟨c2, a7, c7, D.lines.set cn zs, HFE, HEQ, HRW9⟩
  case rest =>
   obtain ⟨c2, a9, c9, ls', F, HEQ, HRW⟩ := hcut
   obtain ⟨g3, cap3, e3, hg3, hg3l, hcap3, hth, hWN⟩ := F.out.n.putC (fun e => F.out.gc _ e rfl) hpd ⟨c2, ys⟩ (.slice a9 ys.length c9) F.out.s F.out.i
   injection e3 with e3 _ e4
   subst e3 e4
   have hg3g : w1.heap.size ≠ g3 := fun e => F.out.gc g3 rfl e.symm
   have HTH := hd hth
   have HWN := hd hWN
   have q1 := F.out.r3.cell (j := 1) (v := .slice (some ⟨g3, 0, none⟩) D.cells.length c3) rfl
   clear hth hWN k9 HN F3 HIN E1 E2
   go_wp2_with (first | (refine wpList_load_row rfl 35 (.tmp 7) rfl g8 rfl 35 (c2.cs (.slice a9 ys.length c9)) (0, 0) _ F.out.r8 Tryz.underlying35 rfl sizeCell ?_) | (refine wpList_store_midW rfl 35 (.tmp 90) (.tmp 89) rfl g3 (pn * 16) (c2.cs (.slice a9 ys.length c9)) rfl rfl HTH.out sizeCell (Cel.cs_one _ _ rfl) ?_))
   intro W5 HW5
   have r3 : Rw W5 w1.heap.size 30 #[.int .i64 D.tick, .slice (some ⟨g3, 0, none⟩) D.cells.length c3, .slice a4 D.lines.length c4] := by
    rw [HW5.out]
    exact rw_setCells_other _ _ F.out.r3 hg3g
   have R3 := hd r3
   have R2 : Hid (Rw W5 (w.heap.size + 1 + 1) 30 #[.int .i64 0, .slice none 0 0, .slice none 0 0]) := by
    show Rw _ _ _ _
    rw [HW5.out]
    exact rw_setCells_other _ _ F.out.r2 om
   have r1 : Rw W5 (w.heap.size + 1) 30 #[.int .i64 D.tick, .slice (some ⟨b, off, none⟩) D.cells.length uc, .slice la D.lines.length lc] := by
    rw [HW5.out]
    exact rw_setCells_other _ _ HRW.out om
   have HD5 : Hid (Below w.heap.size w W5) := by
    show Below _ _ _
    rw [HW5.out]
    exact below_setCells _ _ F.out.d om
   rw [← HW5.out] at HWN
   have hG0 := F.out.g0
   have q0 := r1.cell (j := 0) (v := .int .i64 D.tick) rfl
   clear HW5 r3 r1 F HTH q1 HRW
   go_wp2_with (refine wpList_store_cellW rfl 3 (.tmp 94) (.tmp 93) rfl w1.heap.size 0 (.int .i64 (D.tick + 1)) rfl rfl rfl 30 _ R3.out (by show 0 < 3; decide) sizeInt1 ?_)
   intro W6 HW6
   have R36 : Hid (Rw W6 w1.heap.size 30 #[.int .i64 (D.tick + 1), .slice (some ⟨g3, 0, none⟩) D.cells.length c3, .slice a4 D.lines.length c4]) := by
    show Rw _ _ _ _
    rw [HW6.out]
    exact R3.out.set 0 _
   have R26 : Hid (Rw W6 (w.heap.size + 1 + 1) 30 #[.int .i64 0, .slice none 0 0, .slice none 0 0]) := by
    show Rw _ _ _ _
    rw [HW6.out]
    exact R2.out.set_other _ so
   have HD6 : Hid (Below w.heap.size w W6) := by
    show Below _ _ _
    rw [HW6.out]
    exact HD5.out.setCell (p := ⟨w1.heap.size, 0, none⟩) so _
   have HWN6 : Hid (WldN (w.heap.size + 3) w1.heap.size W6 (.slice (some ⟨g3, 0, none⟩) D.cells.length c3) (.slice a4 D.lines.length c4) (D.cells.set pn ⟨c2, ys⟩) ls') := by
    show WldN _ _ _ _ _ _ _
    rw [HW6.out]
    exact HWN.out.set (Or.inr rfl) _ _
   clear HW6 R3 R2 HD5 HWN q0
   go_wp2_with (first | (refine wpList_load_row rfl 30 (.tmp 5) rfl w1.heap.size rfl 30 _ (0, 0) _ R36.out Tryz.underlying30 rfl sizeWld ?_) | (refine wpList_store_row rfl 30 (.tmp 4) (.tmp 95) rfl (w.heap.size + 1 + 1) #[.int .i64 (D.tick + 1), .slice (some ⟨g3, 0, none⟩) D.cells.length c3, .slice a4 D.lines.length c4] rfl rfl 30 _ R26.out sizeWld rfl (by simp [Value.oneCell']) ?_))
   refine bodyPost_ret (results_cell_row Tryz.results29 _ _ (w.heap.size + 1 + 1) 30 #[.int .i64 (D.tick + 1), .slice (some ⟨g3, 0, none⟩) D.cells.length c3, .slice a4 D.lines.length c4] (0, 0) _ rfl (R26.out.row _) Tryz.underlying30 rfl sizeWld) rfl ⟨_, _, rfl, ?_, below_row HD6.out om _⟩
   rw [HEQ.out]
   exact WldN.f (D := ⟨D.tick + 1, D.cells.set pn ⟨c2, ys⟩, ls'⟩) (HWN6.out.row (Or.inl om) _) om
end Go.Proofs.YtehhhiodfcdnmaaGreatDoor

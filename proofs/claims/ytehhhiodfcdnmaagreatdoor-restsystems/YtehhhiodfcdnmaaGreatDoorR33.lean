/- The same worlds are the same to the document, too. -/
import Derived.Test.YtehhhiodfcdnmaaGreatDoorR17
import Derived.Test.YtehhhiodfcdnmaaGreatDoorR32
import Derived.Test.YtehhhiodfcdnmaaGreatDoorR24
namespace Go.Proofs.YtehhhiodfcdnmaaGreatDoor
set_option linter.unusedSimpArgs false
set_option linter.unusedVariables false
set_option maxRecDepth 100000
set_option maxHeartbeats 8000000
open Go.RowKit Go.Sort
theorem ent_sameInts : Enters 41 := enters Tryz.func41 kr kr
theorem ent_sameCells : Enters 42 := enters Tryz.func42 kr kr
theorem sameInts_yes (xs : List Int) (v u : Value) (w : World) (hx : Sl w 1 v xs.length (ints xs)) (hy : Sl w 1 u xs.length (ints xs)) (hm : xs.length < 4294967281) :
  Calls Tryz.prog 41 #[v, u] w fun e w' => e = .returned (.bool true) ∧ Below w.heap.size w w' := sameInts_any xs xs v u w hx hy hm true (by simp)
theorem sameCells_agg (c : Cel) (xs : List Int) (v u : Value) (w : World) (hx : Sl w 1 v xs.length (ints xs)) (hy : Sl w 1 u xs.length (ints xs)) (hm : xs.length < 4294967281) :
  Calls Tryz.prog 42 #[.agg (c.cs v), .agg (c.cs u)] w fun e w' => e = .returned (.bool true) ∧ Below w.heap.size w w' := by
 have h := sameCells_yes c xs v u w hx hy hm
 rw [Cel.v_cs, Cel.v_cs] at h
 exact h
theorem sameLines_yes (ls : List (List Int)) (v u : Value) (hl : ls.length ≤ 1000) (hn : ∀ k (h : k < ls.length), ls[k].length ≤ 1000) (w : World) (hV : LinesR w v ls) (hU : LinesR w u ls) :
  Calls Tryz.prog 43 #[v, u] w fun e w' => e = .returned (.bool true) ∧ Below w.heap.size w w' := by
 obtain ⟨pa, pc, rfl⟩ := hV.form
 obtain ⟨ca, cc, rfl⟩ := hU.form
 have HV := hd hV
 have HU := hd hU
 have HN := hd hn
 clear hV hU hn
 have he' : ((ls.length : Int) != ls.length) = false := by simp
 go_enter Tryz.func43, Tryz.ntmps43
 go_wp2
 go_loopw [5] (fun i wr => ∃ k : Nat, i = .int .i64 k ∧ k ≤ ls.length ∧ Hid (Below w.heap.size w wr)) (fun i _ => ls.length - (intOf i).toNat)
 case atStart => exact ⟨0, rfl, Nat.zero_le _, hd (Below.refl _ _)⟩
 case round =>
  obtain ⟨k, rfl, hk, HB⟩ := hrel
  by_cases hlt : k < ls.length
  ·have hli : (k : Int) < ls.length := by omega
   have h0i : (0 : Int) ≤ k := by omega
   obtain ⟨b, off, cap, e1, hcap, hbw, hc⟩ := HV.out.open om
   cases e1
   obtain ⟨ao, oc, hra, hso⟩ := hc k hlt
   obtain ⟨b2, off2, cap2, e2, hcap2, hbw2, hc2⟩ := HU.out.open om
   cases e2
   obtain ⟨ao2, oc2, hra2, hso2⟩ := hc2 k hlt
   have RA := hd (bcl HB.out hbw hra)
   have RB := hd (bcl HB.out hbw2 hra2)
   have SA := hd (hso.up HB.out)
   have SB := hd (hso2.up HB.out)
   have hws := HB.out.size
   have hb1 : b < wr.heap.size := by omega
   have hb2 : b2 < wr.heap.size := by omega
   have hnk := HN.out k hlt
   generalize ls[k] = l at RA RB SA SB hnk
   have HCK := hd fun V hx hy => sameInts_yes l (.slice ao l.length oc) (.slice ao2 l.length oc2) V hx hy om
   clear hra hso hc hra2 hso2 hc2
   go_wp2
   refine region_still (S := fun w' => Below wr.heap.size wr w') 11 kr (Below.refl _ _).drew (fun hHeld => ?_)
   have hq := fun w' (hSw : (fun w' => Below wr.heap.size wr w') w') => And.intro (bcl hSw hb1 RA.out) (bcl hSw hb2 RB.out)
   refine Still.u 0 [10, 4, 3, 2] hHeld hq ?_
   refine Still.u 1 [10, 4, 3, 2] hHeld hq ?_
   refine Still.u 2 [10, 4, 3] hHeld hq ?_
   refine Still.u 3 [10, 4] hHeld hq ?_
   refine Still.u 4 [10] hHeld hq ?_
   refine Still.u 5 [10, 9, 8, 7] hHeld hq ?_
   refine Still.u 6 [10, 9, 8, 7] hHeld hq ?_
   refine Still.u 7 [10, 9, 8] hHeld hq ?_
   refine Still.u 8 [10, 9] hHeld hq ?_
   refine Still.u 9 [10] hHeld hq ?_
   refine Still.o 10 rfl rfl (fun K hK => ?_)
   refine wp_call 41 _ _ rfl ent_sameInts #[.slice ao l.length oc, .slice ao2 l.length oc2] ev ((HCK.out _ (SA.out.up hHeld) (SB.out.up hHeld)).mono ?_)
   rintro e V1 ⟨rfl, bb⟩
   refine ⟨_, rfl, hK _ _ (fun _ => hHeld.trans (bb.mono hHeld.size)) (fun hh => ?_)⟩
   have hHeld := hh (by decide)
   clear hK K hh
   try simp only [Act.put, l1, l2, l3, l4, l5, l6]
   clear bb
   refine Still.o 11 rfl rfl (fun K hK => ?_)
   go_simp
   refine hK _ _ ab (fun _ => Still.vv ?_)
   clear hK K
   have HL2 := hd (HB.out.trans (hHeld.mono HB.out.size))
   clear hHeld
   go_wp2
   go_roundw
   case rel => exact ⟨k + 1, by go_num, by omega, HL2⟩
   case measure => simp [intOf]; omega
  ·have hli : ¬ (k : Int) < ls.length := by omega
   go_wp2
   go_ret
   exact ⟨rfl, HB.out⟩
structure WSmall (D : WldD) : Prop where
 c : D.cells.length ≤ 1000
 l : D.lines.length ≤ 1000
 o : ∀ k (h : k < D.cells.length), D.cells[k].out.length ≤ 1000
 n : ∀ k (h : k < D.lines.length), D.lines[k].length ≤ 1000
theorem sameWorlds_yes (D : WldD) (hs : WSmall D) (vc vl uc ul : Value) (w : World) (hV : Wld w vc vl D) (hU : Wld w uc ul D) :
  Calls Tryz.prog 28 #[.agg #[.int .i64 D.tick, vc, vl], .agg #[.int .i64 D.tick, uc, ul]] w fun e w' => e = .returned (.bool true) ∧ Below w.heap.size w w' := by
 obtain ⟨pa, pc, rfl⟩ := hV.c.form
 obtain ⟨la, lc, rfl⟩ := hV.l.form
 obtain ⟨pa', pc', rfl⟩ := hU.c.form
 obtain ⟨la', lc', rfl⟩ := hU.l.form
 have HCK := hd fun V h1 h2 => sameLines_yes D.lines (.slice la D.lines.length lc) (.slice la' D.lines.length lc') hs.l hs.n V h1 h2
 have HV := hd hV
 have HU := hd hU
 have HN := hd hs.o
 have hcl := hs.c
 clear hV hU hs
 have he1 : ((D.tick : Int) != D.tick) = false := by simp
 have he2 : ((D.cells.length : Int) != D.cells.length) = false := by simp
 go_enter Tryz.func28, Tryz.ntmps28
 go_wp2_with fail
 refine (HCK.out _ (HV.out.l.up up0) (HU.out.l.up up0)).mono ?_
 rintro e w1 ⟨rfl, b1⟩
 have z1 := b1.size
 simp at z1
 have R0 : Hid (Rw w1 w.heap.size 30 #[.int .i64 D.tick, .slice pa D.cells.length pc, .slice la D.lines.length lc]) := Rw.up rn0 b1 o3
 have R1 : Hid (Rw w1 (w.heap.size + 1) 30 #[.int .i64 D.tick, .slice pa' D.cells.length pc', .slice la' D.lines.length lc']) := Rw.up rn0 b1 o3
 have HB1 : Hid (Below w.heap.size w w1) := by
  refine Below.trans ?_ (b1.mono o3)
  exact up0
 clear b1 HCK
 go_wp2
 go_loopw [5] (fun i wr => ∃ k : Nat, i = .int .i64 k ∧ k ≤ D.cells.length ∧ Hid (Below w1.heap.size w1 wr)) (fun i _ => D.cells.length - (intOf i).toNat)
 case atStart => exact ⟨0, rfl, Nat.zero_le _, hd (Below.refl _ _)⟩
 case round =>
  obtain ⟨k, rfl, hk, HB⟩ := hrel
  have hws := HB.out.size
  have r0 := R0.out.up HB.out om
  have r1 := R1.out.up HB.out om
  have q0 := r0.cell (j := 1) (v := .slice pa D.cells.length pc) rfl
  have q1 := r1.cell (j := 1) (v := .slice pa' D.cells.length pc') rfl
  have Q0 := hd q0
  have Q1 := hd q1
  clear r0 r1
  by_cases hlt : k < D.cells.length
  ·have hli : (k : Int) < D.cells.length := by omega
   have h0i : (0 : Int) ≤ k := by omega
   obtain ⟨b, off, cap, e1, hcap, hbw, hc⟩ := HV.out.c.open om
   cases e1
   obtain ⟨ao, oc, hra, hso⟩ := hc k hlt
   obtain ⟨b2, off2, cap2, e2, hcap2, hbw2, hc2⟩ := HU.out.c.open om
   cases e2
   obtain ⟨ao2, oc2, hra2, hso2⟩ := hc2 k hlt
   have HBB := HB1.out.trans (HB.out.mono om)
   have RA := hd (range_up hra HBB hbw)
   have RB := hd (range_up hra2 HBB hbw2)
   have SA := hd (hso.up HBB)
   have SB := hd (hso2.up HBB)
   have hb1 : b < wr.heap.size := by omega
   have hb2 : b2 < wr.heap.size := by omega
   have hg0 : w.heap.size < wr.heap.size := by omega
   have hg1 : w.heap.size + 1 < wr.heap.size := by omega
   have hnk := HN.out k hlt
   generalize D.cells[k] = d at RA RB SA SB hnk
   obtain ⟨c, out⟩ := d
   simp only at RA RB SA SB hnk
   have HCK := hd fun V hx hy => sameCells_agg c out (.slice ao out.length oc) (.slice ao2 out.length oc2) V hx hy om
   clear hra hso hc hra2 hso2 hc2 HBB
   go_wp2
   clear q0 q1
   refine region_still (S := fun w' => Below wr.heap.size wr w') 11 kr (Below.refl _ _).drew (fun hHeld => ?_)
   have hq := fun w' (hSw : (fun w' => Below wr.heap.size wr w') w') => And.intro (bcl hSw hg0 Q0.out) (bcl hSw hg1 Q1.out)
   refine Still.u 0 [10, 4, 3, 1] hHeld hq ?_
   refine Still.u 1 [10, 4, 3] hHeld hq ?_
   refine Still.u 2 [10, 4, 3] hHeld hq ?_
   refine Still.u 3 [10, 4] hHeld hq ?_
   refine Still.y 4 [10] rfl (yields_load_midA (by rfl) _ _ rfl b (off + k * 16) ev (c.cs (.slice ao out.length oc)) _ (fun w' hSw => range_up RA.out hSw hb1) Tryz.underlying35 rfl sizeCell) hHeld ?_
   refine Still.u 5 [10, 9, 8, 6] hHeld hq ?_
   refine Still.u 6 [10, 9, 8] hHeld hq ?_
   refine Still.u 7 [10, 9, 8] hHeld hq ?_
   refine Still.u 8 [10, 9] hHeld hq ?_
   refine Still.y 9 [10] rfl (yields_load_midA (by rfl) _ _ rfl b2 (off2 + k * 16) ev (c.cs (.slice ao2 out.length oc2)) _ (fun w' hSw => range_up RB.out hSw hb2) Tryz.underlying35 rfl sizeCell) hHeld ?_
   refine Still.o 10 rfl rfl (fun K hK => ?_)
   refine wp_call 42 _ _ rfl ent_sameCells #[.agg (c.cs (.slice ao out.length oc)), .agg (c.cs (.slice ao2 out.length oc2))] ev ((HCK.out _ (SA.out.up hHeld) (SB.out.up hHeld)).mono ?_)
   rintro e V1 ⟨rfl, bb⟩
   refine ⟨_, rfl, hK _ _ (fun _ => hHeld.trans (bb.mono hHeld.size)) (fun hh => ?_)⟩
   have hHeld := hh (by decide)
   clear hK K hh
   try simp only [Act.put, l1, l2, l3, l4, l5, l6]
   clear bb
   refine Still.o 11 rfl rfl (fun K hK => ?_)
   go_simp
   refine hK _ _ ab (fun _ => Still.vv ?_)
   clear hK K
   have HL2 := hd (HB.out.trans (hHeld.mono HB.out.size))
   clear hHeld
   go_wp2
   go_roundw
   case rel => exact ⟨k + 1, by go_num, by omega, HL2⟩
   case measure => simp [intOf]; omega
  ·have hli : ¬ (k : Int) < D.cells.length := by omega
   go_wp2
   go_ret
   exact ⟨rfl, HB1.out.trans (HB.out.mono om)⟩
theorem small_right {S : SysD} {D : WldD} (hk : chkS S = 0) (hR : Right S D) : WSmall D := by
 obtain ⟨h1, h2⟩ := countsS hk
 have hlc := cellsB_len hR.c
 have hll := linesB_len hR.l
 refine ⟨by omega, by omega, fun k h => ?_, fun k h => ?_⟩
 ·have := ((fine_iff _ _).1 (celB_is (cellsB_at hR.c k om h)).1).2.2.2.2.2.2
  omega
 ·have := chkL_zero (linesB_at hR.l k om h)
  omega
theorem small_nil : WSmall wldZ := ⟨by decide, by decide, fun k h => by simp [wldZ] at h, fun k h => by simp [wldZ] at h⟩
theorem small_step (S : SysD) (D : WldD) : WSmall (stepR S D) := by
 unfold stepR
 split
 ·rename_i h
  obtain ⟨h1, h2, h3⟩ := stepW_zero h
  exact small_right h1 (next_right h1 h2 h3).1
 ·exact small_nil
theorem no_int_slice {a : Option Addr} {n c : Nat} : ∀ m, Value.slice a n c ≠ .int .i64 m := fun m h => by cases h
theorem codeC_int : ∀ (l : List Ins) (j : Nat) (u : Value), (codeC l)[j]? = some u → ∃ m, u = .int .i64 m
 | [], j, u, h => by simp [codeC] at h
 | i :: r, j, u, h => by
  rw [codeC] at h
  rw [List.getElem?_append] at h
  split at h
  ·have hm := List.mem_of_getElem? h
   simp [Ins.cells] at hm
   rcases hm with rfl | rfl | rfl | rfl <;> exact ⟨_, rfl⟩
  ·exact codeC_int r _ u h
structure Wr4 (H : Nat) (X : World) (v : Value) (n : Nat) : Prop where
 fm : ∃ a c, v = .slice a n c
 op : 0 < n → ∃ b off cap, v = .slice (some ⟨b, off, none⟩) n cap ∧ n ≤ cap ∧ H ≤ b ∧ ∀ j, j < n → X.there b (off + j * 4) 4 ∧ ∀ i, i < 4 → ∃ m, X.cell? ⟨b, off + j * 4 + i, none⟩ = some (.int .i64 m)
theorem wr4_of {H : Nat} {X : World} {v : Value} {l : List Ins} (h : Sl X 4 v l.length (codeC l)) (hn : ∀ b, v.ownBlock = some b → H ≤ b) : Wr4 H X v l.length := by
 refine ⟨h.form, fun h0 => ?_⟩
 have hlen := h.1
 obtain ⟨b, off, cap, rfl, hc, hb, hx, hz⟩ := h.openZ h0
 have key : ∀ j, j < l.length → ∀ i, i < 4 → (∃ m, X.cell? ⟨b, off + j * 4 + i, none⟩ = some (.int .i64 m)) ∧ X.frozen? ⟨b, off + j * 4 + i, none⟩ = false := fun j hj i hi => by
  have hlt : j * 4 + i < (codeC l).length := by rw [hlen]; omega
  obtain ⟨u, hu⟩ : ∃ u, (codeC l)[j * 4 + i]? = some u := ⟨_, List.getElem?_eq_getElem hlt⟩
  obtain ⟨m, rfl⟩ := codeC_int l _ u hu
  rw [Nat.add_assoc]
  exact ⟨⟨m, hx _ _ hu⟩, hz _ hlt⟩
 refine ⟨b, off, cap, rfl, hc, hn b rfl, fun j hj => ⟨fun i hi => ?_, fun i hi => (key j hj i hi).1⟩⟩
 obtain ⟨⟨m, hm⟩, hf⟩ := key j hj i hi
 exact ⟨by rw [hm]; rfl, hf⟩
structure StM (H gx : Nat) (X : World) (G off : Nat) (vc vl : Value) (os : List Value) (vs : List Value) (D : WldD) : Prop where
 lo : os.length = D.cells.length
 lv : vs.length = D.lines.length
 gx : G ≠ gx
 c : 0 < D.cells.length → ∃ cap, vc = .slice (some ⟨G, off, none⟩) D.cells.length cap ∧ D.cells.length ≤ cap ∧ H ≤ G ∧ ∀ k, k < D.cells.length → X.there G (off + k * 16) 16
 r : ∀ k (h : k < os.length), k < D.cells.length → X.cell? ⟨G, off + k * 16 + 14, none⟩ = some os[k]
 o : ∀ k (h : k < os.length) (h' : k < D.cells.length), Wr H X os[k] D.cells[k].out.length ∧ ∀ b, os[k].ownBlock = some b → b ≠ G
 l : 0 < D.lines.length → ∃ b off cap, vl = .slice (some ⟨b, off, none⟩) D.lines.length cap ∧ D.lines.length ≤ cap ∧ b ≠ G ∧ ∀ k (h : k < vs.length), X.cell? ⟨b, off + k, none⟩ = some vs[k]
 v : ∀ k (h : k < vs.length) (h' : k < D.lines.length), Wr H X vs[k] D.lines[k].length
theorem celC_at14 (p : Cel × Value) : (celC p)[14]? = some p.2 := rfl
theorem step_mem {H : Nat} {w4 : World} {vc vl : Value} {D : WldD} (hF0 : WldF H w4 vc vl D) (ob : Obj) : ∃ G off os vs, StM H w4.heap.size (w4.alloc ob) G off vc vl os vs D := by
 have hb4 : Below w4.heap.size w4 (w4.alloc ob) := (Below.refl _ _).alloc (Nat.le_refl _) _
 have hF := hF0.up hb4
 obtain ⟨⟨ps, p1, p2, p3⟩, ⟨vs, q1, q2, q3⟩, bc, bl, fz⟩ := hF
 have hvs : ∀ k (h : k < vs.length) (h' : k < D.lines.length), Wr H (w4.alloc ob) vs[k] D.lines[k].length := fun k h h' => wr_of (q3 k h' h).1 (fun b e => ((q3 k h' h).2 b e).1)
 by_cases h0 : 0 < D.cells.length
 ·obtain ⟨G, off, cap, rfl, hcap, hG, hx, hz⟩ := p2.openZ h0
  have hG4 : G < w4.heap.size := by
   obtain ⟨_, _, p2', _⟩ := hF0.c
   obtain ⟨b, o, c, e, _, hb, _⟩ := p2'.open h0
   injection e with e _ _
   injection e with e
   injection e with e _
   omega
  have hlen : (rowC celC ps).length = D.cells.length * 16 := by rw [rowC_len celC_len, p1]
  refine ⟨G, off, ps.map (·.2), vs, by simp [p1], q1, by omega, fun _ => ⟨cap, rfl, hcap, bc G rfl, fun k hk j hj => ?_⟩, fun k h hk => ?_, fun k h h' => ?_, fun hl => ?_, hvs⟩
  ·have hlt : k * 16 + j < (rowC celC ps).length := by rw [hlen]; omega
   rw [Nat.add_assoc]
   exact ⟨by rw [hx _ _ (List.getElem?_eq_getElem hlt)]; rfl, hz _ hlt⟩
  ·have hk' : k < ps.length := by omega
   rw [Nat.add_assoc]
   refine hx (k * 16 + 14) _ ?_
   rw [rowC_at celC_len ps k 14 hk' om, celC_at14]
   simp
  ·have hk' : k < ps.length := by omega
   have := p3 k h' hk'
   simp only [List.getElem_map]
   exact ⟨wr_of this.2.1 (fun b e => (this.2.2 b e).1), fun b e e' => (this.2.2 b e).2 (by rw [e']; rfl)⟩
  ·obtain ⟨b, o, c, rfl, hc, hb, hy⟩ := q2.open hl
   exact ⟨b, o, c, rfl, hc, fun e => (bl b rfl).2 (by rw [e]; rfl), fun k h => hy k _ (List.getElem?_eq_getElem h)⟩
 ·have h00 : D.cells.length = 0 := by omega
  refine ⟨w4.heap.size + 1, 0, [], vs, by simp [h00], q1, by omega, fun h => absurd h h0, fun k h _ => by simp at h, fun k h _ => by simp at h, fun hl => ?_, hvs⟩
  obtain ⟨b, o, c, rfl, hc, hb, hy⟩ := q2.open hl
  simp at hb
  exact ⟨b, o, c, rfl, hc, by omega, fun k h => hy k _ (List.getElem?_eq_getElem h)⟩
theorem StM.begin {H gx : Nat} {X : World} {G off : Nat} {vc vl : Value} {os vs : List Value} {D : WldD} (h : StM H gx X G off vc vl os vs D) : L1 G H off X X os 0 := ⟨Fi.refl _ _ _, fun k hk _ => h.r k hk (by have := h.lo; omega)⟩
structure PuM (H gx : Nat) (X : World) (vp : Value) (l : List (Value × Value)) (D : SysD) : Prop where
 ll : l.length = D.parts.length
 c : 0 < D.parts.length → ∃ b off cap, vp = .slice (some ⟨b, off, none⟩) D.parts.length cap ∧ D.parts.length ≤ cap ∧ b < X.heap.size ∧ ∀ k (h : k < l.length), X.cell? ⟨b, off + k * 2, none⟩ = some l[k].1 ∧ X.cell? ⟨b, off + k * 2 + 1, none⟩ = some l[k].2
 w : ∀ k (h : k < l.length) (h' : k < D.parts.length), Wr4 H X l[k].1 D.parts[k].code.length ∧ Wr H X l[k].2 D.parts[k].inn.length
theorem purge_mem {H : Nat} {w4 : World} {vp vc vs : Value} {D : SysD} (hF0 : SysF H w4 vp vc vs D) (ob : Obj) : ∃ l, PuM H w4.heap.size (w4.alloc ob) vp l D := by
 have hb4 : Below w4.heap.size w4 (w4.alloc ob) := (Below.refl _ _).alloc (Nat.le_refl _) _
 obtain ⟨l, h1, h2, h3⟩ := (hF0.up hb4).p
 refine ⟨l, h1, fun h0 => ?_, fun k h h' => ?_⟩
 ·obtain ⟨b, off, cap, rfl, hc, hb, hx⟩ := h2.open h0
  refine ⟨b, off, cap, rfl, hc, hb, fun k h => ⟨?_, ?_⟩⟩
  ·refine hx (k * 2) _ ?_
   rw [show k * 2 = k * 2 + 0 from rfl, rowC_at (f := prC) (s := 2) (fun _ => rfl) l k 0 h om]
   rfl
  ·rw [Nat.add_assoc]
   refine hx (k * 2 + 1) _ ?_
   rw [rowC_at (f := prC) (s := 2) (fun _ => rfl) l k 1 h om]
   rfl
 ·obtain ⟨a1, a2, _⟩ := h3 k h' h
  exact ⟨wr4_of a1.code (fun b e => a2.1 b e), wr_of a1.inn (fun b e => a2.2 b e)⟩
theorem rest_th {S : SysD} {D : WldD} {part : Int} (hk : chkW S D = 0) : (viewE S D part = 0 ∧ thE S part = 0) ∨ (viewE S D part = 5 ∧ thE S part = 5) := by
 have h1 := isPB_th (chkW_zero hk).1 part
 unfold viewE
 rw [if_neg (by rw [hk]; simp)]
 by_cases hp : isPB S part = true
 ·rw [if_pos hp] at h1 ⊢
  exact .inl ⟨rfl, h1⟩
 ·rw [if_neg hp] at h1 ⊢
  exact .inr ⟨rfl, h1⟩
theorem small_purgeR {S : SysD} (hz : chkS S = 0) (part : Int) : SmallS (purgeR S part) := by
 unfold purgeR
 split
 ·exact small_purge hz part
 ·exact ⟨by decide, by decide, by decide, fun k h => by simp [sysZ] at h⟩
theorem small_view {S : SysD} {D : WldD} (hk : chkS S = 0) (hR : Right S D) (part : Int) : (viewR S D part).d.out.length ≤ 1000 := by
 have hs := small_right hk hR
 unfold viewR
 split
 ·show (D.cells.getD part.toNat ⟨celZ, []⟩).out.length ≤ 1000
  by_cases h : part.toNat < D.cells.length
  ·rw [List.getD_eq_getElem?_getD, List.getElem?_eq_getElem h]
   exact hs.o _ h
  ·rw [List.getD_eq_getElem?_getD, List.getElem?_eq_none om]
   simp
 ·simp [viwZ]
end Go.Proofs.YtehhhiodfcdnmaaGreatDoor

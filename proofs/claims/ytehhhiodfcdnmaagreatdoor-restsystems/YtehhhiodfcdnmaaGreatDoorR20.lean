/- view.Of. -/
import Derived.Test.YtehhhiodfcdnmaaGreatDoorR5
import Derived.Test.YtehhhiodfcdnmaaGreatDoorR18
import Derived.Test.YtehhhiodfcdnmaaGreatDoorR19
namespace Go.Proofs.YtehhhiodfcdnmaaGreatDoor
set_option linter.unusedSimpArgs false
set_option linter.unusedVariables false
set_option maxRecDepth 100000
set_option maxHeartbeats 8000000
open Go.RowKit Go.Sort
def vwC (c : Cel) (o l : Value) : Array Value := #[.int .i64 c.at_, .int .i64 c.r0, .int .i64 c.r1, .int .i64 c.r2, .int .i64 c.r3, .int .i64 c.m0, .int .i64 c.m1, .int .i64 c.m2, .int .i64 c.m3, .int .i64 c.m4, .int .i64 c.m5, .int .i64 c.m6, .int .i64 c.m7, .int .i64 c.read, o, .int .i64 c.en, l]
theorem sizeView : (Tryz.prog.info? 37).map (·.size) = some 17 := by kernel_rfl
theorem vwC_one (c : Cel) (o l : Value) (h : o.oneCell' = true) (h' : l.oneCell' = true) : (vwC c o l).all (·.oneCell') = true := by
 simp [vwC, h, h']
 simp [Value.oneCell']
def viewL : List Chn → List (List Int) → Int → List (List Int)
 | c :: cs, l :: ls, p => if c.fr == p || c.tt == p then l :: viewL cs ls p else viewL cs ls p
 | _, _, _ => []
theorem viewL_snoc (p : Int) : ∀ (cs : List Chn) (ls : List (List Int)) (c : Chn) (l : List Int), cs.length = ls.length → viewL (cs ++ [c]) (ls ++ [l]) p = viewL cs ls p ++ (if c.fr == p || c.tt == p then [l] else [])
 | [], [], c, l, _ => by simp [viewL]
 | a :: cs, b :: ls, c, l, h => by
  have ih := viewL_snoc p cs ls c l (by simpa using h)
  simp only [List.cons_append, viewL]
  split
  ·rw [ih]; rfl
  ·exact ih
theorem viewL_step {cs : List Chn} {ls : List (List Int)} {k : Nat} (h : k < cs.length) (h' : k < ls.length) (p : Int) : viewL (cs.take (k + 1)) (ls.take (k + 1)) p = viewL (cs.take k) (ls.take k) p ++ (if cs[k].fr == p || cs[k].tt == p then [ls[k]] else []) := by
 rw [List.take_succ_eq_append_getElem h, List.take_succ_eq_append_getElem h']
 exact viewL_snoc p _ _ _ _ so
theorem viewL_len (p : Int) : ∀ (cs : List Chn) (ls : List (List Int)), (viewL cs ls p).length ≤ cs.length
 | [], _ => by simp [viewL]
 | _ :: _, [] => by simp [viewL]
 | c :: cs, l :: ls => by
  have := viewL_len p cs ls
  simp only [viewL]
  split
  ·simp; omega
  ·simp; omega
structure Vo (w wr : World) (b : Nat) (sr w4 : Array Value) (c : Cel) (o : Value) (out : List Int) (vl : Value) (ls : List (List Int)) : Prop where
 d : Below w.heap.size w wr
 r3 : Rw wr w.heap.size 26 sr
 r4 : Rw wr (w.heap.size + 1) 30 w4
 r6 : Rw wr (w.heap.size + 1 + 1) 37 (vwC celZ (.slice none 0 0) (.slice none 0 0))
 r9 : Rw wr b 37 (vwC c o vl)
 n : NewV (b + 1) 0 wr (.slice none 0 0) vl [] ls
 so : Sl wr 1 o out.length (ints out)
 oo : ∀ x, o.ownBlock = some x → w.heap.size + 3 ≤ x ∧ x ≠ b ∧ x < wr.heap.size ∧ vl.ownBlock ≠ some x
 lb : w.heap.size + 3 ≤ b
section
variable {w wr wr' : World} {b : Nat} {sr w4 : Array Value} {c : Cel} {o : Value} {out : List Int} {vl vl' : Value} {ls ls' : List (List Int)}
theorem Vo.z (h : Vo w wr b sr w4 c o out vl ls) : b + 1 ≤ wr.heap.size := h.r9.lt
theorem Vo.up (h : Vo w wr b sr w4 c o out vl ls) (hb : Below wr.heap.size wr wr') : Vo w wr' b sr w4 c o out vl ls :=
 ⟨h.d.trans (hb.mono h.d.size), h.r3.up hb h.r3.lt, h.r4.up hb h.r4.lt, h.r6.up hb h.r6.lt, h.r9.up hb h.r9.lt, h.n.up hb, h.so.up hb, fun x e => ⟨(h.oo x e).1, (h.oo x e).2.1, Nat.lt_of_lt_of_le (h.oo x e).2.2.1 hb.size, (h.oo x e).2.2.2⟩, h.lb⟩
theorem Vo.growL (h : Vo w wr b sr w4 c o out vl ls) (hgr : wr.grownBy wr' vl.ownBlock) (hat : vl.ownBlock = vl'.ownBlock ∨ ∃ g, vl'.ownBlock = some g ∧ wr.heap.size ≤ g) (hn : NewV (b + 1) 0 wr' (.slice none 0 0) vl' [] ls') :
  Vo w (wr'.setCell ⟨b, 16, none⟩ vl') b sr w4 c o out vl' ls' ∧ Rw wr' b 37 (vwC c o vl) := by
 have b1 : Below (b + 1) wr wr' := (Below.refl _ _).grown hgr h.z (fun k e => (h.n.ltL k e).1)
 have b2 : Below b wr (wr'.setCell ⟨b, 16, none⟩ vl') := (b1.mono om).setCell (by simp) _
 have r9 := h.r9.up b1 om
 have h2 := h.lb
 have hs : (wr'.setCell ⟨b, 16, none⟩ vl').heap.size = wr'.heap.size := size_set ..
 refine ⟨⟨h.d.trans (b2.mono om), h.r3.up b2 om, h.r4.up b2 om, h.r6.up b2 om, r9.set 16 _, hn.set om _, (sl_growK h.so hgr (fun k e => (h.oo k e).2.2.2)).set _ (fun e => (h.oo _ e).2.1 rfl), fun x e => ⟨(h.oo x e).1, (h.oo x e).2.1, by rw [hs]; exact Nat.lt_of_lt_of_le (h.oo x e).2.2.1 hgr.size, fun e' => ?_⟩, h2⟩, r9⟩
 rcases hat with e1 | ⟨g, e1, hg⟩
 ·exact (h.oo x e).2.2.2 (e1.trans e')
 ·rw [e1] at e'
  injection e' with e'
  have := (h.oo x e).2.2.1
  omega
end
structure ViwD where
 d : CelD
 ls : List (List Int)
def viwZ : ViwD := ⟨⟨celZ, []⟩, []⟩
structure VwR (n : Nat) (w : World) (o vl : Value) (V : ViwD) : Prop where
 so : Sl w 1 o V.d.out.length (ints V.d.out)
 l : LinesR w vl V.ls
 no : NewB n o
 nl : ∃ vs : List Value, vs.length = V.ls.length ∧ Sl w 1 vl V.ls.length vs ∧ ∀ k (hk : k < V.ls.length) (hk' : k < vs.length), Sl w 1 vs[k] V.ls[k].length (ints V.ls[k]) ∧ NewB n vs[k]
 nv : NewB n vl
theorem VwR.up {n : Nat} {w w' : World} {o vl : Value} {V : ViwD} (h : VwR n w o vl V) (hb : Below w.heap.size w w') : VwR n w' o vl V := by
 obtain ⟨vs, h1, h2, h3⟩ := h.nl
 exact ⟨h.so.up hb, h.l.up hb, h.no, ⟨vs, h1, h2.up hb, fun k hk hk' => ⟨(h3 k hk hk').1.up hb, (h3 k hk hk').2⟩⟩, h.nv⟩
theorem VwR.of {n : Nat} {w : World} {o vl : Value} {V : ViwD} (so : Sl w 1 o V.d.out.length (ints V.d.out)) (no : NewB n o) (nl : ∃ vs : List Value, vs.length = V.ls.length ∧ Sl w 1 vl V.ls.length vs ∧ ∀ k (hk : k < V.ls.length) (hk' : k < vs.length), Sl w 1 vs[k] V.ls[k].length (ints V.ls[k]) ∧ NewB n vs[k]) (nv : NewB n vl) : VwR n w o vl V := by
 obtain ⟨vs, h1, h2, h3⟩ := nl
 exact ⟨so, ⟨vs, h1, h2, fun k hk hk' => (h3 k hk hk').1⟩, no, ⟨vs, h1, h2, h3⟩, nv⟩
theorem VwR.row {n : Nat} {w : World} {o vl : Value} {V : ViwD} (h : VwR n w o vl V) {x : Nat} (hx : x < n) (cs : Array Value) : VwR n (w.setRow x cs) o vl V := by
 obtain ⟨vs, h1, h2, h3⟩ := h.nl
 exact VwR.of (h.so.row cs (fun e => by have := h.no _ e; omega)) h.no ⟨vs, h1, h2.row cs (fun e => by have := h.nv _ e; omega), fun k hk hk' => ⟨(h3 k hk hk').1.row cs (fun e => by have := (h3 k hk hk').2 _ e; omega), (h3 k hk hk').2⟩⟩ h.nv
theorem VwR.low {n m : Nat} {w : World} {o vl : Value} {V : ViwD} (h : VwR n w o vl V) (hm : m ≤ n) : VwR m w o vl V := by
 obtain ⟨vs, h1, h2, h3⟩ := h.nl
 exact VwR.of h.so (h.no.mono hm) ⟨vs, h1, h2, fun k hk hk' => ⟨(h3 k hk hk').1, (h3 k hk hk').2.mono hm⟩⟩ (h.nv.mono hm)
theorem VwR.nil (n : Nat) (w : World) : VwR n w (.slice none 0 0) (.slice none 0 0) viwZ := VwR.of (Sl.nil _ _) (newB_nil _ _) ⟨[], rfl, Sl.nil _ _, fun k hk => by simp [viwZ] at hk⟩ (newB_nil _ _)
theorem VwR.fresh {n : Nat} {w : World} {o vl : Value} {V : ViwD} (h : VwR n w o vl V) (ob : Obj) (u : Array Value) : VwR n ((w.alloc ob).setRow w.heap.size u) o vl V := by
 obtain ⟨vs, h1, h2, h3⟩ := h.nl
 exact VwR.of (sl_fresh h.so ob u) h.no ⟨vs, h1, sl_fresh h2 ob u, fun k hk hk' => ⟨sl_fresh (h3 k hk hk').1 ob u, (h3 k hk hk').2⟩⟩ h.nv
theorem Vo.done {w wr : World} {b : Nat} {sr w4 : Array Value} {c : Cel} {o : Value} {out : List Int} {vl : Value} {ls : List (List Int)} (h : Vo w wr b sr w4 c o out vl ls) (cs : Array Value) : VwR w.heap.size (wr.setRow (w.heap.size + 1 + 1) cs) o vl ⟨⟨c, out⟩, ls⟩ := by
 have hb := h.lb
 obtain ⟨_, ⟨vs, q1, q2, q3⟩, _⟩ := h.n
 refine VwR.of (h.so.row cs (fun e => by have := (h.oo _ e).1; omega)) (fun x e => by have := (h.oo x e).1; omega) ⟨vs, q1, (own_sl q2).row cs (fun e => by have := own_block q2 _ e; omega), fun k hk hk' => ⟨(q3 k hk hk').1.row cs (fun e => by have := ((q3 k hk hk').2 _ e).1; omega), fun x e => by have := ((q3 k hk hk').2 x e).1; omega⟩⟩ (fun x e => by have := own_block q2 x e; omega)
def viewE (S : SysD) (D : WldD) (part : Int) : Int := if chkW S D ≠ 0 then chkW S D else if isPB S part = true then 0 else 5
def viewR (S : SysD) (D : WldD) (part : Int) : ViwD := if viewE S D part = 0 then ⟨D.cells.getD part.toNat ⟨celZ, []⟩, viewL S.chans D.lines part⟩ else viwZ
theorem viewOf_any (S : SysD) (D : WldD) (part : Int) (vp vc vs uc ul : Value) (w : World) (he : Env w) (hS : Sys w vp vc vs S) (hW : Wld w uc ul D) (v0 : Int) (hv0 : viewE S D part = v0) (V : ViwD) (hV : viewR S D part = V) :
  Calls Tryz.prog 9 #[.agg #[vp, vc, vs], .agg #[.int .i64 D.tick, uc, ul], .int .i64 part] w fun e w' => ∃ o vl, e = .returned (.tuple #[.agg (vwC V.d.c o vl), .int .i64 v0]) ∧ VwR w.heap.size w' o vl V ∧ Below w.heap.size w w' := by
 obtain ⟨i2, hi2, hx0, hx1, hx2⟩ := info_parts infoLine
 obtain ⟨pa, pc, rfl⟩ := hS.p.form
 obtain ⟨ka, kc, rfl⟩ := hS.c.form
 obtain ⟨sa, sc, rfl⟩ := hS.s.form
 obtain ⟨ua, uc, rfl⟩ := hW.c.form
 obtain ⟨la, lc, rfl⟩ := hW.l.form
 obtain ⟨c0, hc0⟩ : ∃ c0, chkW S D = c0 := ⟨_, rfl⟩
 have HE := Lib.hid he
 have HS := Lib.hid hS
 have HW := Lib.hid hW
 have HV := Lib.hid hv0
 have HVV := Lib.hid hV
 have HC0 := Lib.hid hc0
 clear he hS hW hv0 hV hc0
 go_enter Tryz.func9, Tryz.ntmps9
 go_upto_region 1 with fail
 generalize hX : World.alloc _ _ = X
 have hXX : X = ((w.alloc (.cells #[.slice pa S.parts.length pc, .slice ka S.chans.length kc, .slice sa S.slots.length sc] 26)).alloc (.cells #[.int .i64 D.tick, .slice ua D.cells.length uc, .slice la D.lines.length lc] 30)).alloc (.cells (vwC celZ (.slice none 0 0) (.slice none 0 0)) 37) := by rw [← hX]; rfl
 have hzX : X.heap.size = w.heap.size + 3 := by rw [hXX]; simp
 have d0 : Below w.heap.size w X := by rw [hXX]; exact up0
 have R30 : Hid (Rw X w.heap.size 26 #[.slice pa S.parts.length pc, .slice ka S.chans.length kc, .slice sa S.slots.length sc]) := Lib.hid (by rw [hXX]; exact rn0)
 have R40 : Hid (Rw X (w.heap.size + 1) 30 #[.int .i64 D.tick, .slice ua D.cells.length uc, .slice la D.lines.length lc]) := Lib.hid (by rw [hXX]; exact rn0)
 have R60 : Hid (Rw X (w.heap.size + 1 + 1) 37 (vwC celZ (.slice none 0 0) (.slice none 0 0))) := Lib.hid (by rw [hXX]; exact rn0)
 have D0 := Lib.hid d0
 clear hX hXX d0
 have s0 := R30.out.cell (j := 0) (v := .slice pa S.parts.length pc) rfl
 have s1 := R30.out.cell (j := 1) (v := .slice ka S.chans.length kc) rfl
 have s2 := R30.out.cell (j := 2) (v := .slice sa S.slots.length sc) rfl
 have t0 := R40.out.cell (j := 0) (v := .int .i64 D.tick) rfl
 have t1 := R40.out.cell (j := 1) (v := .slice ua D.cells.length uc) rfl
 have t2 := R40.out.cell (j := 2) (v := .slice la D.lines.length lc) rfl
 go_wp2_with fail
 refine (kernCheck_any S D _ _ _ _ _ _ (HE.out.up D0.out) (HS.out.up D0.out) (HW.out.up D0.out)).mono ?_
 rw [HC0.out]
 rintro e w1 ⟨rfl, b1⟩
 have z1 := b1.size
 have R3 := Lib.hid (R30.out.up b1 om)
 have R4 := Lib.hid (R40.out.up b1 om)
 have R6 := Lib.hid (R60.out.up b1 om)
 have HB := Lib.hid (D0.out.trans (b1.mono om))
 clear b1 s0 s1 s2 t0 t1 t2 R30 R40 R60 D0
 by_cases h0 : c0 = 0
 rotate_left
 ·have h0b : (c0 == 0) = false := by simpa using h0
  have hv : v0 = c0 := by rw [← HV.out, ← HC0.out]; unfold viewE; rw [if_pos (by rw [HC0.out]; exact h0)]
  have e2 : viwZ = V := by rw [← HVV.out]; unfold viewR; rw [if_neg (by rw [HV.out, hv]; exact h0)]
  subst e2
  subst hv
  clear h0 HV HVV HC0 R3 R4
  go_wp2_with (refine wpList_store_rowW rfl 37 (.tmp 6) (.tmp 17) rfl (w.heap.size + 1 + 1) (vwC celZ (.slice none 0 0) (.slice none 0 0)) rfl rfl 37 _ R6.out sizeView rfl (vwC_one _ _ _ rfl rfl) ?_)
  intro W9 HW9
  have r9 : Rw W9 (w.heap.size + 1 + 1) 37 (vwC celZ (.slice none 0 0) (.slice none 0 0)) := by rw [HW9.out]; exact R6.out.row _
  have HB9 := Lib.hid (show Below w.heap.size w W9 by rw [HW9.out]; exact below_row HB.out om _)
  clear HW9
  go_wp2
  refine bodyPost_ret (results_row_tmp Tryz.results9 _ _ (w.heap.size + 1 + 1) _ _ rfl rfl (run_loadVar_row _ _ 37 _ _ (0, 0) _ r9 Tryz.underlying37 rfl sizeView)) rfl ⟨_, _, rfl, VwR.nil _ _, HB9.out⟩
 subst h0
 obtain ⟨q, hq⟩ : ∃ q, isPB S part = q := ⟨_, rfl⟩
 have s0 := R3.out.cell (j := 0) (v := .slice pa S.parts.length pc) rfl
 have s1 := R3.out.cell (j := 1) (v := .slice ka S.chans.length kc) rfl
 have s2 := R3.out.cell (j := 2) (v := .slice sa S.slots.length sc) rfl
 go_wp2_with fail
 refine (visPart_any S _ _ _ part _ (HS.out.up HB.out) q hq).mono ?_
 rintro e w2 ⟨rfl, b2⟩
 have z2 := b2.size
 have R32 := Lib.hid (R3.out.up b2 R3.out.lt)
 have R42 := Lib.hid (R4.out.up b2 R4.out.lt)
 have R62 := Lib.hid (R6.out.up b2 R6.out.lt)
 have HB2 := Lib.hid (HB.out.trans (b2.mono om))
 clear b2 s0 s1 s2 R3 R4 R6 HB
 cases q with
 | false =>
  have hv : v0 = 5 := by rw [← HV.out]; unfold viewE; rw [if_neg (by rw [HC0.out]; simp), if_neg (by rw [hq]; simp)]
  have e2 : viwZ = V := by rw [← HVV.out]; unfold viewR; rw [if_neg (by rw [HV.out, hv]; simp)]
  subst e2
  subst hv
  clear hq HV HVV HC0 R32 R42
  go_wp2_with (refine wpList_store_rowW rfl 37 (.tmp 6) (.tmp 23) rfl (w.heap.size + 1 + 1) (vwC celZ (.slice none 0 0) (.slice none 0 0)) rfl rfl 37 _ R62.out sizeView rfl (vwC_one _ _ _ rfl rfl) ?_)
  intro W9 HW9
  have r9 : Rw W9 (w.heap.size + 1 + 1) 37 (vwC celZ (.slice none 0 0) (.slice none 0 0)) := by rw [HW9.out]; exact R62.out.row _
  have HB9 := Lib.hid (show Below w.heap.size w W9 by rw [HW9.out]; exact below_row HB2.out om _)
  clear HW9
  go_wp2
  refine bodyPost_ret (results_row_tmp Tryz.results9 _ _ (w.heap.size + 1 + 1) _ _ rfl rfl (run_loadVar_row _ _ 37 _ _ (0, 0) _ r9 Tryz.underlying37 rfl sizeView)) rfl ⟨_, _, rfl, VwR.nil _ _, HB9.out⟩
 | true =>
  have hv : v0 = 0 := by rw [← HV.out]; unfold viewE; rw [if_neg (by rw [HC0.out]; simp), if_pos hq]
  subst hv
  obtain ⟨hp0, hp1⟩ : 0 ≤ part ∧ part < S.parts.length := by simpa [isPB] using hq
  obtain ⟨pn, rfl⟩ : ∃ pn : Nat, part = pn := ⟨part.toNat, by omega⟩
  obtain ⟨hlc, hll⟩ : D.cells.length = S.parts.length ∧ D.lines.length = S.chans.length := by
   obtain ⟨_, h2⟩ := chkW_zero HC0.out
   exact ⟨cellsB_len h2.c, linesB_len h2.l⟩
  have hc6 : S.chans.length ≤ 6 := (countsS (chkW_zero HC0.out).1).2
  have hpd : pn < D.cells.length := by omega
  have HVE : Hid (V = ⟨D.cells[pn], viewL S.chans D.lines pn⟩) := Lib.hid (by rw [← HVV.out]; unfold viewR; rw [if_pos HV.out]; simp [hpd])
  have hol : D.cells[pn].out.length ≤ 16 := ((fine_iff _ _).1 (celB_is (cellsB_at (chkW_zero HC0.out).2.c pn om hpd)).1).2.2.2.2.2.2
  have HLN : Hid (∀ k (h : k < D.lines.length), D.lines[k].length ≤ 3) := Lib.hid fun k h => by
   have := chkL_zero (linesB_at (chkW_zero HC0.out).2.l k om h)
   omega
  obtain ⟨b, off, cap, e1, hcap, hbw, hcc⟩ := HW.out.c.open om
  cases e1
  obtain ⟨ao, oc, hra, hso⟩ := hcc pn hpd
  have RA := Lib.hid (range_up hra HB2.out hbw)
  have SO := Lib.hid (hso.up HB2.out)
  have t1 := R42.out.cell (j := 1) (v := .slice (some ⟨b, off, none⟩) D.cells.length uc) rfl
  have hpi : (pn : Int) < D.cells.length := by omega
  generalize D.cells[pn] = d at HVE hol RA SO
  obtain ⟨c, out⟩ := d
  simp only at HVE hol RA SO
  clear hcc hra hso hq HV HVV hp0 hp1
  go_wp2_with (first | (refine wpList_load_midA rfl 35 (.tmp 27) rfl b (off + pn * 16) rfl #[.int .i64 c.at_, .int .i64 c.r0, .int .i64 c.r1, .int .i64 c.r2, .int .i64 c.r3, .int .i64 c.m0, .int .i64 c.m1, .int .i64 c.m2, .int .i64 c.m3, .int .i64 c.m4, .int .i64 c.m5, .int .i64 c.m6, .int .i64 c.m7, .int .i64 c.read, .slice ao out.length oc, .int .i64 c.en] _ RA.out Tryz.underlying35 rfl sizeCell ?_) | (refine wpList_store_rowW rfl 37 (.tmp 9) (.tmp 29) rfl w2.heap.size (vwC c (.slice ao out.length oc) (.slice none 0 0)) rfl rfl 37 (vwC celZ (.slice none 0 0) (.slice none 0 0)) rn0 sizeView rfl (vwC_one _ _ _ rfl rfl) ?_))
  intro W3 HW3
  have b3 : Below w2.heap.size w2 W3 := by rw [HW3.out]; exact below_row ((Below.refl _ _).alloc (Nat.le_refl _) _) (Nat.le_refl _) _
  have R9 : Hid (Rw W3 w2.heap.size 37 (vwC c (.slice ao out.length oc) (.slice none 0 0))) := by
   show Rw _ _ _ _
   rw [HW3.out]
   exact Rw.row (cs := (vwC celZ (.slice none 0 0) (.slice none 0 0))) rn0 _
  have z3 := R9.out.lt
  have R33 := Lib.hid (R32.out.up b3 om)
  have R43 := Lib.hid (R42.out.up b3 om)
  have R63 := Lib.hid (R62.out.up b3 om)
  have HB3 := Lib.hid (HB2.out.trans (b3.mono om))
  have SO3 := Lib.hid (SO.out.up b3)
  have q14 := R9.out.cell (j := 14) (v := .slice ao out.length oc) rfl
  clear HW3 b3 R32 R42 R62 HB2 SO RA t1
  go_wp2_with fail
  refine (vcopInt_any out om _ _ SO3.out).mono ?_
  rintro e w4 ⟨v4, rfl, ho4, b4⟩
  obtain ⟨a4, c4, rfl⟩ := own_form ho4
  have hob := own_block ho4
  have hol4 := own_lt ho4
  have z4 := b4.size
  have R94 := Lib.hid (R9.out.up b4 R9.out.lt)
  have SO4 := Lib.hid (own_sl ho4)
  have B4 := Lib.hid b4
  clear b4 ho4 q14 R9
  go_wp2_with (refine wpList_store_cellW rfl 33 (.tmp 35) (.tmp 33) rfl w2.heap.size 14 (.slice a4 out.length c4) rfl rfl rfl 37 (vwC c (.slice ao out.length oc) (.slice none 0 0)) R94.out (by show 14 < 17; decide) sizeInts ?_)
  intro W5 HW5
  have b5 : Below W3.heap.size W3 W5 ∨ True := .inr trivial
  have HC : Hid (Vo w W5 w2.heap.size #[.slice pa S.parts.length pc, .slice ka S.chans.length kc, .slice sa S.slots.length sc] #[.int .i64 D.tick, .slice (some ⟨b, off, none⟩) D.cells.length uc, .slice la D.lines.length lc] c (.slice a4 out.length c4) out (.slice none 0 0) []) := Lib.hid (by
   have hd : Below w2.heap.size w4 W5 := by rw [HW5.out]; exact (Below.refl _ _).setCell (by simp) _
   have hs : W5.heap.size = w4.heap.size := by rw [HW5.out]; exact size_set ..
   refine ⟨(HB3.out.trans (B4.out.mono om)).trans (hd.mono om), (R33.out.up B4.out om).up hd om, (R43.out.up B4.out om).up hd om, (R63.out.up B4.out om).up hd om, ?_, NewV.nil _ _ _, ?_, fun x e => ?_, by omega⟩
   ·rw [HW5.out]; exact R94.out.set 14 _
   ·rw [HW5.out]; exact SO4.out.set _ (fun e => by have := hob _ e; omega)
   ·have h1 := hob x e
    have h2 := hol4 x e
    exact ⟨by omega, by omega, by omega, fun e' => by cases e'⟩)
  have s1 := HC.out.r3.cell (j := 1) (v := .slice ka S.chans.length kc) rfl
  clear HW5 R94 SO4 B4 R33 R43 R63 HB3 SO3 hob hol4 b5
  go_wp2
  clear s1
  go_loopw [39] (fun i wr => ∃ k : Nat, i = .int .i64 k ∧ k ≤ S.chans.length ∧ Hid (∃ vl, Vo w wr w2.heap.size #[.slice pa S.parts.length pc, .slice ka S.chans.length kc, .slice sa S.slots.length sc] #[.int .i64 D.tick, .slice (some ⟨b, off, none⟩) D.cells.length uc, .slice la D.lines.length lc] c (.slice a4 out.length c4) out vl (viewL (S.chans.take k) (D.lines.take k) pn))) (fun i _ => S.chans.length - (intOf i).toNat)
  case atStart => exact ⟨0, rfl, Nat.zero_le _, Lib.hid ⟨_, HC.out⟩⟩
  case round =>
   clear HC
   obtain ⟨k, rfl, hk, HC⟩ := hrel
   obtain ⟨vl, hC⟩ := HC.out
   clear HC
   have hvl := viewL_len (pn : Int) (S.chans.take k) (D.lines.take k)
   generalize hlk : viewL (S.chans.take k) (D.lines.take k) pn = ls at hC hvl
   have HLL : Hid (ls.length ≤ 6) := Lib.hid (by rw [List.length_take] at hvl; omega)
   have HLK := Lib.hid hlk
   obtain ⟨a3, c3, rfl⟩ := hC.n.formL
   have CP := Lib.hid hC
   clear hlk hC hvl
   by_cases hlt : k < S.chans.length
   ·have hli : (k : Int) < S.chans.length := by omega
    have hltD : k < D.lines.length := by omega
    have hliD : (k : Int) < D.lines.length := by omega
    obtain ⟨kb, ko, kcap, e1, _, hkb, hkc⟩ := HS.out.c.open om
    cases e1
    obtain ⟨x0, x1, x2⟩ := chan_cells hkc k hlt
    have x0 := bcl CP.out.d hkb x0
    have x1 := bcl CP.out.d hkb x1
    have x2 := bcl CP.out.d hkb x2
    have HST := Lib.hid (viewL_step hlt hltD (pn : Int))
    rw [HLK.out] at HST
    obtain ⟨lb, lo, lcap, e2, _, hlb, hlc⟩ := HW.out.l.open om
    cases e2
    obtain ⟨na, nc, hn1, hn2⟩ := hlc k hltD
    have HN1 := Lib.hid (bcl CP.out.d hlb hn1)
    have HN2 := Lib.hid (hn2.up CP.out.d)
    have hln := HLN.out k hltD
    generalize S.chans[k] = ch at x0 x1 x2 HST
    generalize D.lines[k] = ln at HST HN1 HN2 hln
    obtain ⟨kd, fr, tt⟩ := ch
    simp only at x0 x1 x2 HST
    have hz := CP.out.z
    have hlb3 := CP.out.lb
    clear hkc hlc hn1 hn2
    go_upto_region 11 with fail
    generalize hX2 : World.alloc _ _ = X2
    have hXX2 : X2 = wr.alloc (.cells #[.int .i64 kd, .int .i64 fr, .int .i64 tt] 89) := by rw [← hX2]
    have B2 : Hid (Below wr.heap.size wr X2) := Lib.hid (by rw [hXX2]; exact (Below.refl _ _).alloc (Nat.le_refl _) _)
    have R11 : Hid (Rw X2 wr.heap.size 89 #[.int .i64 kd, .int .i64 fr, .int .i64 tt]) := Lib.hid (by rw [hXX2]; exact Rw.new _ _ _ rfl)
    have k1 := R11.out.cell (j := 1) (v := .int .i64 fr) rfl
    have k2 := R11.out.cell (j := 2) (v := .int .i64 tt) rfl
    clear hX2 hXX2 x0 x1 x2
    cases h1b : (fr == (pn : Int)) with
    | true =>
     rw [h1b] at HST
     simp only [Bool.true_or, if_true] at HST
     go_wp2
     clear k1 k2 h1b
     have bz := B2.out.size
     have CP2 := Lib.hid (CP.out.up B2.out)
     have HM1 := Lib.hid (bcl B2.out (by have := CP.out.d.size; omega) HN1.out)
     have HM2 := Lib.hid (HN2.out.up B2.out)
     have HVL := Lib.hid CP.out.n.ltL
     clear B2
     refine region_still (S := fun w' => Below (w2.heap.size + 1) X2 w') 13 kr (Below.refl _ _).drew (fun hHeld => ?_)
     refine Still.t 0 [] hHeld ?_ (hy := by (intro w' hSw; (try dsimp only at hSw); have y1 := (CP2.out.r9.up hSw om).cell (j := 16) (v := .slice a3 ls.length c3) rfl; have y2 := (CP2.out.r4.up hSw om).cell (j := 2) (v := .slice (some ⟨lb, lo, none⟩) D.lines.length lc) rfl; have y3 := bcl hSw (by have := CP.out.d.size; omega) HM1.out; clear hSw; go_simp; try with_reducible rfl))
     refine Still.t 1 [] hHeld ?_ (hy := by (intro w' hSw; (try dsimp only at hSw); have y1 := (CP2.out.r9.up hSw om).cell (j := 16) (v := .slice a3 ls.length c3) rfl; have y2 := (CP2.out.r4.up hSw om).cell (j := 2) (v := .slice (some ⟨lb, lo, none⟩) D.lines.length lc) rfl; have y3 := bcl hSw (by have := CP.out.d.size; omega) HM1.out; clear hSw; go_simp; try with_reducible rfl))
     refine Still.t 2 [] hHeld ?_ (hy := by (intro w' hSw; (try dsimp only at hSw); have y1 := (CP2.out.r9.up hSw om).cell (j := 16) (v := .slice a3 ls.length c3) rfl; have y2 := (CP2.out.r4.up hSw om).cell (j := 2) (v := .slice (some ⟨lb, lo, none⟩) D.lines.length lc) rfl; have y3 := bcl hSw (by have := CP.out.d.size; omega) HM1.out; clear hSw; go_simp; try with_reducible rfl))
     refine Still.t 3 [] hHeld ?_ (hy := by (intro w' hSw; (try dsimp only at hSw); have y1 := (CP2.out.r9.up hSw om).cell (j := 16) (v := .slice a3 ls.length c3) rfl; have y2 := (CP2.out.r4.up hSw om).cell (j := 2) (v := .slice (some ⟨lb, lo, none⟩) D.lines.length lc) rfl; have y3 := bcl hSw (by have := CP.out.d.size; omega) HM1.out; clear hSw; go_simp; try with_reducible rfl))
     refine Still.t 4 [] hHeld ?_ (hy := by (intro w' hSw; (try dsimp only at hSw); have y1 := (CP2.out.r9.up hSw om).cell (j := 16) (v := .slice a3 ls.length c3) rfl; have y2 := (CP2.out.r4.up hSw om).cell (j := 2) (v := .slice (some ⟨lb, lo, none⟩) D.lines.length lc) rfl; have y3 := bcl hSw (by have := CP.out.d.size; omega) HM1.out; clear hSw; go_simp; try with_reducible rfl))
     refine Still.t 5 [] hHeld ?_ (hy := by (intro w' hSw; (try dsimp only at hSw); have y1 := (CP2.out.r9.up hSw om).cell (j := 16) (v := .slice a3 ls.length c3) rfl; have y2 := (CP2.out.r4.up hSw om).cell (j := 2) (v := .slice (some ⟨lb, lo, none⟩) D.lines.length lc) rfl; have y3 := bcl hSw (by have := CP.out.d.size; omega) HM1.out; clear hSw; go_simp; try with_reducible rfl))
     refine Still.t 6 [] hHeld ?_ (hy := by (intro w' hSw; (try dsimp only at hSw); have y1 := (CP2.out.r9.up hSw om).cell (j := 16) (v := .slice a3 ls.length c3) rfl; have y2 := (CP2.out.r4.up hSw om).cell (j := 2) (v := .slice (some ⟨lb, lo, none⟩) D.lines.length lc) rfl; have y3 := bcl hSw (by have := CP.out.d.size; omega) HM1.out; clear hSw; go_simp; try with_reducible rfl))
     refine Still.t 7 [] hHeld ?_ (hy := by (intro w' hSw; (try dsimp only at hSw); have y1 := (CP2.out.r9.up hSw om).cell (j := 16) (v := .slice a3 ls.length c3) rfl; have y2 := (CP2.out.r4.up hSw om).cell (j := 2) (v := .slice (some ⟨lb, lo, none⟩) D.lines.length lc) rfl; have y3 := bcl hSw (by have := CP.out.d.size; omega) HM1.out; clear hSw; go_simp; try with_reducible rfl))
     refine Still.o 8 rfl rfl (fun K hK => ?_)
     refine wp_call 32 _ _ rfl enVcopInt #[.slice na ln.length nc] ev ((vcopInt_any ln om _ _ (HM2.out.up (Below.refl _ _).drew)).mono ?_)
     rintro e W2 ⟨v2, rfl, hown, bb⟩
     obtain ⟨a2, c2, rfl⟩ := own_form hown
     have hob : ∀ x, (Value.slice a2 ln.length c2).ownBlock = some x → X2.heap.size ≤ x := own_block hown
     have hol2 := own_lt hown
     have bW : Below X2.heap.size X2 W2 := (Below.refl _ _).drew.trans bb
     have zz2 := bW.size
     have CP3 := Lib.hid (CP2.out.up bW)
     have S2 := Lib.hid (own_sl hown)
     refine ⟨_, rfl, hK _ _ (fun _ => bW.mono om) (fun hh => ?_)⟩
     have hHeld := hh (by decide)
     clear hK K hh
     try simp only [Act.put, l1, l2, l3, l4, l5, l6]
     clear hown bb
     refine Still.t 9 [] hHeld ?_
     refine Still.o 10 rfl rfl (fun K hK => ?_)
     go_simp
     refine hK _ _ (fun _ => Below.alloc (bW.mono om) om _) (fun hh => ?_)
     have hHeld := hh (by decide)
     clear hK K hh
     try simp only [Act.put, l1, l2, l3, l4, l5, l6]
     have IN : In (w2.heap.size + 1) 0 (W2.alloc (.cells #[.slice a2 ln.length c2] 81)) (.slice none 0 0) (.slice a3 ls.length c3) (.slice a2 ln.length c2) := fun x e => by
      have h1 := hob x e
      have h2 := hol2 x e
      refine ⟨by omega, by simp; omega, fun e' => (by cases e'), fun e' => ?_⟩
      have := (HVL.out x e').2; omega
     obtain ⟨vs, hvs, hadd⟩ := (CP3.out.n.alloc (.cells #[.slice a2 ln.length c2] 81)).addL ln (.slice a2 ln.length c2) (S2.out.up ((Below.refl _ _).alloc (Nat.le_refl _) _)) IN
     refine Still.o 11 rfl rfl (fun K hK => ?_)
     refine wp_append_lies _ (.tmp 55) (.tmp 64) 28 rfl (w2.heap.size + 1) 81 i2 _ 1 24 Tryz.underlying28 hi2 hx0 hx1 hx2 rfl (by decide) (.slice a3 ls.length c3) ls.length vs ev hvs ⟨W2.heap.size, 0, none⟩ 1 1 [.slice a2 ln.length c2] ev rfl (new_range _ _ #[.slice a2 ln.length c2] _ rfl) (fun u hu => by simp at hu; subst hu; rfl) (by decide) (by have := HLL.out; unfold maxLen; omega) (by have := HLL.out; omega) so _ rfl ?_
     intro g4 cap4 W4 hown hgrow hat hg4
     have hatt : (Value.slice a3 ls.length c3).ownBlock = (Value.slice (some ⟨g4, 0, none⟩) (ls.length + 1) cap4).ownBlock ∨ ∃ g, (Value.slice (some ⟨g4, 0, none⟩) (ls.length + 1) cap4).ownBlock = some g ∧ (W2.alloc (.cells #[.slice a2 ln.length c2] 81)).heap.size ≤ g := hat.imp (fun e => e) (fun e => ⟨g4, rfl, by rw [e]; simp⟩)
     have hn4 := hadd _ W4 hown hgrow hatt
     have hltL := CP3.out.n.ltL
     obtain ⟨hC5, hr5⟩ := (CP3.out.up (wr' := W2.alloc (.cells #[.slice a2 ln.length c2] 81)) ((Below.refl _ _).alloc (Nat.le_refl _) _)).growL hgrow hatt hn4
     have C5 := Lib.hid hC5
     have bS : Below (w2.heap.size + 1) X2 W4 := Below.grown (Below.alloc (bW.mono om) om _) hgrow so (fun k e => (hltL k e).1)
     have q5 := hr5.cell (j := 16) (v := .slice a3 ls.length c3) rfl
     have f5 := hr5.fr 16
     clear hown hgrow hat hn4 hC5 hvs hadd IN hr5 hltL hatt
     refine hK _ _ (fun _ => bS) (fun hh => ?_)
     have hHeld := hh (by decide)
     clear hK K hh
     try simp only [Act.put, l1, l2, l3, l4, l5, l6]
     clear bS bW
     refine Still.t 12 [] hHeld ?_
     refine Still.o 13 rfl rfl (fun K hK => ?_)
     clear hHeld
     go_simp
     refine hK _ _ ab (fun _ => Still.vv ?_)
     clear hK K
     clear q5 f5
     go_wp2
     go_roundw
     case rel => exact ⟨k + 1, by go_num, by omega, Lib.hid ⟨_, by rw [HST.out]; exact C5.out⟩⟩
     case measure => simp [intOf]; omega
    | false =>
     cases h2b : (tt == (pn : Int)) with
     | true =>
      rw [h1b, h2b] at HST
      simp only [Bool.false_or, if_true] at HST
      go_wp2
      clear k1 k2 h1b h2b
      have bz := B2.out.size
      have CP2 := Lib.hid (CP.out.up B2.out)
      have HM1 := Lib.hid (bcl B2.out (by have := CP.out.d.size; omega) HN1.out)
      have HM2 := Lib.hid (HN2.out.up B2.out)
      have HVL := Lib.hid CP.out.n.ltL
      clear B2
      refine region_still (S := fun w' => Below (w2.heap.size + 1) X2 w') 13 kr (Below.refl _ _).drew (fun hHeld => ?_)
      refine Still.t 0 [] hHeld ?_ (hy := by (intro w' hSw; (try dsimp only at hSw); have y1 := (CP2.out.r9.up hSw om).cell (j := 16) (v := .slice a3 ls.length c3) rfl; have y2 := (CP2.out.r4.up hSw om).cell (j := 2) (v := .slice (some ⟨lb, lo, none⟩) D.lines.length lc) rfl; have y3 := bcl hSw (by have := CP.out.d.size; omega) HM1.out; clear hSw; go_simp; try with_reducible rfl))
      refine Still.t 1 [] hHeld ?_ (hy := by (intro w' hSw; (try dsimp only at hSw); have y1 := (CP2.out.r9.up hSw om).cell (j := 16) (v := .slice a3 ls.length c3) rfl; have y2 := (CP2.out.r4.up hSw om).cell (j := 2) (v := .slice (some ⟨lb, lo, none⟩) D.lines.length lc) rfl; have y3 := bcl hSw (by have := CP.out.d.size; omega) HM1.out; clear hSw; go_simp; try with_reducible rfl))
      refine Still.t 2 [] hHeld ?_ (hy := by (intro w' hSw; (try dsimp only at hSw); have y1 := (CP2.out.r9.up hSw om).cell (j := 16) (v := .slice a3 ls.length c3) rfl; have y2 := (CP2.out.r4.up hSw om).cell (j := 2) (v := .slice (some ⟨lb, lo, none⟩) D.lines.length lc) rfl; have y3 := bcl hSw (by have := CP.out.d.size; omega) HM1.out; clear hSw; go_simp; try with_reducible rfl))
      refine Still.t 3 [] hHeld ?_ (hy := by (intro w' hSw; (try dsimp only at hSw); have y1 := (CP2.out.r9.up hSw om).cell (j := 16) (v := .slice a3 ls.length c3) rfl; have y2 := (CP2.out.r4.up hSw om).cell (j := 2) (v := .slice (some ⟨lb, lo, none⟩) D.lines.length lc) rfl; have y3 := bcl hSw (by have := CP.out.d.size; omega) HM1.out; clear hSw; go_simp; try with_reducible rfl))
      refine Still.t 4 [] hHeld ?_ (hy := by (intro w' hSw; (try dsimp only at hSw); have y1 := (CP2.out.r9.up hSw om).cell (j := 16) (v := .slice a3 ls.length c3) rfl; have y2 := (CP2.out.r4.up hSw om).cell (j := 2) (v := .slice (some ⟨lb, lo, none⟩) D.lines.length lc) rfl; have y3 := bcl hSw (by have := CP.out.d.size; omega) HM1.out; clear hSw; go_simp; try with_reducible rfl))
      refine Still.t 5 [] hHeld ?_ (hy := by (intro w' hSw; (try dsimp only at hSw); have y1 := (CP2.out.r9.up hSw om).cell (j := 16) (v := .slice a3 ls.length c3) rfl; have y2 := (CP2.out.r4.up hSw om).cell (j := 2) (v := .slice (some ⟨lb, lo, none⟩) D.lines.length lc) rfl; have y3 := bcl hSw (by have := CP.out.d.size; omega) HM1.out; clear hSw; go_simp; try with_reducible rfl))
      refine Still.t 6 [] hHeld ?_ (hy := by (intro w' hSw; (try dsimp only at hSw); have y1 := (CP2.out.r9.up hSw om).cell (j := 16) (v := .slice a3 ls.length c3) rfl; have y2 := (CP2.out.r4.up hSw om).cell (j := 2) (v := .slice (some ⟨lb, lo, none⟩) D.lines.length lc) rfl; have y3 := bcl hSw (by have := CP.out.d.size; omega) HM1.out; clear hSw; go_simp; try with_reducible rfl))
      refine Still.t 7 [] hHeld ?_ (hy := by (intro w' hSw; (try dsimp only at hSw); have y1 := (CP2.out.r9.up hSw om).cell (j := 16) (v := .slice a3 ls.length c3) rfl; have y2 := (CP2.out.r4.up hSw om).cell (j := 2) (v := .slice (some ⟨lb, lo, none⟩) D.lines.length lc) rfl; have y3 := bcl hSw (by have := CP.out.d.size; omega) HM1.out; clear hSw; go_simp; try with_reducible rfl))
      refine Still.o 8 rfl rfl (fun K hK => ?_)
      refine wp_call 32 _ _ rfl enVcopInt #[.slice na ln.length nc] ev ((vcopInt_any ln om _ _ (HM2.out.up (Below.refl _ _).drew)).mono ?_)
      rintro e W2 ⟨v2, rfl, hown, bb⟩
      obtain ⟨a2, c2, rfl⟩ := own_form hown
      have hob : ∀ x, (Value.slice a2 ln.length c2).ownBlock = some x → X2.heap.size ≤ x := own_block hown
      have hol2 := own_lt hown
      have bW : Below X2.heap.size X2 W2 := (Below.refl _ _).drew.trans bb
      have zz2 := bW.size
      have CP3 := Lib.hid (CP2.out.up bW)
      have S2 := Lib.hid (own_sl hown)
      refine ⟨_, rfl, hK _ _ (fun _ => bW.mono om) (fun hh => ?_)⟩
      have hHeld := hh (by decide)
      clear hK K hh
      try simp only [Act.put, l1, l2, l3, l4, l5, l6]
      clear hown bb
      refine Still.t 9 [] hHeld ?_
      refine Still.o 10 rfl rfl (fun K hK => ?_)
      go_simp
      refine hK _ _ (fun _ => Below.alloc (bW.mono om) om _) (fun hh => ?_)
      have hHeld := hh (by decide)
      clear hK K hh
      try simp only [Act.put, l1, l2, l3, l4, l5, l6]
      have IN : In (w2.heap.size + 1) 0 (W2.alloc (.cells #[.slice a2 ln.length c2] 81)) (.slice none 0 0) (.slice a3 ls.length c3) (.slice a2 ln.length c2) := fun x e => by
       have h1 := hob x e
       have h2 := hol2 x e
       refine ⟨by omega, by simp; omega, fun e' => (by cases e'), fun e' => ?_⟩
       have := (HVL.out x e').2; omega
      obtain ⟨vs, hvs, hadd⟩ := (CP3.out.n.alloc (.cells #[.slice a2 ln.length c2] 81)).addL ln (.slice a2 ln.length c2) (S2.out.up ((Below.refl _ _).alloc (Nat.le_refl _) _)) IN
      refine Still.o 11 rfl rfl (fun K hK => ?_)
      refine wp_append_lies _ (.tmp 55) (.tmp 64) 28 rfl (w2.heap.size + 1) 81 i2 _ 1 24 Tryz.underlying28 hi2 hx0 hx1 hx2 rfl (by decide) (.slice a3 ls.length c3) ls.length vs ev hvs ⟨W2.heap.size, 0, none⟩ 1 1 [.slice a2 ln.length c2] ev rfl (new_range _ _ #[.slice a2 ln.length c2] _ rfl) (fun u hu => by simp at hu; subst hu; rfl) (by decide) (by have := HLL.out; unfold maxLen; omega) (by have := HLL.out; omega) so _ rfl ?_
      intro g4 cap4 W4 hown hgrow hat hg4
      have hatt : (Value.slice a3 ls.length c3).ownBlock = (Value.slice (some ⟨g4, 0, none⟩) (ls.length + 1) cap4).ownBlock ∨ ∃ g, (Value.slice (some ⟨g4, 0, none⟩) (ls.length + 1) cap4).ownBlock = some g ∧ (W2.alloc (.cells #[.slice a2 ln.length c2] 81)).heap.size ≤ g := hat.imp (fun e => e) (fun e => ⟨g4, rfl, by rw [e]; simp⟩)
      have hn4 := hadd _ W4 hown hgrow hatt
      have hltL := CP3.out.n.ltL
      obtain ⟨hC5, hr5⟩ := (CP3.out.up (wr' := W2.alloc (.cells #[.slice a2 ln.length c2] 81)) ((Below.refl _ _).alloc (Nat.le_refl _) _)).growL hgrow hatt hn4
      have C5 := Lib.hid hC5
      have bS : Below (w2.heap.size + 1) X2 W4 := Below.grown (Below.alloc (bW.mono om) om _) hgrow so (fun k e => (hltL k e).1)
      have q5 := hr5.cell (j := 16) (v := .slice a3 ls.length c3) rfl
      have f5 := hr5.fr 16
      clear hown hgrow hat hn4 hC5 hvs hadd IN hr5 hltL hatt
      refine hK _ _ (fun _ => bS) (fun hh => ?_)
      have hHeld := hh (by decide)
      clear hK K hh
      try simp only [Act.put, l1, l2, l3, l4, l5, l6]
      clear bS bW
      refine Still.t 12 [] hHeld ?_
      refine Still.o 13 rfl rfl (fun K hK => ?_)
      clear hHeld
      go_simp
      refine hK _ _ ab (fun _ => Still.vv ?_)
      clear hK K
      clear q5 f5
      go_wp2
      go_roundw
      case rel => exact ⟨k + 1, by go_num, by omega, Lib.hid ⟨_, by rw [HST.out]; exact C5.out⟩⟩
      case measure => simp [intOf]; omega
     | false =>
      rw [h1b, h2b] at HST
      simp only [Bool.or_false, Bool.false_eq_true, if_false, List.append_nil] at HST
      have C5 := Lib.hid (CP.out.up B2.out)
      go_wp2
      go_roundw
      case rel => exact ⟨k + 1, by go_num, by omega, Lib.hid ⟨_, by rw [HST.out]; exact C5.out⟩⟩
      case measure => simp [intOf]; omega
   ·have hli : ¬ (k : Int) < S.chans.length := by omega
    have hle : viewL S.chans D.lines pn = ls := by rw [← HLK.out, List.take_of_length_le om, List.take_of_length_le om]
    rw [hle] at HVE
    obtain rfl := HVE.out
    have hlb3 := CP.out.lb
    clear HLK
    go_wp2_with (first | (refine wpList_load_row rfl 37 (.tmp 9) rfl w2.heap.size rfl 37 _ (0, 0) _ CP.out.r9 Tryz.underlying37 rfl sizeView ?_) | (refine wpList_store_rowW rfl 37 (.tmp 6) (.tmp 68) rfl (w.heap.size + 1 + 1) (vwC c (.slice a4 out.length c4) (.slice a3 ls.length c3)) rfl rfl 37 _ CP.out.r6 sizeView rfl (vwC_one _ _ _ rfl rfl) ?_))
    intro W9 HW9
    have r9 : Rw W9 (w.heap.size + 1 + 1) 37 (vwC c (.slice a4 out.length c4) (.slice a3 ls.length c3)) := by rw [HW9.out]; exact CP.out.r6.row _
    have HB9 := Lib.hid (show Below w.heap.size w W9 by rw [HW9.out]; exact below_row CP.out.d om _)
    have V9 := Lib.hid (show VwR w.heap.size W9 (.slice a4 out.length c4) (.slice a3 ls.length c3) ⟨⟨c, out⟩, ls⟩ by rw [HW9.out]; exact CP.out.done _)
    clear HW9
    go_wp2
    exact bodyPost_ret (results_row_tmp Tryz.results9 _ _ (w.heap.size + 1 + 1) _ _ rfl rfl (run_loadVar_row _ _ 37 _ _ (0, 0) _ r9 Tryz.underlying37 rfl sizeView)) rfl ⟨_, _, rfl, V9.out, HB9.out⟩
end Go.Proofs.YtehhhiodfcdnmaaGreatDoor

/- view.Of. -/
import Derived.Test.YtehhhiodfcdnmaaGreatDoorJ3
import Derived.Test.YtehhhiodfcdnmaaGreatDoorJ10
import Derived.Test.YtehhhiodfcdnmaaGreatDoorKn8
namespace Go.Proofs.YtehhhiodfcdnmaaGreatDoor
set_option linter.unusedSimpArgs false
set_option linter.unusedVariables false
open Go.RowKit Go.Sort
def vwC (c : Cel) (o l : Value) : Array Value := #[.int .i64 c.at_, .int .i64 c.r0, .int .i64 c.r1, .int .i64 c.r2, .int .i64 c.r3, .int .i64 c.m0, .int .i64 c.m1, .int .i64 c.m2, .int .i64 c.m3, .int .i64 c.m4, .int .i64 c.m5, .int .i64 c.m6, .int .i64 c.m7, .int .i64 c.read, o, .int .i64 c.en, l]
theorem sizeView : (Tryz.prog.info? 37).map (·.size) = some 17 := by kernel_rfl
theorem vwC_one (c : Cel) (o l : Value) (h : o.oneCell' = true) (h' : l.oneCell' = true) : (vwC c o l).all (·.oneCell') = true := by
  simp [vwC, h, h']
  simp [Value.oneCell']
def viewL : List Chn → List (List Int) → Int → List (List Int)
  | c :: cs, l :: ls, p => if c.fr == p || c.tt == p then l :: viewL cs ls p else viewL cs ls p
  | _, _, _ => []
theorem viewL_snoc (p : Int) : ∀ (cs : List Chn) (ls : List (List Int)) (c : Chn) (l : List Int), cs.length = ls.length → viewL (cs ++ [c]) (ls ++ [l]) p = viewL cs ls p ++ (if c.fr == p || c.tt == p then [l] else [])
  | [], [], c, l, _ => by simp [viewL]
  | a :: cs, b :: ls, c, l, h => by
    have ih := viewL_snoc p cs ls c l (by simpa using h)
    simp only [List.cons_append, viewL]
    split
    · rw [ih]; rfl
    · exact ih
theorem viewL_step {cs : List Chn} {ls : List (List Int)} {k : Nat} (h : k < cs.length) (h' : k < ls.length) (p : Int) : viewL (cs.take (k + 1)) (ls.take (k + 1)) p = viewL (cs.take k) (ls.take k) p ++ (if cs[k].fr == p || cs[k].tt == p then [ls[k]] else []) := by
  rw [List.take_succ_eq_append_getElem h, List.take_succ_eq_append_getElem h']
  exact viewL_snoc p _ _ _ _ (by simp; omega)
theorem viewL_len (p : Int) : ∀ (cs : List Chn) (ls : List (List Int)), (viewL cs ls p).length ≤ cs.length
  | [], _ => by simp [viewL]
  | _ :: _, [] => by simp [viewL]
  | c :: cs, l :: ls => by
    have := viewL_len p cs ls
    simp only [viewL]
    split
    · simp; omega
    · simp; omega
structure Vo (w wr : World) (b : Nat) (sr w4 : Array Value) (c : Cel) (o : Value) (out : List Int) (vl : Value) (ls : List (List Int)) : Prop where
  d : Below w.heap.size w wr
  r3 : Rw wr w.heap.size 26 sr
  r4 : Rw wr (w.heap.size + 1) 30 w4
  r6 : Rw wr (w.heap.size + 1 + 1) 37 (vwC celZ (.slice none 0 0) (.slice none 0 0))
  r9 : Rw wr b 37 (vwC c o vl)
  n : NewV (b + 1) 0 wr (.slice none 0 0) vl [] ls
  so : Sl wr 1 o out.length (ints out)
  oo : ∀ x, o.ownBlock = some x → w.heap.size + 3 ≤ x ∧ x ≠ b ∧ x < wr.heap.size ∧ vl.ownBlock ≠ some x
  lb : w.heap.size + 3 ≤ b
section
variable {w wr wr' : World} {b : Nat} {sr w4 : Array Value} {c : Cel} {o : Value} {out : List Int} {vl vl' : Value} {ls ls' : List (List Int)}
theorem Vo.z (h : Vo w wr b sr w4 c o out vl ls) : b + 1 ≤ wr.heap.size := h.r9.lt
theorem Vo.up (h : Vo w wr b sr w4 c o out vl ls) (hb : Below wr.heap.size wr wr') : Vo w wr' b sr w4 c o out vl ls :=
  ⟨h.d.trans (hb.mono h.d.size), h.r3.up hb h.r3.lt, h.r4.up hb h.r4.lt, h.r6.up hb h.r6.lt, h.r9.up hb h.r9.lt, h.n.up hb, h.so.up hb, fun x e => ⟨(h.oo x e).1, (h.oo x e).2.1, Nat.lt_of_lt_of_le (h.oo x e).2.2.1 hb.size, (h.oo x e).2.2.2⟩, h.lb⟩
theorem Vo.growL (h : Vo w wr b sr w4 c o out vl ls) (hgr : wr.grownBy wr' vl.ownBlock) (hat : vl.ownBlock = vl'.ownBlock ∨ ∃ g, vl'.ownBlock = some g ∧ wr.heap.size ≤ g) (hn : NewV (b + 1) 0 wr' (.slice none 0 0) vl' [] ls') :
    Vo w (wr'.setCell ⟨b, 16, none⟩ vl') b sr w4 c o out vl' ls' ∧ Rw wr' b 37 (vwC c o vl) := by
  have b1 : Below (b + 1) wr wr' := (Below.refl _ _).grown hgr h.z (fun k e => (h.n.ltL k e).1)
  have b2 : Below b wr (wr'.setCell ⟨b, 16, none⟩ vl') := (b1.mono (by omega)).setCell (by simp) _
  have r9 := h.r9.up b1 (by omega)
  have h2 := h.lb
  have hs : (wr'.setCell ⟨b, 16, none⟩ vl').heap.size = wr'.heap.size := size_set ..
  refine ⟨⟨h.d.trans (b2.mono (by omega)), h.r3.up b2 (by omega), h.r4.up b2 (by omega), h.r6.up b2 (by omega), r9.set 16 _, hn.set (by omega) _, (sl_growK h.so hgr (fun k e => (h.oo k e).2.2.2)).set _ (fun e => (h.oo _ e).2.1 rfl), fun x e => ⟨(h.oo x e).1, (h.oo x e).2.1, by rw [hs]; exact Nat.lt_of_lt_of_le (h.oo x e).2.2.1 hgr.size, fun e' => ?_⟩, h2⟩, r9⟩
  rcases hat with e1 | ⟨g, e1, hg⟩
  · exact (h.oo x e).2.2.2 (e1.trans e')
  · rw [e1] at e'
    injection e' with e'
    have := (h.oo x e).2.2.1
    omega
end
structure ViwD where
  d : CelD
  ls : List (List Int)
def viwZ : ViwD := ⟨⟨celZ, []⟩, []⟩
structure VwR (n : Nat) (w : World) (o vl : Value) (V : ViwD) : Prop where
  so : Sl w 1 o V.d.out.length (ints V.d.out)
  l : LinesR w vl V.ls
  no : NewB n o
  nl : ∃ vs : List Value, vs.length = V.ls.length ∧ Sl w 1 vl V.ls.length vs ∧ ∀ k (hk : k < V.ls.length) (hk' : k < vs.length), Sl w 1 vs[k] V.ls[k].length (ints V.ls[k]) ∧ NewB n vs[k]
  nv : NewB n vl
theorem VwR.up {n : Nat} {w w' : World} {o vl : Value} {V : ViwD} (h : VwR n w o vl V) (hb : Below w.heap.size w w') : VwR n w' o vl V := by
  obtain ⟨vs, h1, h2, h3⟩ := h.nl
  exact ⟨h.so.up hb, h.l.up hb, h.no, ⟨vs, h1, h2.up hb, fun k hk hk' => ⟨(h3 k hk hk').1.up hb, (h3 k hk hk').2⟩⟩, h.nv⟩
theorem VwR.of {n : Nat} {w : World} {o vl : Value} {V : ViwD} (so : Sl w 1 o V.d.out.length (ints V.d.out)) (no : NewB n o) (nl : ∃ vs : List Value, vs.length = V.ls.length ∧ Sl w 1 vl V.ls.length vs ∧ ∀ k (hk : k < V.ls.length) (hk' : k < vs.length), Sl w 1 vs[k] V.ls[k].length (ints V.ls[k]) ∧ NewB n vs[k]) (nv : NewB n vl) : VwR n w o vl V := by
  obtain ⟨vs, h1, h2, h3⟩ := nl
  exact ⟨so, ⟨vs, h1, h2, fun k hk hk' => (h3 k hk hk').1⟩, no, ⟨vs, h1, h2, h3⟩, nv⟩
theorem VwR.row {n : Nat} {w : World} {o vl : Value} {V : ViwD} (h : VwR n w o vl V) {x : Nat} (hx : x < n) (cs : Array Value) : VwR n (w.setRow x cs) o vl V := by
  obtain ⟨vs, h1, h2, h3⟩ := h.nl
  exact VwR.of (h.so.row cs (fun e => by have := h.no _ e; omega)) h.no ⟨vs, h1, h2.row cs (fun e => by have := h.nv _ e; omega), fun k hk hk' => ⟨(h3 k hk hk').1.row cs (fun e => by have := (h3 k hk hk').2 _ e; omega), (h3 k hk hk').2⟩⟩ h.nv
theorem VwR.low {n m : Nat} {w : World} {o vl : Value} {V : ViwD} (h : VwR n w o vl V) (hm : m ≤ n) : VwR m w o vl V := by
  obtain ⟨vs, h1, h2, h3⟩ := h.nl
  exact VwR.of h.so (h.no.mono hm) ⟨vs, h1, h2, fun k hk hk' => ⟨(h3 k hk hk').1, (h3 k hk hk').2.mono hm⟩⟩ (h.nv.mono hm)
theorem VwR.nil (n : Nat) (w : World) : VwR n w (.slice none 0 0) (.slice none 0 0) viwZ := VwR.of (Sl.nil _ _) (newB_nil _ _) ⟨[], rfl, Sl.nil _ _, fun k hk => by simp [viwZ] at hk⟩ (newB_nil _ _)
theorem VwR.fresh {n : Nat} {w : World} {o vl : Value} {V : ViwD} (h : VwR n w o vl V) (ob : Obj) (u : Array Value) : VwR n ((w.alloc ob).setRow w.heap.size u) o vl V := by
  obtain ⟨vs, h1, h2, h3⟩ := h.nl
  exact VwR.of (sl_fresh h.so ob u) h.no ⟨vs, h1, sl_fresh h2 ob u, fun k hk hk' => ⟨sl_fresh (h3 k hk hk').1 ob u, (h3 k hk hk').2⟩⟩ h.nv
theorem Vo.done {w wr : World} {b : Nat} {sr w4 : Array Value} {c : Cel} {o : Value} {out : List Int} {vl : Value} {ls : List (List Int)} (h : Vo w wr b sr w4 c o out vl ls) (cs : Array Value) : VwR w.heap.size (wr.setRow (w.heap.size + 1 + 1) cs) o vl ⟨⟨c, out⟩, ls⟩ := by
  have hb := h.lb
  obtain ⟨_, ⟨vs, q1, q2, q3⟩, _⟩ := h.n
  refine VwR.of (h.so.row cs (fun e => by have := (h.oo _ e).1; omega)) (fun x e => by have := (h.oo x e).1; omega) ⟨vs, q1, (own_sl q2).row cs (fun e => by have := own_block q2 _ e; omega), fun k hk hk' => ⟨(q3 k hk hk').1.row cs (fun e => by have := ((q3 k hk hk').2 _ e).1; omega), fun x e => by have := ((q3 k hk hk').2 x e).1; omega⟩⟩ (fun x e => by have := own_block q2 x e; omega)
def viewE (S : SysD) (D : WldD) (part : Int) : Int := if chkW S D ≠ 0 then chkW S D else if isPB S part = true then 0 else 5
def viewR (S : SysD) (D : WldD) (part : Int) : ViwD := if viewE S D part = 0 then ⟨D.cells.getD part.toNat ⟨celZ, []⟩, viewL S.chans D.lines part⟩ else viwZ
set_option maxRecDepth 100000 in
set_option maxHeartbeats 8000000 in
theorem viewOf_any (S : SysD) (D : WldD) (part : Int) (vp vc vs uc ul : Value) (w : World) (he : Env w) (hS : Sys w vp vc vs S) (hW : Wld w uc ul D) (v0 : Int) (hv0 : viewE S D part = v0) (V : ViwD) (hV : viewR S D part = V) :
    Calls Tryz.prog 9 #[.agg #[vp, vc, vs], .agg #[.int .i64 D.tick, uc, ul], .int .i64 part] w fun e w' => ∃ o vl, e = .returned (.tuple #[.agg (vwC V.d.c o vl), .int .i64 v0]) ∧ VwR w.heap.size w' o vl V ∧ Below w.heap.size w w' := by
  obtain ⟨i2, hi2, hx0, hx1, hx2⟩ := info_parts infoLine
  obtain ⟨pa, pc, rfl⟩ := hS.p.form
  obtain ⟨ka, kc, rfl⟩ := hS.c.form
  obtain ⟨sa, sc, rfl⟩ := hS.s.form
  obtain ⟨ua, uc, rfl⟩ := hW.c.form
  obtain ⟨la, lc, rfl⟩ := hW.l.form
  obtain ⟨c0, hc0⟩ : ∃ c0, chkW S D = c0 := ⟨_, rfl⟩
  have HE := Lib.hid he
  have HS := Lib.hid hS
  have HW := Lib.hid hW
  have HV := Lib.hid hv0
  have HVV := Lib.hid hV
  have HC0 := Lib.hid hc0
  clear he hS hW hv0 hV hc0
  go_enter Tryz.func9, Tryz.ntmps9
  go_upto_region 1 with fail
  generalize hX : World.alloc _ _ = X
  have hXX : X = ((w.alloc (.cells #[.slice pa S.parts.length pc, .slice ka S.chans.length kc, .slice sa S.slots.length sc] 26)).alloc (.cells #[.int .i64 D.tick, .slice ua D.cells.length uc, .slice la D.lines.length lc] 30)).alloc (.cells (vwC celZ (.slice none 0 0) (.slice none 0 0)) 37) := by rw [← hX]; rfl
  have hzX : X.heap.size = w.heap.size + 3 := by rw [hXX]; simp
  have d0 : Below w.heap.size w X := by rw [hXX]; exact (by repeat (first | exact Below.refl _ _ | assumption | refine Below.drew ?_ | refine Below.alloc ?_ (by first | (simp; done) | (simp; omega)) _ | refine Below.setCell ?_ (by first | (simp; done) | (simp; omega)) _))
  have R30 : Hid (Rw X w.heap.size 26 #[.slice pa S.parts.length pc, .slice ka S.chans.length kc, .slice sa S.slots.length sc]) := Lib.hid (by rw [hXX]; exact (by repeat (first | exact Rw.new _ _ _ (by first | rfl | (simp; done) | omega | (simp; omega)) | refine Rw.alloc ?_ _)))
  have R40 : Hid (Rw X (w.heap.size + 1) 30 #[.int .i64 D.tick, .slice ua D.cells.length uc, .slice la D.lines.length lc]) := Lib.hid (by rw [hXX]; exact (by repeat (first | exact Rw.new _ _ _ (by first | rfl | (simp; done) | omega | (simp; omega)) | refine Rw.alloc ?_ _)))
  have R60 : Hid (Rw X (w.heap.size + 1 + 1) 37 (vwC celZ (.slice none 0 0) (.slice none 0 0))) := Lib.hid (by rw [hXX]; exact (by repeat (first | exact Rw.new _ _ _ (by first | rfl | (simp; done) | omega | (simp; omega)) | refine Rw.alloc ?_ _)))
  have D0 := Lib.hid d0
  clear hX hXX d0
  have s0 := R30.out.cell (j := 0) (v := .slice pa S.parts.length pc) rfl
  have s1 := R30.out.cell (j := 1) (v := .slice ka S.chans.length kc) rfl
  have s2 := R30.out.cell (j := 2) (v := .slice sa S.slots.length sc) rfl
  have t0 := R40.out.cell (j := 0) (v := .int .i64 D.tick) rfl
  have t1 := R40.out.cell (j := 1) (v := .slice ua D.cells.length uc) rfl
  have t2 := R40.out.cell (j := 2) (v := .slice la D.lines.length lc) rfl
  go_wp2_with fail
  refine (kernCheck_any S D _ _ _ _ _ _ (HE.out.up D0.out) (HS.out.up D0.out) (HW.out.up D0.out)).mono ?_
  rw [HC0.out]
  rintro e w1 ⟨rfl, b1⟩
  have z1 := b1.size
  have R3 := Lib.hid (R30.out.up b1 (by omega))
  have R4 := Lib.hid (R40.out.up b1 (by omega))
  have R6 := Lib.hid (R60.out.up b1 (by omega))
  have HB := Lib.hid (D0.out.trans (b1.mono (by omega)))
  clear b1 s0 s1 s2 t0 t1 t2 R30 R40 R60 D0
  by_cases h0 : c0 = 0
  rotate_left
  · have h0b : (c0 == 0) = false := by simpa using h0
    have hv : v0 = c0 := by rw [← HV.out, ← HC0.out]; unfold viewE; rw [if_pos (by rw [HC0.out]; exact h0)]
    have e2 : viwZ = V := by rw [← HVV.out]; unfold viewR; rw [if_neg (by rw [HV.out, hv]; exact h0)]
    subst e2
    subst hv
    clear h0 HV HVV HC0 R3 R4
    go_wp2_with (refine wpList_store_rowW rfl 37 (.tmp 6) (.tmp 17) rfl (w.heap.size + 1 + 1) (vwC celZ (.slice none 0 0) (.slice none 0 0)) rfl rfl 37 _ R6.out sizeView rfl (vwC_one _ _ _ rfl rfl) ?_)
    intro W9 HW9
    have r9 : Rw W9 (w.heap.size + 1 + 1) 37 (vwC celZ (.slice none 0 0) (.slice none 0 0)) := by rw [HW9.out]; exact R6.out.row _
    have HB9 := Lib.hid (show Below w.heap.size w W9 by rw [HW9.out]; exact below_row HB.out (by omega) _)
    clear HW9
    go_wp2
    refine bodyPost_ret (results_row_tmp Tryz.results9 _ _ (w.heap.size + 1 + 1) _ _ rfl rfl (run_loadVar_row _ _ 37 _ _ (0, 0) _ r9 Tryz.underlying37 rfl sizeView)) rfl ⟨_, _, rfl, VwR.nil _ _, HB9.out⟩
  subst h0
  obtain ⟨q, hq⟩ : ∃ q, isPB S part = q := ⟨_, rfl⟩
  have s0 := R3.out.cell (j := 0) (v := .slice pa S.parts.length pc) rfl
  have s1 := R3.out.cell (j := 1) (v := .slice ka S.chans.length kc) rfl
  have s2 := R3.out.cell (j := 2) (v := .slice sa S.slots.length sc) rfl
  go_wp2_with fail
  refine (visPart_any S _ _ _ part _ (HS.out.up HB.out) q hq).mono ?_
  rintro e w2 ⟨rfl, b2⟩
  have z2 := b2.size
  have R32 := Lib.hid (R3.out.up b2 R3.out.lt)
  have R42 := Lib.hid (R4.out.up b2 R4.out.lt)
  have R62 := Lib.hid (R6.out.up b2 R6.out.lt)
  have HB2 := Lib.hid (HB.out.trans (b2.mono (by omega)))
  clear b2 s0 s1 s2 R3 R4 R6 HB
  cases q with
  | false =>
    have hv : v0 = 5 := by rw [← HV.out]; unfold viewE; rw [if_neg (by rw [HC0.out]; simp), if_neg (by rw [hq]; simp)]
    have e2 : viwZ = V := by rw [← HVV.out]; unfold viewR; rw [if_neg (by rw [HV.out, hv]; simp)]
    subst e2
    subst hv
    clear hq HV HVV HC0 R32 R42
    go_wp2_with (refine wpList_store_rowW rfl 37 (.tmp 6) (.tmp 23) rfl (w.heap.size + 1 + 1) (vwC celZ (.slice none 0 0) (.slice none 0 0)) rfl rfl 37 _ R62.out sizeView rfl (vwC_one _ _ _ rfl rfl) ?_)
    intro W9 HW9
    have r9 : Rw W9 (w.heap.size + 1 + 1) 37 (vwC celZ (.slice none 0 0) (.slice none 0 0)) := by rw [HW9.out]; exact R62.out.row _
    have HB9 := Lib.hid (show Below w.heap.size w W9 by rw [HW9.out]; exact below_row HB2.out (by omega) _)
    clear HW9
    go_wp2
    refine bodyPost_ret (results_row_tmp Tryz.results9 _ _ (w.heap.size + 1 + 1) _ _ rfl rfl (run_loadVar_row _ _ 37 _ _ (0, 0) _ r9 Tryz.underlying37 rfl sizeView)) rfl ⟨_, _, rfl, VwR.nil _ _, HB9.out⟩
  | true =>
    have hv : v0 = 0 := by rw [← HV.out]; unfold viewE; rw [if_neg (by rw [HC0.out]; simp), if_pos hq]
    subst hv
    obtain ⟨hp0, hp1⟩ : 0 ≤ part ∧ part < S.parts.length := by simpa [isPB] using hq
    obtain ⟨pn, rfl⟩ : ∃ pn : Nat, part = pn := ⟨part.toNat, by omega⟩
    obtain ⟨hlc, hll⟩ : D.cells.length = S.parts.length ∧ D.lines.length = S.chans.length := by
      obtain ⟨_, h2⟩ := chkW_zero HC0.out
      exact ⟨cellsB_len h2.c, linesB_len h2.l⟩
    have hc6 : S.chans.length ≤ 6 := (countsS (chkW_zero HC0.out).1).2
    have hpd : pn < D.cells.length := by omega
    have HVE : Hid (V = ⟨D.cells[pn], viewL S.chans D.lines pn⟩) := Lib.hid (by rw [← HVV.out]; unfold viewR; rw [if_pos HV.out]; simp [hpd])
    have hol : D.cells[pn].out.length ≤ 16 := ((fine_iff _ _).1 (celB_is (cellsB_at (chkW_zero HC0.out).2.c pn (by omega) hpd)).1).2.2.2.2.2.2
    have HLN : Hid (∀ k (h : k < D.lines.length), D.lines[k].length ≤ 3) := Lib.hid fun k h => by
      have := chkL_zero (linesB_at (chkW_zero HC0.out).2.l k (by omega) h)
      omega
    obtain ⟨b, off, cap, e1, hcap, hbw, hcc⟩ := HW.out.c.open (by omega)
    cases e1
    obtain ⟨ao, oc, hra, hso⟩ := hcc pn hpd
    have RA := Lib.hid (range_up hra HB2.out hbw)
    have SO := Lib.hid (hso.up HB2.out)
    have t1 := R42.out.cell (j := 1) (v := .slice (some ⟨b, off, none⟩) D.cells.length uc) rfl
    have hpi : (pn : Int) < D.cells.length := by omega
    generalize D.cells[pn] = d at HVE hol RA SO
    obtain ⟨c, out⟩ := d
    simp only at HVE hol RA SO
    clear hcc hra hso hq HV HVV hp0 hp1
    go_wp2_with (first | (refine wpList_load_midA rfl 35 (.tmp 27) rfl b (off + pn * 16) rfl #[.int .i64 c.at_, .int .i64 c.r0, .int .i64 c.r1, .int .i64 c.r2, .int .i64 c.r3, .int .i64 c.m0, .int .i64 c.m1, .int .i64 c.m2, .int .i64 c.m3, .int .i64 c.m4, .int .i64 c.m5, .int .i64 c.m6, .int .i64 c.m7, .int .i64 c.read, .slice ao out.length oc, .int .i64 c.en] _ RA.out Tryz.underlying35 rfl sizeCell ?_) | (refine wpList_store_rowW rfl 37 (.tmp 9) (.tmp 29) rfl w2.heap.size (vwC c (.slice ao out.length oc) (.slice none 0 0)) rfl rfl 37 (vwC celZ (.slice none 0 0) (.slice none 0 0)) (by repeat (first | exact Rw.new _ _ _ (by first | rfl | (simp; done) | omega | (simp; omega)) | refine Rw.alloc ?_ _)) sizeView rfl (vwC_one _ _ _ rfl rfl) ?_))
    intro W3 HW3
    have b3 : Below w2.heap.size w2 W3 := by rw [HW3.out]; exact below_row ((Below.refl _ _).alloc (Nat.le_refl _) _) (Nat.le_refl _) _
    have R9 : Hid (Rw W3 w2.heap.size 37 (vwC c (.slice ao out.length oc) (.slice none 0 0))) := by
      show Rw _ _ _ _
      rw [HW3.out]
      exact Rw.row (cs := (vwC celZ (.slice none 0 0) (.slice none 0 0))) (by repeat (first | exact Rw.new _ _ _ (by first | rfl | (simp; done) | omega | (simp; omega)) | refine Rw.alloc ?_ _)) _
    have z3 := R9.out.lt
    have R33 := Lib.hid (R32.out.up b3 (by omega))
    have R43 := Lib.hid (R42.out.up b3 (by omega))
    have R63 := Lib.hid (R62.out.up b3 (by omega))
    have HB3 := Lib.hid (HB2.out.trans (b3.mono (by omega)))
    have SO3 := Lib.hid (SO.out.up b3)
    have q14 := R9.out.cell (j := 14) (v := .slice ao out.length oc) rfl
    clear HW3 b3 R32 R42 R62 HB2 SO RA t1
    go_wp2_with fail
    refine (vcopInt_any out (by omega) _ _ SO3.out).mono ?_
    rintro e w4 ⟨v4, rfl, ho4, b4⟩
    obtain ⟨a4, c4, rfl⟩ := own_form ho4
    have hob := own_block ho4
    have hol4 := own_lt ho4
    have z4 := b4.size
    have R94 := Lib.hid (R9.out.up b4 R9.out.lt)
    have SO4 := Lib.hid (own_sl ho4)
    have B4 := Lib.hid b4
    clear b4 ho4 q14 R9
    go_wp2_with (refine wpList_store_cellW rfl 33 (.tmp 35) (.tmp 33) rfl w2.heap.size 14 (.slice a4 out.length c4) rfl rfl rfl 37 (vwC c (.slice ao out.length oc) (.slice none 0 0)) R94.out (by show 14 < 17; decide) sizeInts ?_)
    intro W5 HW5
    have b5 : Below W3.heap.size W3 W5 ∨ True := .inr trivial
    have HC : Hid (Vo w W5 w2.heap.size #[.slice pa S.parts.length pc, .slice ka S.chans.length kc, .slice sa S.slots.length sc] #[.int .i64 D.tick, .slice (some ⟨b, off, none⟩) D.cells.length uc, .slice la D.lines.length lc] c (.slice a4 out.length c4) out (.slice none 0 0) []) := Lib.hid (by
      have hd : Below w2.heap.size w4 W5 := by rw [HW5.out]; exact (Below.refl _ _).setCell (by simp) _
      have hs : W5.heap.size = w4.heap.size := by rw [HW5.out]; exact size_set ..
      refine ⟨(HB3.out.trans (B4.out.mono (by omega))).trans (hd.mono (by omega)), (R33.out.up B4.out (by omega)).up hd (by omega), (R43.out.up B4.out (by omega)).up hd (by omega), (R63.out.up B4.out (by omega)).up hd (by omega), ?_, NewV.nil _ _ _, ?_, fun x e => ?_, by omega⟩
      · rw [HW5.out]; exact R94.out.set 14 _
      · rw [HW5.out]; exact SO4.out.set _ (fun e => by have := hob _ e; omega)
      · have h1 := hob x e
        have h2 := hol4 x e
        exact ⟨by omega, by omega, by omega, fun e' => by cases e'⟩)
    have s1 := HC.out.r3.cell (j := 1) (v := .slice ka S.chans.length kc) rfl
    clear HW5 R94 SO4 B4 R33 R43 R63 HB3 SO3 hob hol4 b5
    go_wp2
    clear s1
    go_loopw [39] (fun i wr => ∃ k : Nat, i = .int .i64 k ∧ k ≤ S.chans.length ∧ Hid (∃ vl, Vo w wr w2.heap.size #[.slice pa S.parts.length pc, .slice ka S.chans.length kc, .slice sa S.slots.length sc] #[.int .i64 D.tick, .slice (some ⟨b, off, none⟩) D.cells.length uc, .slice la D.lines.length lc] c (.slice a4 out.length c4) out vl (viewL (S.chans.take k) (D.lines.take k) pn))) (fun i _ => S.chans.length - (intOf i).toNat)
    case atStart => exact ⟨0, rfl, Nat.zero_le _, Lib.hid ⟨_, HC.out⟩⟩
    case round =>
      clear HC
      obtain ⟨k, rfl, hk, HC⟩ := hrel
      obtain ⟨vl, hC⟩ := HC.out
      clear HC
      have hvl := viewL_len (pn : Int) (S.chans.take k) (D.lines.take k)
      generalize hlk : viewL (S.chans.take k) (D.lines.take k) pn = ls at hC hvl
      have HLL : Hid (ls.length ≤ 6) := Lib.hid (by rw [List.length_take] at hvl; omega)
      have HLK := Lib.hid hlk
      obtain ⟨a3, c3, rfl⟩ := hC.n.formL
      have CP := Lib.hid hC
      clear hlk hC hvl
      by_cases hlt : k < S.chans.length
      · have hli : (k : Int) < S.chans.length := by omega
        have hltD : k < D.lines.length := by omega
        have hliD : (k : Int) < D.lines.length := by omega
        obtain ⟨kb, ko, kcap, e1, _, hkb, hkc⟩ := HS.out.c.open (by omega)
        cases e1
        obtain ⟨x0, x1, x2⟩ := chan_cells hkc k hlt
        have x0 := bcl CP.out.d hkb x0
        have x1 := bcl CP.out.d hkb x1
        have x2 := bcl CP.out.d hkb x2
        have HST := Lib.hid (viewL_step hlt hltD (pn : Int))
        rw [HLK.out] at HST
        obtain ⟨lb, lo, lcap, e2, _, hlb, hlc⟩ := HW.out.l.open (by omega)
        cases e2
        obtain ⟨na, nc, hn1, hn2⟩ := hlc k hltD
        have HN1 := Lib.hid (bcl CP.out.d hlb hn1)
        have HN2 := Lib.hid (hn2.up CP.out.d)
        have hln := HLN.out k hltD
        generalize S.chans[k] = ch at x0 x1 x2 HST
        generalize D.lines[k] = ln at HST HN1 HN2 hln
        obtain ⟨kd, fr, tt⟩ := ch
        simp only at x0 x1 x2 HST
        have hz := CP.out.z
        have hlb3 := CP.out.lb
        clear hkc hlc hn1 hn2
        go_upto_region 11 with fail
        generalize hX2 : World.alloc _ _ = X2
        have hXX2 : X2 = wr.alloc (.cells #[.int .i64 kd, .int .i64 fr, .int .i64 tt] 89) := by rw [← hX2]
        have B2 : Hid (Below wr.heap.size wr X2) := Lib.hid (by rw [hXX2]; exact (Below.refl _ _).alloc (Nat.le_refl _) _)
        have R11 : Hid (Rw X2 wr.heap.size 89 #[.int .i64 kd, .int .i64 fr, .int .i64 tt]) := Lib.hid (by rw [hXX2]; exact Rw.new _ _ _ rfl)
        have k1 := R11.out.cell (j := 1) (v := .int .i64 fr) rfl
        have k2 := R11.out.cell (j := 2) (v := .int .i64 tt) rfl
        clear hX2 hXX2 x0 x1 x2
        cases h1b : (fr == (pn : Int)) with
        | true =>
          rw [h1b] at HST
          simp only [Bool.true_or, if_true] at HST
          go_wp2
          clear k1 k2 h1b
          have bz := B2.out.size
          have CP2 := Lib.hid (CP.out.up B2.out)
          have HM1 := Lib.hid (bcl B2.out (by have := CP.out.d.size; omega) HN1.out)
          have HM2 := Lib.hid (HN2.out.up B2.out)
          have HVL := Lib.hid CP.out.n.ltL
          clear B2
          refine region_still (S := fun w' => Below (w2.heap.size + 1) X2 w') 13 (by kernel_rfl) (Below.refl _ _).drew (fun hHeld => ?_)
          refine Still.takeBy (i := 0) [] (v := ?v101) (by kernel_rfl) (by kernel_rfl) rfl (by kernel_rfl) (by kernel_rfl) (by kernel_rfl) (fun _ _ _ h => h) (Or.inl ⟨by rfl, ?y101⟩) hHeld ?r101
          case y101 => (intro w' hSw; (try dsimp only at hSw); have y1 := (CP2.out.r9.up hSw (by omega)).cell (j := 16) (v := .slice a3 ls.length c3) rfl; have y2 := (CP2.out.r4.up hSw (by omega)).cell (j := 2) (v := .slice (some ⟨lb, lo, none⟩) D.lines.length lc) rfl; have y3 := bcl hSw (by have := CP.out.d.size; omega) HM1.out; clear hSw; go_simp; try with_reducible rfl)
          simp only [Act.put, List.getElem_toArray, List.getElem_cons_zero, List.getElem_cons_succ, List.setIfInBounds_toArray, List.set_cons_zero, List.set_cons_succ]
          refine Still.takeBy (i := 1) [] (v := ?v102) (by kernel_rfl) (by kernel_rfl) rfl (by kernel_rfl) (by kernel_rfl) (by kernel_rfl) (fun _ _ _ h => h) (Or.inl ⟨by rfl, ?y102⟩) hHeld ?r102
          case y102 => (intro w' hSw; (try dsimp only at hSw); have y1 := (CP2.out.r9.up hSw (by omega)).cell (j := 16) (v := .slice a3 ls.length c3) rfl; have y2 := (CP2.out.r4.up hSw (by omega)).cell (j := 2) (v := .slice (some ⟨lb, lo, none⟩) D.lines.length lc) rfl; have y3 := bcl hSw (by have := CP.out.d.size; omega) HM1.out; clear hSw; go_simp; try with_reducible rfl)
          simp only [Act.put, List.getElem_toArray, List.getElem_cons_zero, List.getElem_cons_succ, List.setIfInBounds_toArray, List.set_cons_zero, List.set_cons_succ]
          refine Still.takeBy (i := 2) [] (v := ?v103) (by kernel_rfl) (by kernel_rfl) rfl (by kernel_rfl) (by kernel_rfl) (by kernel_rfl) (fun _ _ _ h => h) (Or.inl ⟨by rfl, ?y103⟩) hHeld ?r103
          case y103 => (intro w' hSw; (try dsimp only at hSw); have y1 := (CP2.out.r9.up hSw (by omega)).cell (j := 16) (v := .slice a3 ls.length c3) rfl; have y2 := (CP2.out.r4.up hSw (by omega)).cell (j := 2) (v := .slice (some ⟨lb, lo, none⟩) D.lines.length lc) rfl; have y3 := bcl hSw (by have := CP.out.d.size; omega) HM1.out; clear hSw; go_simp; try with_reducible rfl)
          simp only [Act.put, List.getElem_toArray, List.getElem_cons_zero, List.getElem_cons_succ, List.setIfInBounds_toArray, List.set_cons_zero, List.set_cons_succ]
          refine Still.takeBy (i := 3) [] (v := ?v104) (by kernel_rfl) (by kernel_rfl) rfl (by kernel_rfl) (by kernel_rfl) (by kernel_rfl) (fun _ _ _ h => h) (Or.inl ⟨by rfl, ?y104⟩) hHeld ?r104
          case y104 => (intro w' hSw; (try dsimp only at hSw); have y1 := (CP2.out.r9.up hSw (by omega)).cell (j := 16) (v := .slice a3 ls.length c3) rfl; have y2 := (CP2.out.r4.up hSw (by omega)).cell (j := 2) (v := .slice (some ⟨lb, lo, none⟩) D.lines.length lc) rfl; have y3 := bcl hSw (by have := CP.out.d.size; omega) HM1.out; clear hSw; go_simp; try with_reducible rfl)
          simp only [Act.put, List.getElem_toArray, List.getElem_cons_zero, List.getElem_cons_succ, List.setIfInBounds_toArray, List.set_cons_zero, List.set_cons_succ]
          refine Still.takeBy (i := 4) [] (v := ?v105) (by kernel_rfl) (by kernel_rfl) rfl (by kernel_rfl) (by kernel_rfl) (by kernel_rfl) (fun _ _ _ h => h) (Or.inl ⟨by rfl, ?y105⟩) hHeld ?r105
          case y105 => (intro w' hSw; (try dsimp only at hSw); have y1 := (CP2.out.r9.up hSw (by omega)).cell (j := 16) (v := .slice a3 ls.length c3) rfl; have y2 := (CP2.out.r4.up hSw (by omega)).cell (j := 2) (v := .slice (some ⟨lb, lo, none⟩) D.lines.length lc) rfl; have y3 := bcl hSw (by have := CP.out.d.size; omega) HM1.out; clear hSw; go_simp; try with_reducible rfl)
          simp only [Act.put, List.getElem_toArray, List.getElem_cons_zero, List.getElem_cons_succ, List.setIfInBounds_toArray, List.set_cons_zero, List.set_cons_succ]
          refine Still.takeBy (i := 5) [] (v := ?v106) (by kernel_rfl) (by kernel_rfl) rfl (by kernel_rfl) (by kernel_rfl) (by kernel_rfl) (fun _ _ _ h => h) (Or.inl ⟨by rfl, ?y106⟩) hHeld ?r106
          case y106 => (intro w' hSw; (try dsimp only at hSw); have y1 := (CP2.out.r9.up hSw (by omega)).cell (j := 16) (v := .slice a3 ls.length c3) rfl; have y2 := (CP2.out.r4.up hSw (by omega)).cell (j := 2) (v := .slice (some ⟨lb, lo, none⟩) D.lines.length lc) rfl; have y3 := bcl hSw (by have := CP.out.d.size; omega) HM1.out; clear hSw; go_simp; try with_reducible rfl)
          simp only [Act.put, List.getElem_toArray, List.getElem_cons_zero, List.getElem_cons_succ, List.setIfInBounds_toArray, List.set_cons_zero, List.set_cons_succ]
          refine Still.takeBy (i := 6) [] (v := ?v107) (by kernel_rfl) (by kernel_rfl) rfl (by kernel_rfl) (by kernel_rfl) (by kernel_rfl) (fun _ _ _ h => h) (Or.inl ⟨by rfl, ?y107⟩) hHeld ?r107
          case y107 => (intro w' hSw; (try dsimp only at hSw); have y1 := (CP2.out.r9.up hSw (by omega)).cell (j := 16) (v := .slice a3 ls.length c3) rfl; have y2 := (CP2.out.r4.up hSw (by omega)).cell (j := 2) (v := .slice (some ⟨lb, lo, none⟩) D.lines.length lc) rfl; have y3 := bcl hSw (by have := CP.out.d.size; omega) HM1.out; clear hSw; go_simp; try with_reducible rfl)
          simp only [Act.put, List.getElem_toArray, List.getElem_cons_zero, List.getElem_cons_succ, List.setIfInBounds_toArray, List.set_cons_zero, List.set_cons_succ]
          refine Still.takeBy (i := 7) [] (v := ?v108) (by kernel_rfl) (by kernel_rfl) rfl (by kernel_rfl) (by kernel_rfl) (by kernel_rfl) (fun _ _ _ h => h) (Or.inl ⟨by rfl, ?y108⟩) hHeld ?r108
          case y108 => (intro w' hSw; (try dsimp only at hSw); have y1 := (CP2.out.r9.up hSw (by omega)).cell (j := 16) (v := .slice a3 ls.length c3) rfl; have y2 := (CP2.out.r4.up hSw (by omega)).cell (j := 2) (v := .slice (some ⟨lb, lo, none⟩) D.lines.length lc) rfl; have y3 := bcl hSw (by have := CP.out.d.size; omega) HM1.out; clear hSw; go_simp; try with_reducible rfl)
          simp only [Act.put, List.getElem_toArray, List.getElem_cons_zero, List.getElem_cons_succ, List.setIfInBounds_toArray, List.set_cons_zero, List.set_cons_succ]
          refine Still.all (rs := [8]) (by kernel_rfl) (by simp) (Still.one (i := 8) rfl rfl (fun K hK => ?_) (by simp))
          refine wp_call 32 _ _ rfl enVcopInt #[.slice na ln.length nc] (by first | rfl | simp [Act.eval, Act.put]) ((vcopInt_any ln (by omega) _ _ (HM2.out.up (Below.refl _ _).drew)).mono ?_)
          rintro e W2 ⟨v2, rfl, hown, bb⟩
          obtain ⟨a2, c2, rfl⟩ := own_form hown
          have hob : ∀ x, (Value.slice a2 ln.length c2).ownBlock = some x → X2.heap.size ≤ x := own_block hown
          have hol2 := own_lt hown
          have bW : Below X2.heap.size X2 W2 := (Below.refl _ _).drew.trans bb
          have zz2 := bW.size
          have CP3 := Lib.hid (CP2.out.up bW)
          have S2 := Lib.hid (own_sl hown)
          refine ⟨_, rfl, hK _ _ (fun _ => bW.mono (by omega)) (fun hh => ?_)⟩
          have hHeld := hh (by decide)
          clear hK K hh
          try simp only [Act.put, List.getElem_toArray, List.getElem_cons_zero, List.getElem_cons_succ, List.setIfInBounds_toArray, List.set_cons_zero, List.set_cons_succ]
          clear hown bb
          refine Still.takeBy (i := 9) [] (v := ?v109) (by kernel_rfl) (by kernel_rfl) rfl (by kernel_rfl) (by kernel_rfl) (by kernel_rfl) (fun _ _ _ h => h) (Or.inl ⟨by rfl, ?y109⟩) hHeld ?r109
          case y109 => (intro w' hSw; (try dsimp only at hSw); clear hSw; go_simp; try with_reducible rfl)
          simp only [Act.put, List.getElem_toArray, List.getElem_cons_zero, List.getElem_cons_succ, List.setIfInBounds_toArray, List.set_cons_zero, List.set_cons_succ]
          refine Still.all (rs := [10]) (by kernel_rfl) (by simp) (Still.one (i := 10) rfl rfl (fun K hK => ?_) (by simp))
          go_simp
          refine hK _ _ (fun _ => Below.alloc (bW.mono (by omega)) (by omega) _) (fun hh => ?_)
          have hHeld := hh (by decide)
          clear hK K hh
          try simp only [Act.put, List.getElem_toArray, List.getElem_cons_zero, List.getElem_cons_succ, List.setIfInBounds_toArray, List.set_cons_zero, List.set_cons_succ]
          have IN : In (w2.heap.size + 1) 0 (W2.alloc (.cells #[.slice a2 ln.length c2] 81)) (.slice none 0 0) (.slice a3 ls.length c3) (.slice a2 ln.length c2) := fun x e => by
            have h1 := hob x e
            have h2 := hol2 x e
            refine ⟨by omega, by simp; omega, fun e' => (by cases e'), fun e' => ?_⟩
            have := (HVL.out x e').2; omega
          obtain ⟨vs, hvs, hadd⟩ := (CP3.out.n.alloc (.cells #[.slice a2 ln.length c2] 81)).addL ln (.slice a2 ln.length c2) (S2.out.up ((Below.refl _ _).alloc (Nat.le_refl _) _)) IN
          refine Still.all (rs := [11]) (by kernel_rfl) (by simp) (Still.one (i := 11) rfl rfl (fun K hK => ?_) (by simp))
          refine wp_append_lies _ (.tmp 55) (.tmp 64) 28 rfl (w2.heap.size + 1) 81 i2 _ 1 24 Tryz.underlying28 hi2 hx0 hx1 hx2 rfl (by decide) (.slice a3 ls.length c3) ls.length vs (by first | rfl | simp [Act.eval, Act.put]) hvs ⟨W2.heap.size, 0, none⟩ 1 1 [.slice a2 ln.length c2] (by first | rfl | simp [Act.eval, Act.put]) rfl (new_range _ _ #[.slice a2 ln.length c2] _ rfl) (fun u hu => by simp at hu; subst hu; rfl) (by decide) (by have := HLL.out; unfold maxLen; omega) (by have := HLL.out; omega) (by simp; omega) _ rfl ?_
          intro g4 cap4 W4 hown hgrow hat hg4
          have hatt : (Value.slice a3 ls.length c3).ownBlock = (Value.slice (some ⟨g4, 0, none⟩) (ls.length + 1) cap4).ownBlock ∨ ∃ g, (Value.slice (some ⟨g4, 0, none⟩) (ls.length + 1) cap4).ownBlock = some g ∧ (W2.alloc (.cells #[.slice a2 ln.length c2] 81)).heap.size ≤ g := hat.imp (fun e => e) (fun e => ⟨g4, rfl, by rw [e]; simp⟩)
          have hn4 := hadd _ W4 hown hgrow hatt
          have hltL := CP3.out.n.ltL
          obtain ⟨hC5, hr5⟩ := (CP3.out.up (wr' := W2.alloc (.cells #[.slice a2 ln.length c2] 81)) ((Below.refl _ _).alloc (Nat.le_refl _) _)).growL hgrow hatt hn4
          have C5 := Lib.hid hC5
          have bS : Below (w2.heap.size + 1) X2 W4 := Below.grown (Below.alloc (bW.mono (by omega)) (by omega) _) hgrow (by simp; omega) (fun k e => (hltL k e).1)
          have q5 := hr5.cell (j := 16) (v := .slice a3 ls.length c3) rfl
          have f5 := hr5.fr 16
          clear hown hgrow hat hn4 hC5 hvs hadd IN hr5 hltL hatt
          refine hK _ _ (fun _ => bS) (fun hh => ?_)
          have hHeld := hh (by decide)
          clear hK K hh
          try simp only [Act.put, List.getElem_toArray, List.getElem_cons_zero, List.getElem_cons_succ, List.setIfInBounds_toArray, List.set_cons_zero, List.set_cons_succ]
          clear bS bW
          refine Still.takeBy (i := 12) [] (v := ?v110) (by kernel_rfl) (by kernel_rfl) rfl (by kernel_rfl) (by kernel_rfl) (by kernel_rfl) (fun _ _ _ h => h) (Or.inl ⟨by rfl, ?y110⟩) hHeld ?r110
          case y110 => (intro w' hSw; (try dsimp only at hSw); clear hSw; go_simp; try with_reducible rfl)
          simp only [Act.put, List.getElem_toArray, List.getElem_cons_zero, List.getElem_cons_succ, List.setIfInBounds_toArray, List.set_cons_zero, List.set_cons_succ]
          refine Still.all (rs := [13]) (by kernel_rfl) (by simp) (Still.one (i := 13) rfl rfl (fun K hK => ?_) (by simp))
          clear hHeld
          go_simp
          refine hK _ _ (fun h => absurd rfl h) (fun _ => ?_)
          clear hK K
          refine Still.over (by kernel_rfl) ?_ _
          clear q5 f5
          go_wp2
          go_roundw
          case rel => exact ⟨k + 1, by go_num, by omega, Lib.hid ⟨_, by rw [HST.out]; exact C5.out⟩⟩
          case measure => simp [intOf]; omega
        | false =>
          cases h2b : (tt == (pn : Int)) with
          | true =>
            rw [h1b, h2b] at HST
            simp only [Bool.false_or, if_true] at HST
            go_wp2
            clear k1 k2 h1b h2b
            have bz := B2.out.size
            have CP2 := Lib.hid (CP.out.up B2.out)
            have HM1 := Lib.hid (bcl B2.out (by have := CP.out.d.size; omega) HN1.out)
            have HM2 := Lib.hid (HN2.out.up B2.out)
            have HVL := Lib.hid CP.out.n.ltL
            clear B2
            refine region_still (S := fun w' => Below (w2.heap.size + 1) X2 w') 13 (by kernel_rfl) (Below.refl _ _).drew (fun hHeld => ?_)
            refine Still.takeBy (i := 0) [] (v := ?v141) (by kernel_rfl) (by kernel_rfl) rfl (by kernel_rfl) (by kernel_rfl) (by kernel_rfl) (fun _ _ _ h => h) (Or.inl ⟨by rfl, ?y141⟩) hHeld ?r141
            case y141 => (intro w' hSw; (try dsimp only at hSw); have y1 := (CP2.out.r9.up hSw (by omega)).cell (j := 16) (v := .slice a3 ls.length c3) rfl; have y2 := (CP2.out.r4.up hSw (by omega)).cell (j := 2) (v := .slice (some ⟨lb, lo, none⟩) D.lines.length lc) rfl; have y3 := bcl hSw (by have := CP.out.d.size; omega) HM1.out; clear hSw; go_simp; try with_reducible rfl)
            simp only [Act.put, List.getElem_toArray, List.getElem_cons_zero, List.getElem_cons_succ, List.setIfInBounds_toArray, List.set_cons_zero, List.set_cons_succ]
            refine Still.takeBy (i := 1) [] (v := ?v142) (by kernel_rfl) (by kernel_rfl) rfl (by kernel_rfl) (by kernel_rfl) (by kernel_rfl) (fun _ _ _ h => h) (Or.inl ⟨by rfl, ?y142⟩) hHeld ?r142
            case y142 => (intro w' hSw; (try dsimp only at hSw); have y1 := (CP2.out.r9.up hSw (by omega)).cell (j := 16) (v := .slice a3 ls.length c3) rfl; have y2 := (CP2.out.r4.up hSw (by omega)).cell (j := 2) (v := .slice (some ⟨lb, lo, none⟩) D.lines.length lc) rfl; have y3 := bcl hSw (by have := CP.out.d.size; omega) HM1.out; clear hSw; go_simp; try with_reducible rfl)
            simp only [Act.put, List.getElem_toArray, List.getElem_cons_zero, List.getElem_cons_succ, List.setIfInBounds_toArray, List.set_cons_zero, List.set_cons_succ]
            refine Still.takeBy (i := 2) [] (v := ?v143) (by kernel_rfl) (by kernel_rfl) rfl (by kernel_rfl) (by kernel_rfl) (by kernel_rfl) (fun _ _ _ h => h) (Or.inl ⟨by rfl, ?y143⟩) hHeld ?r143
            case y143 => (intro w' hSw; (try dsimp only at hSw); have y1 := (CP2.out.r9.up hSw (by omega)).cell (j := 16) (v := .slice a3 ls.length c3) rfl; have y2 := (CP2.out.r4.up hSw (by omega)).cell (j := 2) (v := .slice (some ⟨lb, lo, none⟩) D.lines.length lc) rfl; have y3 := bcl hSw (by have := CP.out.d.size; omega) HM1.out; clear hSw; go_simp; try with_reducible rfl)
            simp only [Act.put, List.getElem_toArray, List.getElem_cons_zero, List.getElem_cons_succ, List.setIfInBounds_toArray, List.set_cons_zero, List.set_cons_succ]
            refine Still.takeBy (i := 3) [] (v := ?v144) (by kernel_rfl) (by kernel_rfl) rfl (by kernel_rfl) (by kernel_rfl) (by kernel_rfl) (fun _ _ _ h => h) (Or.inl ⟨by rfl, ?y144⟩) hHeld ?r144
            case y144 => (intro w' hSw; (try dsimp only at hSw); have y1 := (CP2.out.r9.up hSw (by omega)).cell (j := 16) (v := .slice a3 ls.length c3) rfl; have y2 := (CP2.out.r4.up hSw (by omega)).cell (j := 2) (v := .slice (some ⟨lb, lo, none⟩) D.lines.length lc) rfl; have y3 := bcl hSw (by have := CP.out.d.size; omega) HM1.out; clear hSw; go_simp; try with_reducible rfl)
            simp only [Act.put, List.getElem_toArray, List.getElem_cons_zero, List.getElem_cons_succ, List.setIfInBounds_toArray, List.set_cons_zero, List.set_cons_succ]
            refine Still.takeBy (i := 4) [] (v := ?v145) (by kernel_rfl) (by kernel_rfl) rfl (by kernel_rfl) (by kernel_rfl) (by kernel_rfl) (fun _ _ _ h => h) (Or.inl ⟨by rfl, ?y145⟩) hHeld ?r145
            case y145 => (intro w' hSw; (try dsimp only at hSw); have y1 := (CP2.out.r9.up hSw (by omega)).cell (j := 16) (v := .slice a3 ls.length c3) rfl; have y2 := (CP2.out.r4.up hSw (by omega)).cell (j := 2) (v := .slice (some ⟨lb, lo, none⟩) D.lines.length lc) rfl; have y3 := bcl hSw (by have := CP.out.d.size; omega) HM1.out; clear hSw; go_simp; try with_reducible rfl)
            simp only [Act.put, List.getElem_toArray, List.getElem_cons_zero, List.getElem_cons_succ, List.setIfInBounds_toArray, List.set_cons_zero, List.set_cons_succ]
            refine Still.takeBy (i := 5) [] (v := ?v146) (by kernel_rfl) (by kernel_rfl) rfl (by kernel_rfl) (by kernel_rfl) (by kernel_rfl) (fun _ _ _ h => h) (Or.inl ⟨by rfl, ?y146⟩) hHeld ?r146
            case y146 => (intro w' hSw; (try dsimp only at hSw); have y1 := (CP2.out.r9.up hSw (by omega)).cell (j := 16) (v := .slice a3 ls.length c3) rfl; have y2 := (CP2.out.r4.up hSw (by omega)).cell (j := 2) (v := .slice (some ⟨lb, lo, none⟩) D.lines.length lc) rfl; have y3 := bcl hSw (by have := CP.out.d.size; omega) HM1.out; clear hSw; go_simp; try with_reducible rfl)
            simp only [Act.put, List.getElem_toArray, List.getElem_cons_zero, List.getElem_cons_succ, List.setIfInBounds_toArray, List.set_cons_zero, List.set_cons_succ]
            refine Still.takeBy (i := 6) [] (v := ?v147) (by kernel_rfl) (by kernel_rfl) rfl (by kernel_rfl) (by kernel_rfl) (by kernel_rfl) (fun _ _ _ h => h) (Or.inl ⟨by rfl, ?y147⟩) hHeld ?r147
            case y147 => (intro w' hSw; (try dsimp only at hSw); have y1 := (CP2.out.r9.up hSw (by omega)).cell (j := 16) (v := .slice a3 ls.length c3) rfl; have y2 := (CP2.out.r4.up hSw (by omega)).cell (j := 2) (v := .slice (some ⟨lb, lo, none⟩) D.lines.length lc) rfl; have y3 := bcl hSw (by have := CP.out.d.size; omega) HM1.out; clear hSw; go_simp; try with_reducible rfl)
            simp only [Act.put, List.getElem_toArray, List.getElem_cons_zero, List.getElem_cons_succ, List.setIfInBounds_toArray, List.set_cons_zero, List.set_cons_succ]
            refine Still.takeBy (i := 7) [] (v := ?v148) (by kernel_rfl) (by kernel_rfl) rfl (by kernel_rfl) (by kernel_rfl) (by kernel_rfl) (fun _ _ _ h => h) (Or.inl ⟨by rfl, ?y148⟩) hHeld ?r148
            case y148 => (intro w' hSw; (try dsimp only at hSw); have y1 := (CP2.out.r9.up hSw (by omega)).cell (j := 16) (v := .slice a3 ls.length c3) rfl; have y2 := (CP2.out.r4.up hSw (by omega)).cell (j := 2) (v := .slice (some ⟨lb, lo, none⟩) D.lines.length lc) rfl; have y3 := bcl hSw (by have := CP.out.d.size; omega) HM1.out; clear hSw; go_simp; try with_reducible rfl)
            simp only [Act.put, List.getElem_toArray, List.getElem_cons_zero, List.getElem_cons_succ, List.setIfInBounds_toArray, List.set_cons_zero, List.set_cons_succ]
            refine Still.all (rs := [8]) (by kernel_rfl) (by simp) (Still.one (i := 8) rfl rfl (fun K hK => ?_) (by simp))
            refine wp_call 32 _ _ rfl enVcopInt #[.slice na ln.length nc] (by first | rfl | simp [Act.eval, Act.put]) ((vcopInt_any ln (by omega) _ _ (HM2.out.up (Below.refl _ _).drew)).mono ?_)
            rintro e W2 ⟨v2, rfl, hown, bb⟩
            obtain ⟨a2, c2, rfl⟩ := own_form hown
            have hob : ∀ x, (Value.slice a2 ln.length c2).ownBlock = some x → X2.heap.size ≤ x := own_block hown
            have hol2 := own_lt hown
            have bW : Below X2.heap.size X2 W2 := (Below.refl _ _).drew.trans bb
            have zz2 := bW.size
            have CP3 := Lib.hid (CP2.out.up bW)
            have S2 := Lib.hid (own_sl hown)
            refine ⟨_, rfl, hK _ _ (fun _ => bW.mono (by omega)) (fun hh => ?_)⟩
            have hHeld := hh (by decide)
            clear hK K hh
            try simp only [Act.put, List.getElem_toArray, List.getElem_cons_zero, List.getElem_cons_succ, List.setIfInBounds_toArray, List.set_cons_zero, List.set_cons_succ]
            clear hown bb
            refine Still.takeBy (i := 9) [] (v := ?v149) (by kernel_rfl) (by kernel_rfl) rfl (by kernel_rfl) (by kernel_rfl) (by kernel_rfl) (fun _ _ _ h => h) (Or.inl ⟨by rfl, ?y149⟩) hHeld ?r149
            case y149 => (intro w' hSw; (try dsimp only at hSw); clear hSw; go_simp; try with_reducible rfl)
            simp only [Act.put, List.getElem_toArray, List.getElem_cons_zero, List.getElem_cons_succ, List.setIfInBounds_toArray, List.set_cons_zero, List.set_cons_succ]
            refine Still.all (rs := [10]) (by kernel_rfl) (by simp) (Still.one (i := 10) rfl rfl (fun K hK => ?_) (by simp))
            go_simp
            refine hK _ _ (fun _ => Below.alloc (bW.mono (by omega)) (by omega) _) (fun hh => ?_)
            have hHeld := hh (by decide)
            clear hK K hh
            try simp only [Act.put, List.getElem_toArray, List.getElem_cons_zero, List.getElem_cons_succ, List.setIfInBounds_toArray, List.set_cons_zero, List.set_cons_succ]
            have IN : In (w2.heap.size + 1) 0 (W2.alloc (.cells #[.slice a2 ln.length c2] 81)) (.slice none 0 0) (.slice a3 ls.length c3) (.slice a2 ln.length c2) := fun x e => by
              have h1 := hob x e
              have h2 := hol2 x e
              refine ⟨by omega, by simp; omega, fun e' => (by cases e'), fun e' => ?_⟩
              have := (HVL.out x e').2; omega
            obtain ⟨vs, hvs, hadd⟩ := (CP3.out.n.alloc (.cells #[.slice a2 ln.length c2] 81)).addL ln (.slice a2 ln.length c2) (S2.out.up ((Below.refl _ _).alloc (Nat.le_refl _) _)) IN
            refine Still.all (rs := [11]) (by kernel_rfl) (by simp) (Still.one (i := 11) rfl rfl (fun K hK => ?_) (by simp))
            refine wp_append_lies _ (.tmp 55) (.tmp 64) 28 rfl (w2.heap.size + 1) 81 i2 _ 1 24 Tryz.underlying28 hi2 hx0 hx1 hx2 rfl (by decide) (.slice a3 ls.length c3) ls.length vs (by first | rfl | simp [Act.eval, Act.put]) hvs ⟨W2.heap.size, 0, none⟩ 1 1 [.slice a2 ln.length c2] (by first | rfl | simp [Act.eval, Act.put]) rfl (new_range _ _ #[.slice a2 ln.length c2] _ rfl) (fun u hu => by simp at hu; subst hu; rfl) (by decide) (by have := HLL.out; unfold maxLen; omega) (by have := HLL.out; omega) (by simp; omega) _ rfl ?_
            intro g4 cap4 W4 hown hgrow hat hg4
            have hatt : (Value.slice a3 ls.length c3).ownBlock = (Value.slice (some ⟨g4, 0, none⟩) (ls.length + 1) cap4).ownBlock ∨ ∃ g, (Value.slice (some ⟨g4, 0, none⟩) (ls.length + 1) cap4).ownBlock = some g ∧ (W2.alloc (.cells #[.slice a2 ln.length c2] 81)).heap.size ≤ g := hat.imp (fun e => e) (fun e => ⟨g4, rfl, by rw [e]; simp⟩)
            have hn4 := hadd _ W4 hown hgrow hatt
            have hltL := CP3.out.n.ltL
            obtain ⟨hC5, hr5⟩ := (CP3.out.up (wr' := W2.alloc (.cells #[.slice a2 ln.length c2] 81)) ((Below.refl _ _).alloc (Nat.le_refl _) _)).growL hgrow hatt hn4
            have C5 := Lib.hid hC5
            have bS : Below (w2.heap.size + 1) X2 W4 := Below.grown (Below.alloc (bW.mono (by omega)) (by omega) _) hgrow (by simp; omega) (fun k e => (hltL k e).1)
            have q5 := hr5.cell (j := 16) (v := .slice a3 ls.length c3) rfl
            have f5 := hr5.fr 16
            clear hown hgrow hat hn4 hC5 hvs hadd IN hr5 hltL hatt
            refine hK _ _ (fun _ => bS) (fun hh => ?_)
            have hHeld := hh (by decide)
            clear hK K hh
            try simp only [Act.put, List.getElem_toArray, List.getElem_cons_zero, List.getElem_cons_succ, List.setIfInBounds_toArray, List.set_cons_zero, List.set_cons_succ]
            clear bS bW
            refine Still.takeBy (i := 12) [] (v := ?v150) (by kernel_rfl) (by kernel_rfl) rfl (by kernel_rfl) (by kernel_rfl) (by kernel_rfl) (fun _ _ _ h => h) (Or.inl ⟨by rfl, ?y150⟩) hHeld ?r150
            case y150 => (intro w' hSw; (try dsimp only at hSw); clear hSw; go_simp; try with_reducible rfl)
            simp only [Act.put, List.getElem_toArray, List.getElem_cons_zero, List.getElem_cons_succ, List.setIfInBounds_toArray, List.set_cons_zero, List.set_cons_succ]
            refine Still.all (rs := [13]) (by kernel_rfl) (by simp) (Still.one (i := 13) rfl rfl (fun K hK => ?_) (by simp))
            clear hHeld
            go_simp
            refine hK _ _ (fun h => absurd rfl h) (fun _ => ?_)
            clear hK K
            refine Still.over (by kernel_rfl) ?_ _
            clear q5 f5
            go_wp2
            go_roundw
            case rel => exact ⟨k + 1, by go_num, by omega, Lib.hid ⟨_, by rw [HST.out]; exact C5.out⟩⟩
            case measure => simp [intOf]; omega
          | false =>
            rw [h1b, h2b] at HST
            simp only [Bool.or_false, Bool.false_eq_true, if_false, List.append_nil] at HST
            have C5 := Lib.hid (CP.out.up B2.out)
            go_wp2
            go_roundw
            case rel => exact ⟨k + 1, by go_num, by omega, Lib.hid ⟨_, by rw [HST.out]; exact C5.out⟩⟩
            case measure => simp [intOf]; omega
      · have hli : ¬ (k : Int) < S.chans.length := by omega
        have hle : viewL S.chans D.lines pn = ls := by rw [← HLK.out, List.take_of_length_le (by omega), List.take_of_length_le (by omega)]
        rw [hle] at HVE
        obtain rfl := HVE.out
        have hlb3 := CP.out.lb
        clear HLK
        go_wp2_with (first | (refine wpList_load_row rfl 37 (.tmp 9) rfl w2.heap.size rfl 37 _ (0, 0) _ CP.out.r9 Tryz.underlying37 rfl sizeView ?_) | (refine wpList_store_rowW rfl 37 (.tmp 6) (.tmp 68) rfl (w.heap.size + 1 + 1) (vwC c (.slice a4 out.length c4) (.slice a3 ls.length c3)) rfl rfl 37 _ CP.out.r6 sizeView rfl (vwC_one _ _ _ rfl rfl) ?_))
        intro W9 HW9
        have r9 : Rw W9 (w.heap.size + 1 + 1) 37 (vwC c (.slice a4 out.length c4) (.slice a3 ls.length c3)) := by rw [HW9.out]; exact CP.out.r6.row _
        have HB9 := Lib.hid (show Below w.heap.size w W9 by rw [HW9.out]; exact below_row CP.out.d (by omega) _)
        have V9 := Lib.hid (show VwR w.heap.size W9 (.slice a4 out.length c4) (.slice a3 ls.length c3) ⟨⟨c, out⟩, ls⟩ by rw [HW9.out]; exact CP.out.done _)
        clear HW9
        go_wp2
        exact bodyPost_ret (results_row_tmp Tryz.results9 _ _ (w.heap.size + 1 + 1) _ _ rfl rfl (run_loadVar_row _ _ 37 _ _ (0, 0) _ r9 Tryz.underlying37 rfl sizeView)) rfl ⟨_, _, rfl, V9.out, HB9.out⟩
end Go.Proofs.YtehhhiodfcdnmaaGreatDoor

namespace Go.Proofs.YtehhhiodfcdnmaaGreatDoor
set_option linter.unusedSimpArgs false
set_option linter.unusedVariables false
open Go.RowKit Go.Sort
end Go.Proofs.YtehhhiodfcdnmaaGreatDoor

namespace Go.Proofs.YtehhhiodfcdnmaaGreatDoor
set_option linter.unusedSimpArgs false
set_option linter.unusedVariables false
open Go.RowKit Go.Sort
end Go.Proofs.YtehhhiodfcdnmaaGreatDoor

namespace Go.Proofs.YtehhhiodfcdnmaaGreatDoor
set_option linter.unusedSimpArgs false
set_option linter.unusedVariables false
open Go.RowKit Go.Sort
def runE (S : SysD) (n : Int) : Int := if chkS S ≠ 0 then chkS S else if withinB n 0 300 then 0 else 3
def runR (S : SysD) (n : Int) : WldD := if runE S n = 0 then runN S n.toNat (beginC S) else wldZ
theorem runE_zero {S : SysD} {n : Int} (h : runE S n = 0) : chkS S = 0 ∧ 0 ≤ n ∧ n ≤ 300 := by
  unfold runE at h
  split at h
  · exact absurd h (by assumption)
  · rename_i h1
    split at h
    · rename_i h2
      unfold withinB at h2
      rw [Bool.and_eq_true, decide_eq_true_eq, decide_eq_true_eq] at h2
      exact ⟨by simpa using h1, h2⟩
    · omega
structure RnS (w W : World) (g : Nat) (vp vc vs : Value) (D : WldD) : Prop where
  d : Below w.heap.size w W
  r0 : Rw W w.heap.size 26 #[vp, vc, vs]
  rb : Rw W (w.heap.size + 1) 30 #[.int .i64 0, .slice none 0 0, .slice none 0 0]
  r1 : ∃ ua uc la lc, Rw W g 30 #[.int .i64 D.tick, .slice ua D.cells.length uc, .slice la D.lines.length lc] ∧ WldF (w.heap.size + 2) W (.slice ua D.cells.length uc) (.slice la D.lines.length lc) D
  g0 : w.heap.size + 2 ≤ g
set_option maxRecDepth 100000 in
set_option maxHeartbeats 8000000 in
theorem kernRun_any (S : SysD) (n : Int) (vp vc vs : Value) (w : World) (he : Env w) (hS : Sys w vp vc vs S) (e0 : Int) (hk : runE S n = e0) (D' : WldD) (hD : runR S n = D') :
    Calls Tryz.prog 39 #[.agg #[vp, vc, vs], .int .i64 n] w fun e w' => ∃ xc xl, e = .returned (.tuple #[.agg #[.int .i64 D'.tick, xc, xl], .int .i64 e0]) ∧ WldF w.heap.size w' xc xl D' ∧ Below w.heap.size w w' := by
  obtain ⟨pa, pc, rfl⟩ := hS.p.form
  obtain ⟨ka, kc, rfl⟩ := hS.c.form
  obtain ⟨sa, sc, rfl⟩ := hS.s.form
  obtain ⟨c0, hc0⟩ : ∃ c0, chkS S = c0 := ⟨_, rfl⟩
  obtain ⟨B, hB⟩ : ∃ B, beginR S = B := ⟨_, rfl⟩
  have HC := Lib.hid fun w he hS => kernBegin_any S (.slice pa S.parts.length pc) (.slice ka S.chans.length kc) (.slice sa S.slots.length sc) w he hS c0 hc0 B hB
  have HE := Lib.hid he
  have HS := Lib.hid hS
  clear he hS
  by_cases h0 : c0 = 0
  · subst h0
    obtain rfl : beginC S = B := by rw [← hB, beginR, if_pos hc0]
    have HI := Lib.hid fun V => isRun_any n V
    have HRT := Lib.hid (begin_right hc0)
    cases hn : withinB n 0 300
    · have hw3 : runE S n = 3 := by unfold runE; rw [hc0, if_neg (by simp), hn]; rfl
      obtain rfl : e0 = 3 := by rw [← hk, hw3]
      have HD : Hid (wldZ = D') := by
        show _ = _
        rw [← hD, runR, if_neg (by rw [hw3]; decide)]
      rw [hn] at HI
      clear hk hD hw3 hc0 hn hB HRT
      go_enter Tryz.func39, Tryz.ntmps39
      go_wp2_with fail
      refine (HC.out _ (HE.out.up (by repeat (first | exact Below.refl _ _ | assumption | refine Below.drew ?_ | refine Below.alloc ?_ (by first | (simp; done) | (simp; omega)) _ | refine Below.setCell ?_ (by first | (simp; done) | (simp; omega)) _))) (HS.out.up (by repeat (first | exact Below.refl _ _ | assumption | refine Below.drew ?_ | refine Below.alloc ?_ (by first | (simp; done) | (simp; omega)) _ | refine Below.setCell ?_ (by first | (simp; done) | (simp; omega)) _)))).mono ?_
      rintro e w1 ⟨xc, xl, rfl, hN, b1⟩
      obtain ⟨a5, c5, rfl⟩ := hN.wld.c.form
      obtain ⟨a6, c6, rfl⟩ := hN.wld.l.form
      have z1 := b1.size
      simp at z1
      have RB : Hid (Rw w1 (w.heap.size + 1) 30 #[.int .i64 0, .slice none 0 0, .slice none 0 0]) := Rw.up (by repeat (first | exact Rw.new _ _ _ (by first | rfl | (simp; done) | omega | (simp; omega)) | refine Rw.alloc ?_ _)) b1 (by first | omega | (simp; done) | (simp; omega))
      have HB : Hid (Below w.heap.size w w1) := by
        refine Below.trans ?_ (b1.mono (by first | omega | (simp; done) | (simp; omega)))
        exact (by repeat (first | exact Below.refl _ _ | assumption | refine Below.drew ?_ | refine Below.alloc ?_ (by first | (simp; done) | (simp; omega)) _ | refine Below.setCell ?_ (by first | (simp; done) | (simp; omega)) _))
      clear b1 HC hN
      go_wp2_with (refine wpList_store_rowW rfl 30 (.tmp 6) (.tmp 11) rfl w1.heap.size #[.int .i64 (beginC S).tick, .slice a5 (beginC S).cells.length c5, .slice a6 (beginC S).lines.length c6] rfl rfl 30 #[.int .i64 0, .slice none 0 0, .slice none 0 0] (by repeat (first | exact Rw.new _ _ _ (by first | rfl | (simp; done) | omega | (simp; omega)) | refine Rw.alloc ?_ _)) sizeWld rfl (world_one _ _ _ _ _ _ _) ?_)
      intro W HW1
      have RB2 : Hid (Rw W (w.heap.size + 1) 30 #[.int .i64 0, .slice none 0 0, .slice none 0 0]) := by
        show Rw _ _ _ _
        rw [HW1.out]
        exact (RB.out.up ((Below.refl _ _).alloc (Nat.le_refl _) _) (by omega)).row_other _ (by omega)
      have HB2 : Hid (Below w.heap.size w W) := by
        show Below _ _ _
        rw [HW1.out]
        exact below_row (HB.out.alloc (by omega) _) (by omega) _
      clear HW1 RB HB
      go_wp2_with (first | (go_at_call 73; refine (HI.out _).mono ?_; rintro e w2 ⟨rfl, rfl⟩) | (refine wpList_store_row rfl 30 (.tmp 4) (.tmp 20) rfl (w.heap.size + 1) #[.int .i64 0, .slice none 0 0, .slice none 0 0] rfl rfl 30 #[.int .i64 0, .slice none 0 0, .slice none 0 0] RB2.out sizeWld rfl (world_one _ _ _ _ _ _ _) ?_))
      refine bodyPost_ret (results_row_tmp Tryz.results39 _ _ (w.heap.size + 1) _ _ rfl rfl (run_loadVar_row _ _ 30 _ #[.int .i64 0, .slice none 0 0, .slice none 0 0] (0, 0) _ (RB2.out.row _) Tryz.underlying30 rfl sizeWld)) rfl ⟨.slice none 0 0, .slice none 0 0, by rw [← HD.out]; rfl, by rw [← HD.out]; exact WldF.nil _ _, below_row HB2.out (by omega) _⟩
    · have hw3 : runE S n = 0 := by unfold runE; rw [hc0, if_neg (by simp), hn]; rfl
      obtain rfl : e0 = 0 := by rw [← hk, hw3]
      have HD : Hid (runN S n.toNat (beginC S) = D') := by
        show _ = _
        rw [← hD, runR, if_pos hw3]
      obtain ⟨-, hn0, hn1⟩ := runE_zero hw3
      obtain ⟨m, rfl⟩ := Int.eq_ofNat_of_zero_le hn0
      rw [hn] at HI
      have HNX := Lib.hid fun D uc ul w he hS hW hR ht => next_any S D (.slice pa S.parts.length pc) (.slice ka S.chans.length kc) (.slice sa S.slots.length sc) uc ul w he hS hW hc0 (Right.t0 (S := S) hR) ht (Right.c hR) (Right.l hR)
      have HKS := Lib.hid hc0
      clear hk hD hw3 hc0 hn hB
      go_enter Tryz.func39, Tryz.ntmps39
      go_wp2_with fail
      refine (HC.out _ (HE.out.up (by repeat (first | exact Below.refl _ _ | assumption | refine Below.drew ?_ | refine Below.alloc ?_ (by first | (simp; done) | (simp; omega)) _ | refine Below.setCell ?_ (by first | (simp; done) | (simp; omega)) _))) (HS.out.up (by repeat (first | exact Below.refl _ _ | assumption | refine Below.drew ?_ | refine Below.alloc ?_ (by first | (simp; done) | (simp; omega)) _ | refine Below.setCell ?_ (by first | (simp; done) | (simp; omega)) _)))).mono ?_
      rintro e w1 ⟨xc, xl, rfl, hN, b1⟩
      obtain ⟨a5, c5, rfl⟩ := hN.wld.c.form
      obtain ⟨a6, c6, rfl⟩ := hN.wld.l.form
      have z1 := b1.size
      simp at z1
      have R0 : Hid (Rw w1 w.heap.size 26 #[.slice pa S.parts.length pc, .slice ka S.chans.length kc, .slice sa S.slots.length sc]) := Rw.up (by repeat (first | exact Rw.new _ _ _ (by first | rfl | (simp; done) | omega | (simp; omega)) | refine Rw.alloc ?_ _)) b1 (by first | omega | (simp; done) | (simp; omega))
      have RB : Hid (Rw w1 (w.heap.size + 1) 30 #[.int .i64 0, .slice none 0 0, .slice none 0 0]) := Rw.up (by repeat (first | exact Rw.new _ _ _ (by first | rfl | (simp; done) | omega | (simp; omega)) | refine Rw.alloc ?_ _)) b1 (by first | omega | (simp; done) | (simp; omega))
      have HB : Hid (Below w.heap.size w w1) := by
        refine Below.trans ?_ (b1.mono (by first | omega | (simp; done) | (simp; omega)))
        exact (by repeat (first | exact Below.refl _ _ | assumption | refine Below.drew ?_ | refine Below.alloc ?_ (by first | (simp; done) | (simp; omega)) _ | refine Below.setCell ?_ (by first | (simp; done) | (simp; omega)) _))
      have HN := Lib.hid (hN.low (B' := w.heap.size + 2) (by simp))
      clear b1 HC hN
      go_wp2_with (refine wpList_store_rowW rfl 30 (.tmp 6) (.tmp 11) rfl w1.heap.size #[.int .i64 (beginC S).tick, .slice a5 (beginC S).cells.length c5, .slice a6 (beginC S).lines.length c6] rfl rfl 30 #[.int .i64 0, .slice none 0 0, .slice none 0 0] (by repeat (first | exact Rw.new _ _ _ (by first | rfl | (simp; done) | omega | (simp; omega)) | refine Rw.alloc ?_ _)) sizeWld rfl (world_one _ _ _ _ _ _ _) ?_)
      intro W HW1
      have hRn : RnS w W w1.heap.size (.slice pa S.parts.length pc) (.slice ka S.chans.length kc) (.slice sa S.slots.length sc) (beginC S) := by
        rw [HW1.out]
        have hb0 : Below w1.heap.size w1 (w1.alloc (.cells #[.int .i64 0, .slice none 0 0, .slice none 0 0] 30)) := (Below.refl _ _).alloc (Nat.le_refl _) _
        refine ⟨below_row (HB.out.alloc (by omega) _) (by omega) _, (R0.out.up hb0 (by omega)).row_other _ (by omega), (RB.out.up hb0 (by omega)).row_other _ (by omega), ⟨a5, c5, a6, c6, Rw.row (cs := #[.int .i64 0, .slice none 0 0, .slice none 0 0]) (by repeat (first | exact Rw.new _ _ _ (by first | rfl | (simp; done) | omega | (simp; omega)) | refine Rw.alloc ?_ _)) _, HN.out.fresh _ _⟩, by omega⟩
      have RN := Lib.hid hRn
      clear HW1 RB HB R0 hRn HN
      go_wp2_with (go_at_call 73; refine (HI.out _).mono ?_; rintro e w2 ⟨rfl, rfl⟩)
      go_loopw [22] (fun i wr => ∃ k : Nat, i = .int .i64 k ∧ k ≤ m ∧ Hid (RnS w wr w1.heap.size (.slice pa S.parts.length pc) (.slice ka S.chans.length kc) (.slice sa S.slots.length sc) (runN S k (beginC S)))) (fun i _ => m - (intOf i).toNat)
      case atStart => exact ⟨0, rfl, Nat.zero_le _, RN⟩
      case round =>
        obtain ⟨k, rfl, hk, HR⟩ := hrel
        have hR := HR.out
        clear HR RN
        by_cases hlt : k < m
        · have hli : (k : Int) < m := by omega
          obtain ⟨hrt, htk⟩ := runN_right HKS.out k HRT.out (by show (0 : Int) + k ≤ 300; omega)
          have hnr := (next_right HKS.out hrt (by rw [htk]; show (0 : Int) + k < 300; omega)).2
          have hrn := runN_last S k (beginC S)
          have ht : (runN S k (beginC S)).tick < 300 := by rw [htk]; show (0 : Int) + k < 300; omega
          generalize runN S k (beginC S) = D at hR hrt hnr hrn ht
          obtain ⟨ua, uc, la, lc, r1, hwf⟩ := hR.r1
          have q0 := r1.cell (j := 0) (v := .int .i64 D.tick) rfl
          have q1 := r1.cell (j := 1) (v := .slice ua D.cells.length uc) rfl
          have q2 := r1.cell (j := 2) (v := .slice la D.lines.length lc) rfl
          have s0 := hR.r0.cell (j := 0) (v := .slice pa S.parts.length pc) rfl
          have s1 := hR.r0.cell (j := 1) (v := .slice ka S.chans.length kc) rfl
          have s2 := hR.r0.cell (j := 2) (v := .slice sa S.slots.length sc) rfl
          have HR := Lib.hid hR
          have HWF := Lib.hid hwf
          have R1 := Lib.hid r1
          have HRT2 := Lib.hid hrt
          have HNR := Lib.hid hnr
          have HRN := Lib.hid hrn
          clear hR hwf r1 hrt hnr hrn htk
          go_wp2_with fail
          refine (HNX.out D _ _ _ (HE.out.up HR.out.d) (HS.out.up HR.out.d) HWF.out.wld HRT2.out ht).mono ?_
          rintro e w3 ⟨xc, xl, rfl, hN, b3⟩
          obtain ⟨a7, c7, rfl⟩ := hN.wld.c.form
          obtain ⟨a8, c8, rfl⟩ := hN.wld.l.form
          have HN := Lib.hid hN
          have B3 := Lib.hid b3
          clear b3 hN q0 q1 q2 s0 s1 s2
          go_wp2_with (refine wpList_store_rowW rfl 30 (.tmp 6) (.tmp 26) rfl w1.heap.size #[.int .i64 (D.tick + 1), .slice a7 (nextC S D).cells.length c7, .slice a8 (nextC S D).lines.length c8] rfl rfl 30 _ (R1.out.up B3.out R1.out.lt) sizeWld rfl (world_one _ _ _ _ _ _ _) ?_)
          intro W4 HW4
          have RN4 : Hid (RnS w W4 w1.heap.size (.slice pa S.parts.length pc) (.slice ka S.chans.length kc) (.slice sa S.slots.length sc) (nextC S D)) := by
            show RnS _ _ _ _ _ _ _
            rw [HW4.out]
            have hg := HR.out.g0
            have hl1 := R1.out.lt
            have hsz := HR.out.d.size
            refine ⟨below_row (HR.out.d.trans (B3.out.mono hsz)) (by omega) _, (HR.out.r0.up B3.out HR.out.r0.lt).row_other _ (by omega), (HR.out.rb.up B3.out HR.out.rb.lt).row_other _ (by omega), ⟨a7, c7, a8, c8, ?_, (HN.out.row (by omega) _).low (by omega)⟩, hg⟩
            rw [HNR.out]
            exact (R1.out.up B3.out R1.out.lt).row _
          clear HW4 HN B3 HR HWF R1 HRT2 HNR
          go_wp2
          go_roundw
          case rel => exact ⟨k + 1, by go_num, by omega, by rw [HRN.out]; exact RN4⟩
          case measure => simp [intOf]; omega
        · obtain rfl : k = m := by omega
          have hli : ¬ (k : Int) < k := by omega
          obtain ⟨hrt, htk⟩ := runN_right HKS.out k HRT.out (by show (0 : Int) + k ≤ 300; omega)
          have HDD := Lib.hid (show runN S k (beginC S) = D' by rw [← HD.out, Int.toNat_natCast])
          rw [HDD.out] at hR
          obtain ⟨ua, uc, la, lc, r1, hwf⟩ := hR.r1
          have HR := Lib.hid hR
          have HWF := Lib.hid hwf
          have R1 := Lib.hid r1
          have hsz := hR.d.size
          have hlb := hR.rb.lt
          clear hR hwf r1 hrt htk HDD HD
          go_wp2_with (first | (refine wpList_load_row rfl 30 (.tmp 6) rfl w1.heap.size rfl 30 _ (0, 0) _ R1.out Tryz.underlying30 rfl sizeWld ?_) | (refine wpList_store_row rfl 30 (.tmp 4) (.tmp 28) rfl (w.heap.size + 1) #[.int .i64 D'.tick, .slice ua D'.cells.length uc, .slice la D'.lines.length lc] rfl rfl 30 _ HR.out.rb sizeWld rfl (world_one _ _ _ _ _ _ _) ?_))
          refine bodyPost_ret (results_row_tmp Tryz.results39 _ _ (w.heap.size + 1) _ _ rfl rfl (run_loadVar_row _ _ 30 _ #[.int .i64 D'.tick, .slice ua D'.cells.length uc, .slice la D'.lines.length lc] (0, 0) _ (HR.out.rb.row _) Tryz.underlying30 rfl sizeWld)) rfl ⟨_, _, rfl, (HWF.out.row (by omega) _).low (by omega), below_row HR.out.d (by omega) _⟩
  · have h0' : (c0 != 0) = true := by simpa using h0
    have hw3 : runE S n = c0 := by unfold runE; rw [hc0, if_pos h0]
    obtain rfl : e0 = c0 := by rw [← hk, hw3]
    have HD : Hid (wldZ = D') := by
      show _ = _
      rw [← hD, runR, if_neg (by rw [hw3]; exact h0)]
    clear hk hD hw3 hc0 h0 hB
    go_enter Tryz.func39, Tryz.ntmps39
    go_wp2_with fail
    refine (HC.out _ (HE.out.up (by repeat (first | exact Below.refl _ _ | assumption | refine Below.drew ?_ | refine Below.alloc ?_ (by first | (simp; done) | (simp; omega)) _ | refine Below.setCell ?_ (by first | (simp; done) | (simp; omega)) _))) (HS.out.up (by repeat (first | exact Below.refl _ _ | assumption | refine Below.drew ?_ | refine Below.alloc ?_ (by first | (simp; done) | (simp; omega)) _ | refine Below.setCell ?_ (by first | (simp; done) | (simp; omega)) _)))).mono ?_
    rintro e w1 ⟨xc, xl, rfl, hN, b1⟩
    obtain ⟨a5, c5, rfl⟩ := hN.wld.c.form
    obtain ⟨a6, c6, rfl⟩ := hN.wld.l.form
    have z1 := b1.size
    simp at z1
    have RB : Hid (Rw w1 (w.heap.size + 1) 30 #[.int .i64 0, .slice none 0 0, .slice none 0 0]) := Rw.up (by repeat (first | exact Rw.new _ _ _ (by first | rfl | (simp; done) | omega | (simp; omega)) | refine Rw.alloc ?_ _)) b1 (by first | omega | (simp; done) | (simp; omega))
    have HB : Hid (Below w.heap.size w w1) := by
      refine Below.trans ?_ (b1.mono (by first | omega | (simp; done) | (simp; omega)))
      exact (by repeat (first | exact Below.refl _ _ | assumption | refine Below.drew ?_ | refine Below.alloc ?_ (by first | (simp; done) | (simp; omega)) _ | refine Below.setCell ?_ (by first | (simp; done) | (simp; omega)) _))
    clear b1 HC hN
    go_wp2_with (refine wpList_store_rowW rfl 30 (.tmp 6) (.tmp 11) rfl w1.heap.size #[.int .i64 B.tick, .slice a5 B.cells.length c5, .slice a6 B.lines.length c6] rfl rfl 30 #[.int .i64 0, .slice none 0 0, .slice none 0 0] (by repeat (first | exact Rw.new _ _ _ (by first | rfl | (simp; done) | omega | (simp; omega)) | refine Rw.alloc ?_ _)) sizeWld rfl (world_one _ _ _ _ _ _ _) ?_)
    intro W HW1
    have RB2 : Hid (Rw W (w.heap.size + 1) 30 #[.int .i64 0, .slice none 0 0, .slice none 0 0]) := by
      show Rw _ _ _ _
      rw [HW1.out]
      exact (RB.out.up ((Below.refl _ _).alloc (Nat.le_refl _) _) (by omega)).row_other _ (by omega)
    have HB2 : Hid (Below w.heap.size w W) := by
      show Below _ _ _
      rw [HW1.out]
      exact below_row (HB.out.alloc (by omega) _) (by omega) _
    clear HW1 RB HB
    go_wp2_with (refine wpList_store_row rfl 30 (.tmp 4) (.tmp 15) rfl (w.heap.size + 1) #[.int .i64 0, .slice none 0 0, .slice none 0 0] rfl rfl 30 #[.int .i64 0, .slice none 0 0, .slice none 0 0] RB2.out sizeWld rfl (world_one _ _ _ _ _ _ _) ?_)
    refine bodyPost_ret (results_row_tmp Tryz.results39 _ _ (w.heap.size + 1) _ _ rfl rfl (run_loadVar_row _ _ 30 _ #[.int .i64 0, .slice none 0 0, .slice none 0 0] (0, 0) _ (RB2.out.row _) Tryz.underlying30 rfl sizeWld)) rfl ⟨.slice none 0 0, .slice none 0 0, by rw [← HD.out]; rfl, by rw [← HD.out]; exact WldF.nil _ _, below_row HB2.out (by omega) _⟩
end Go.Proofs.YtehhhiodfcdnmaaGreatDoor

namespace Go.Proofs.YtehhhiodfcdnmaaGreatDoor
set_option linter.unusedSimpArgs false
set_option linter.unusedVariables false
open Go.RowKit Go.Sort
end Go.Proofs.YtehhhiodfcdnmaaGreatDoor

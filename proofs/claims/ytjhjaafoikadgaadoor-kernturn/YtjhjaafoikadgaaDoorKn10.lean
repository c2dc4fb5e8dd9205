/- kern.Begin and the document's. -/
import Derived.Test.YtjhjaafoikadgaaDoorKn9
import Derived.Test.YtjhjaafoikadgaaDoorSc4
namespace Go.Proofs.YtjhjaafoikadgaaDoor
set_option linter.unusedSimpArgs false
set_option linter.unusedVariables false
open Go.RowKit Go.Sort

theorem wp_make {P : Program} {o : Oper} {a : Act} {w : World} {K : Act → World → Prop} {Q : Exit → Act → World → Prop} (l c : Operand) (t : TypeId) (ho : o.op = .makeSlice t l c)
    (e : TypeId) (i : TypeInfo) (z : Value) (size bytes : Nat) (h1 : P.underlying t = some (.slice e)) (h2 : P.info? e = some i) (h3 : i.zero = some z) (h4 : i.size = size) (h5 : i.bytes = bytes)
    (n : Nat) (hl : a.eval l = .int .i64 n) (hc : a.eval c = .int .i64 n) (b2 : bytes * n ≤ 281474976710656) (b3 : n ≤ 9223372036854775807)
    (h : K (a.put o.dst (.slice (some ⟨w.heap.size, 0, none⟩) n n)) (w.alloc (.cells (madeCells z.cells (n * size)) e))) : o.wp P a w K Q := by
  subst h4 h5
  have hb' : (i.bytes : Int) * (n : Int) ≤ 281474976710656 := by
    have h : ((i.bytes * n : Nat) : Int) ≤ 281474976710656 := by omega
    rwa [Int.natCast_mul] at h
  have hrun := run_make (P := P) w t e i z h1 h2 h3 .i64 .i64 n n (by omega) (Int.le_refl _) hb' (by omega)
  simp only [Int.toNat_natCast] at hrun
  unfold Oper.wp
  simp [execOp, ho, hl, hc, hrun, Result.andThen]
  exact h
theorem made_at (z : Array Value) (hz : 0 < z.size) (n k j : Nat) (hk : k < n) (hj : j < z.size) : (madeCells z (n * z.size)).toList[k * z.size + j]? = z[j]? := by
  have h1 : k * z.size + j < n * z.size := by
    have : (k + 1) * z.size ≤ n * z.size := Nat.mul_le_mul_right _ hk
    rw [Nat.add_mul] at this
    omega
  rw [Array.getElem?_toList]
  unfold madeCells
  rw [Array.getElem?_map, Array.getElem?_range, if_pos h1]
  simp [Nat.mod_eq_of_lt hj, hj]
theorem made_cells (n : Nat) : (madeCells (celZ.cs (.slice none 0 0)) (n * 16)).toList = rowC celC (List.replicate n (celZ, .slice none 0 0)) := by
  apply List.ext_getElem?
  intro j
  by_cases hj : j < n * 16
  · have hk : j / 16 < n := by omega
    have hr : j % 16 < 16 := by omega
    have hjk : j = j / 16 * 16 + j % 16 := by omega
    rw [hjk, rowC_at celC_len _ (j / 16) (j % 16) (by simpa using hk) hr]
    refine (made_at (celZ.cs (.slice none 0 0)) (by decide) n (j / 16) (j % 16) hk hr).trans ?_
    rw [List.getElem_replicate, celC, Array.getElem?_toList]
  · rw [List.getElem?_eq_none (by simp [size_madeCells]; omega), List.getElem?_eq_none (by rw [rowC_len celC_len]; simp; omega)]
theorem cells_made (w : World) (n g : Nat) (hg : g = w.heap.size) : CellsR (w.alloc (.cells (madeCells (celZ.cs (.slice none 0 0)) (n * 16)) 54)) (.slice (some ⟨g, 0, none⟩) n n) (List.replicate n celD0) := by
  refine ⟨List.replicate n (celZ, .slice none 0 0), by simp, ?_, fun k hk hk' => ?_⟩
  · rw [List.length_replicate, ← made_cells]
    exact lit_sl w (madeCells (celZ.cs (.slice none 0 0)) (n * 16)).toList _ g n 16 hg (by simp [size_madeCells])
  · simp only [List.getElem_replicate]
    exact ⟨rfl, Sl.nil _ _⟩
theorem lines_made (w : World) (n g : Nat) (hg : g = w.heap.size) : LinesR (w.alloc (.cells (madeCells #[.slice none 0 0] (n * 1)) 59)) (.slice (some ⟨g, 0, none⟩) n n) (List.replicate n []) := by
  refine ⟨List.replicate n (.slice none 0 0), by simp, ?_, fun k hk hk' => ?_⟩
  · rw [List.length_replicate, Nat.mul_one, ← toList_madeCells_one]
    exact lit_sl w (madeCells #[.slice none 0 0] n).toList _ g n 1 hg (by simp [size_madeCells])
  · simp only [List.getElem_replicate]
    exact Sl.nil _ _
/-- On the way: the cells, the lines made. -/
structure Bg (X W : World) (oc ol : Option Value) (n m : Nat) : Prop where
  d : Below X.heap.size X W
  c : ∀ v, oc = some v → ∃ ps : List (Cel × Value), ps = List.replicate n (celZ, .slice none 0 0) ∧ Sl W 16 v n (rowC celC ps) ∧ ∀ b, v.ownBlock = some b → X.heap.size ≤ b ∧ b < W.heap.size ∧ ∃ cur, Rw W b 54 cur
  l : ∀ v, ol = some v → Sl W 1 v m (List.replicate m (.slice none 0 0)) ∧ ∀ b, v.ownBlock = some b → X.heap.size ≤ b ∧ b < W.heap.size
  ne : ∀ v u, oc = some v → ol = some u → ∀ b, u.ownBlock = some b → v.ownBlock ≠ some b
theorem Bg.begin (X : World) (n m : Nat) : Bg X X.drew none none n m := ⟨(Below.refl _ _).drew, by simp, by simp, by simp⟩
theorem Bg.cells {X W : World} {ol : Option Value} {n m : Nat} (h : Bg X W none ol n m) : Bg X (W.alloc (.cells (madeCells (celZ.cs (.slice none 0 0)) (n * 16)) 54)) (some (.slice (some ⟨W.heap.size, 0, none⟩) n n)) ol n m :=
  ⟨h.d.alloc h.d.size _, fun v q => by
    injection q with q
    subst q
    refine ⟨_, rfl, ?_, fun b e => by simp [Value.ownBlock] at e; have := h.d.size; exact ⟨by omega, by simp; omega, _, Rw.new _ _ _ e.symm⟩⟩
    rw [← made_cells]
    exact lit_sl W (madeCells (celZ.cs (.slice none 0 0)) (n * 16)).toList _ _ n 16 rfl (by simp [size_madeCells]), fun v q => ⟨(h.l v q).1.up1 _, fun b e => ⟨((h.l v q).2 b e).1, by have := ((h.l v q).2 b e).2; simp; omega⟩⟩, fun v u q q' b e => by
    injection q with q
    subst q
    have := ((h.l u q').2 b e).2
    simp [Value.ownBlock]
    omega⟩
theorem Bg.lines {X W : World} {oc : Option Value} {n m : Nat} (h : Bg X W oc none n m) : Bg X (W.alloc (.cells (madeCells #[.slice none 0 0] (m * 1)) 59)) oc (some (.slice (some ⟨W.heap.size, 0, none⟩) m m)) n m :=
  ⟨h.d.alloc h.d.size _, fun v q => by
    obtain ⟨ps, e, h2, h3⟩ := h.c v q
    exact ⟨ps, e, h2.up1 _, fun b e => ⟨(h3 b e).1, by have := (h3 b e).2.1; simp; omega, let ⟨c, hc⟩ := (h3 b e).2.2; ⟨c, hc.alloc _⟩⟩⟩, fun v q => by
    injection q with q
    subst q
    refine ⟨?_, fun b e => by simp [Value.ownBlock] at e; have := h.d.size; simp; omega⟩
    rw [Nat.mul_one, ← toList_madeCells_one]
    exact lit_sl W (madeCells #[.slice none 0 0] m).toList _ _ m 1 rfl (by simp [size_madeCells]), fun v u q q' b e e' => by
    injection q' with q'
    subst q'
    obtain ⟨ps, _, _, h3⟩ := h.c v q
    have := (h3 b e').2.1
    simp [Value.ownBlock] at e
    omega⟩
/-- Both made, and stored into a row that was there. -/
theorem Bg.done {X W : World} {vc vl : Value} {S : SysD} (h : Bg X W (some vc) (some vl) S.parts.length S.chans.length) {g B : Nat} (hg : g < X.heap.size) (hB : B ≤ X.heap.size) (cs : Array Value) : WldF B (W.setRow g cs) vc vl (beginC S) := by
  obtain ⟨ps, e, h2, h3⟩ := h.c vc rfl
  obtain ⟨h4, h5⟩ := h.l vl rfl
  subst e
  refine ⟨⟨List.replicate S.parts.length (celZ, .slice none 0 0), by simp [beginC], ?_, fun k hk hk' => ?_⟩, ⟨List.replicate S.chans.length (.slice none 0 0), by simp [beginC], ?_, fun k hk hk' => ?_⟩, fun b e => Nat.le_trans hB (h3 b e).1, fun b e => ⟨Nat.le_trans hB (h5 b e).1, h.ne vc vl rfl rfl b e⟩, fun b e => let ⟨c, hc⟩ := (h3 b e).2.2; ⟨c, hc.row_other _ (by have := (h3 b e).1; omega)⟩⟩
  · simp only [beginC, List.length_replicate]
    exact h2.row cs (fun e => by have := (h3 g e).1; omega)
  · simp only [beginC, List.getElem_replicate]
    exact ⟨rfl, Sl.nil _ _, fun b e => by cases e⟩
  · simp only [beginC, List.length_replicate]
    exact h4.row cs (fun e => by have := (h5 g e).1; omega)
  · simp only [beginC, List.getElem_replicate]
    exact ⟨Sl.nil _ _, fun b e => by cases e⟩
theorem sl_fresh {w : World} {size : Nat} {v : Value} {n : Nat} {xs : List Value} (h : Sl w size v n xs) (o : Obj) (u : Array Value) : Sl ((w.alloc o).setRow w.heap.size u) size v n xs :=
  sl_row0K (h.up1 o) fun hn e => by
    obtain ⟨b, off, cap, rfl, _, hb, _⟩ := h.open hn
    simp [Value.ownBlock] at e
    omega
/-- A world, and a store into a block that was made behind it. -/
theorem WldF.fresh {B : Nat} {w : World} {vc vl : Value} {D : WldD} (h : WldF B w vc vl D) (o : Obj) (u : Array Value) : WldF B ((w.alloc o).setRow w.heap.size u) vc vl D := by
  obtain ⟨⟨ps, p1, p2, p3⟩, ⟨vs, q1, q2, q3⟩, bc, bl, fz⟩ := h
  exact ⟨⟨ps, p1, sl_fresh p2 o u, fun k hk hk' => ⟨(p3 k hk hk').1, sl_fresh (p3 k hk hk').2.1 o u, (p3 k hk hk').2.2⟩⟩, ⟨vs, q1, sl_fresh q2 o u, fun k hk hk' => ⟨sl_fresh (q3 k hk hk').1 o u, (q3 k hk hk').2⟩⟩, bc, bl, fun g e => let ⟨c, hc⟩ := fz g e; ⟨c, (hc.alloc o).row_other _ (by have := hc.lt; omega)⟩⟩
def wldZ : WldD := ⟨0, [], []⟩
theorem WldF.nil (B : Nat) (w : World) : WldF B w (.slice none 0 0) (.slice none 0 0) wldZ := ⟨⟨[], rfl, Sl.nil _ _, fun k hk => by simp [wldZ] at hk⟩, ⟨[], rfl, Sl.nil _ _, fun k hk => by simp [wldZ] at hk⟩, fun b e => (by cases e), fun b e => (by cases e), fun b e => (by cases e)⟩
theorem world_one (t : Int) (a : Option Addr) (n c : Nat) (a' : Option Addr) (n' c' : Nat) : (#[.int .i64 t, .slice a n c, .slice a' n' c'] : Array Value).all (·.oneCell') = true := by simp [Value.oneCell']
theorem countsS {S : SysD} (h : chkS S = 0) : S.parts.length ≤ 4 ∧ S.chans.length ≤ 6 := by
  unfold chkS at h
  cases hb : countsB S with
  | false => rw [hb] at h; simp at h
  | true => simp [countsB] at hb; omega
/-- What Begin makes. -/
def beginR (S : SysD) : WldD := if chkS S = 0 then beginC S else wldZ
set_option maxRecDepth 100000 in
set_option maxHeartbeats 8000000 in
theorem kernBegin_any (S : SysD) (vp vc vs : Value) (w : World) (he : Env w) (hS : Sys w vp vc vs S) (e0 : Int) (hk : chkS S = e0) (D : WldD) (hD : beginR S = D) :
    Calls Tryd.prog 9 #[.agg #[vp, vc, vs]] w fun e w' => ∃ uc ul, e = .returned (.tuple #[.agg #[.int .i64 D.tick, uc, ul], .int .i64 e0]) ∧ WldF w.heap.size w' uc ul D ∧ Below w.heap.size w w' := by
  obtain ⟨i1, hi1, hy0, hy1, hy2⟩ := info_parts infoCell
  obtain ⟨i2, hi2, hx0, hx1, hx2⟩ := info_parts infoLine
  obtain ⟨pa, pc, rfl⟩ := hS.p.form
  obtain ⟨ka, kc, rfl⟩ := hS.c.form
  obtain ⟨sa, sc, rfl⟩ := hS.s.form
  have HC := Lib.hid fun w he hS => confCheck_any S (.slice pa S.parts.length pc) (.slice ka S.chans.length kc) (.slice sa S.slots.length sc) w he hS
  rw [hk] at HC
  have HE := Lib.hid he
  have HS := Lib.hid hS
  clear he hS
  by_cases h0 : e0 = 0
  · subst h0
    obtain ⟨hcl1, hcl2⟩ := countsS hk
    have HD : Hid (beginC S = D) := by
      show _ = _
      rw [← hD, beginR, if_pos hk]
    clear hk hD
    go_enter Tryd.func9, Tryd.ntmps9
    go_wp2_with fail
    refine (HC.out _ (HE.out.up (by repeat (first | exact Below.refl _ _ | assumption | refine Below.drew ?_ | refine Below.alloc ?_ (by first | (simp; done) | (simp; omega)) _ | refine Below.setCell ?_ (by first | (simp; done) | (simp; omega)) _))) (HS.out.up (by repeat (first | exact Below.refl _ _ | assumption | refine Below.drew ?_ | refine Below.alloc ?_ (by first | (simp; done) | (simp; omega)) _ | refine Below.setCell ?_ (by first | (simp; done) | (simp; omega)) _)))).mono ?_
    rintro e w1 ⟨rfl, b1⟩
    have z1 := b1.size
    simp at z1
    have RA : Hid (Rw w1 w.heap.size 26 #[.slice pa S.parts.length pc, .slice ka S.chans.length kc, .slice sa S.slots.length sc]) := Rw.up (by repeat (first | exact Rw.new _ _ _ (by first | rfl | (simp; done) | omega | (simp; omega)) | refine Rw.alloc ?_ _)) b1 (by first | omega | (simp; done) | (simp; omega))
    have RB : Hid (Rw w1 (w.heap.size + 1) 30 #[.int .i64 0, .slice none 0 0, .slice none 0 0]) := Rw.up (by repeat (first | exact Rw.new _ _ _ (by first | rfl | (simp; done) | omega | (simp; omega)) | refine Rw.alloc ?_ _)) b1 (by first | omega | (simp; done) | (simp; omega))
    have HB : Hid (Below w.heap.size w w1) := by
      refine Below.trans ?_ (b1.mono (by first | omega | (simp; done) | (simp; omega)))
      exact (by repeat (first | exact Below.refl _ _ | assumption | refine Below.drew ?_ | refine Below.alloc ?_ (by first | (simp; done) | (simp; omega)) _ | refine Below.setCell ?_ (by first | (simp; done) | (simp; omega)) _))
    clear b1 HC
    go_wp2
    refine region_still (S := fun w' => Rw w' w.heap.size 26 #[.slice pa S.parts.length pc, .slice ka S.chans.length kc, .slice sa S.slots.length sc]) 10 (by kernel_rfl) RA.out.drew (fun hHeld => ?_)
    refine Still.takeBy (i := 0) [] (v := ?v1) (by kernel_rfl) (by kernel_rfl) rfl (by kernel_rfl) (by kernel_rfl) (by kernel_rfl) (fun _ _ _ h => h) (Or.inl ⟨by rfl, ?y1⟩) hHeld ?r1
    case y1 => (intro w' hSw; (try dsimp only at hSw); have q0 := hSw.cell (j := 0) (v := .slice pa S.parts.length pc) rfl; have q1 := hSw.cell (j := 1) (v := .slice ka S.chans.length kc) rfl; clear hSw; go_simp; try with_reducible rfl)
    simp only [Act.put, List.getElem_toArray, List.getElem_cons_zero, List.getElem_cons_succ, List.setIfInBounds_toArray, List.set_cons_zero, List.set_cons_succ]
    refine Still.takeBy (i := 1) [] (v := ?v2) (by kernel_rfl) (by kernel_rfl) rfl (by kernel_rfl) (by kernel_rfl) (by kernel_rfl) (fun _ _ _ h => h) (Or.inl ⟨by rfl, ?y2⟩) hHeld ?r2
    case y2 => (intro w' hSw; (try dsimp only at hSw); have q0 := hSw.cell (j := 0) (v := .slice pa S.parts.length pc) rfl; have q1 := hSw.cell (j := 1) (v := .slice ka S.chans.length kc) rfl; clear hSw; go_simp; try with_reducible rfl)
    simp only [Act.put, List.getElem_toArray, List.getElem_cons_zero, List.getElem_cons_succ, List.setIfInBounds_toArray, List.set_cons_zero, List.set_cons_succ]
    refine Still.takeBy (i := 2) [] (v := ?v3) (by kernel_rfl) (by kernel_rfl) rfl (by kernel_rfl) (by kernel_rfl) (by kernel_rfl) (fun _ _ _ h => h) (Or.inl ⟨by rfl, ?y3⟩) hHeld ?r3
    case y3 => (intro w' hSw; (try dsimp only at hSw); have q0 := hSw.cell (j := 0) (v := .slice pa S.parts.length pc) rfl; have q1 := hSw.cell (j := 1) (v := .slice ka S.chans.length kc) rfl; clear hSw; go_simp; try with_reducible rfl)
    simp only [Act.put, List.getElem_toArray, List.getElem_cons_zero, List.getElem_cons_succ, List.setIfInBounds_toArray, List.set_cons_zero, List.set_cons_succ]
    refine Still.takeBy (i := 4) [] (v := ?v4) (by kernel_rfl) (by kernel_rfl) rfl (by kernel_rfl) (by kernel_rfl) (by kernel_rfl) (fun _ _ _ h => h) (Or.inl ⟨by rfl, ?y4⟩) hHeld ?r4
    case y4 => (intro w' hSw; (try dsimp only at hSw); have q0 := hSw.cell (j := 0) (v := .slice pa S.parts.length pc) rfl; have q1 := hSw.cell (j := 1) (v := .slice ka S.chans.length kc) rfl; clear hSw; go_simp; try with_reducible rfl)
    simp only [Act.put, List.getElem_toArray, List.getElem_cons_zero, List.getElem_cons_succ, List.setIfInBounds_toArray, List.set_cons_zero, List.set_cons_succ]
    refine Still.takeBy (i := 5) [] (v := ?v5) (by kernel_rfl) (by kernel_rfl) rfl (by kernel_rfl) (by kernel_rfl) (by kernel_rfl) (fun _ _ _ h => h) (Or.inl ⟨by rfl, ?y5⟩) hHeld ?r5
    case y5 => (intro w' hSw; (try dsimp only at hSw); have q0 := hSw.cell (j := 0) (v := .slice pa S.parts.length pc) rfl; have q1 := hSw.cell (j := 1) (v := .slice ka S.chans.length kc) rfl; clear hSw; go_simp; try with_reducible rfl)
    simp only [Act.put, List.getElem_toArray, List.getElem_cons_zero, List.getElem_cons_succ, List.setIfInBounds_toArray, List.set_cons_zero, List.set_cons_succ]
    refine Still.takeBy (i := 6) [] (v := ?v6) (by kernel_rfl) (by kernel_rfl) rfl (by kernel_rfl) (by kernel_rfl) (by kernel_rfl) (fun _ _ _ h => h) (Or.inl ⟨by rfl, ?y6⟩) hHeld ?r6
    case y6 => (intro w' hSw; (try dsimp only at hSw); have q0 := hSw.cell (j := 0) (v := .slice pa S.parts.length pc) rfl; have q1 := hSw.cell (j := 1) (v := .slice ka S.chans.length kc) rfl; clear hSw; go_simp; try with_reducible rfl)
    simp only [Act.put, List.getElem_toArray, List.getElem_cons_zero, List.getElem_cons_succ, List.setIfInBounds_toArray, List.set_cons_zero, List.set_cons_succ]
    have M0 := Lib.hid (Bg.begin w1 S.parts.length S.chans.length)
    generalize World.drew _ = Y0 at M0 hHeld ⊢
    refine Still.all (rs := [3, 7]) (by kernel_rfl) (by simp) (Still.one (i := 3) rfl rfl (fun K hK => ?_) (Still.one (i := 7) rfl rfl (fun K hK => ?_) (by simp)))
    · refine wp_make _ _ 27 rfl 54 i1 _ 16 144 Tryd.underlying27 hi1 hy0 hy1 hy2 S.parts.length (by first | rfl | simp [Act.eval, Act.put]) (by first | rfl | simp [Act.eval, Act.put]) (by omega) (by omega) ?_
      have m := M0.out.cells
      rw [show Value.cells (.agg (celZ.cs (.slice none 0 0))) = celZ.cs (.slice none 0 0) from rfl]
      refine hK _ _ (fun _ => Rw.up (B := Y0.heap.size) hHeld ((Below.refl _ _).alloc (Nat.le_refl _) _) (Rw.lt hHeld)) (fun hh => ?_)
      have hHeld := hh (by decide)
      clear hK K hh
      try simp only [Act.put, List.getElem_toArray, List.getElem_cons_zero, List.getElem_cons_succ, List.setIfInBounds_toArray, List.set_cons_zero, List.set_cons_succ]
      generalize World.alloc _ _ = Y1 at m hHeld ⊢
      have M1 := Lib.hid m
      clear m M0
      refine Still.all (rs := [7]) (by kernel_rfl) (by simp) (Still.one (i := 7) rfl rfl (fun K hK => ?_) (by simp))
      refine wp_make _ _ 28 rfl 59 i2 _ 1 24 Tryd.underlying28 hi2 hx0 hx1 hx2 S.chans.length (by first | rfl | simp [Act.eval, Act.put]) (by first | rfl | simp [Act.eval, Act.put]) (by omega) (by omega) ?_
      have m := M1.out.lines
      rw [show Value.cells (.agg #[.slice none 0 0]) = #[.slice none 0 0] from rfl]
      refine hK _ _ (fun _ => Rw.up (B := Y1.heap.size) hHeld ((Below.refl _ _).alloc (Nat.le_refl _) _) (Rw.lt hHeld)) (fun hh => ?_)
      have hHeld := hh (by decide)
      clear hK K hh
      try simp only [Act.put, List.getElem_toArray, List.getElem_cons_zero, List.getElem_cons_succ, List.setIfInBounds_toArray, List.set_cons_zero, List.set_cons_succ]
      generalize World.alloc _ _ = Y2 at m hHeld ⊢
      have M2 := Lib.hid m
      clear m M1
      refine Still.takeBy (i := 8) [] (v := ?v221) (by kernel_rfl) (by kernel_rfl) rfl (by kernel_rfl) (by kernel_rfl) (by kernel_rfl) (fun _ _ _ h => h) (Or.inl ⟨by rfl, ?y221⟩) hHeld ?r221
      case y221 => (intro w' hSw; (try dsimp only at hSw); go_simp; try with_reducible rfl)
      simp only [Act.put, List.getElem_toArray, List.getElem_cons_zero, List.getElem_cons_succ, List.setIfInBounds_toArray, List.set_cons_zero, List.set_cons_succ]
      refine Still.all (rs := [9]) (by kernel_rfl) (by simp) (Still.one (i := 9) rfl rfl (fun K hK => ?_) (by simp))
      refine wp_store_row 30 _ _ rfl (w.heap.size + 1) #[.int .i64 0, (.slice (some ⟨Y0.heap.size, 0, none⟩) S.parts.length S.parts.length), (.slice (some ⟨Y1.heap.size, 0, none⟩) S.chans.length S.chans.length)] (by first | rfl | simp [Act.eval, Act.put]) (by first | rfl | simp [Act.eval, Act.put]) 30 #[.int .i64 0, .slice none 0 0, .slice none 0 0] (RB.out.up M2.out.d RB.out.lt) sizeWld rfl (world_one _ _ _ _ _ _ _) ?_
      refine hK _ _ (fun _ => Rw.row_other hHeld _ (by omega)) (fun hh => ?_)
      have hHeld := hh (by decide)
      clear hK K hh
      try simp only [Act.put, List.getElem_toArray, List.getElem_cons_zero, List.getElem_cons_succ, List.setIfInBounds_toArray, List.set_cons_zero, List.set_cons_succ]
      refine Still.all (rs := [10]) (by kernel_rfl) (by simp) (Still.one (i := 10) rfl rfl (fun K hK => ?_) (by simp))
      go_simp
      refine hK _ _ (fun h => absurd rfl h) (fun _ => ?_)
      clear hK K
      refine Still.over (by kernel_rfl) ?_ _
      clear hHeld
      go_wp2
      refine bodyPost_ret (results_row_tmp Tryd.results9 _ _ (w.heap.size + 1) _ _ rfl rfl (run_loadVar_row _ _ 30 _ #[.int .i64 0, (.slice (some ⟨Y0.heap.size, 0, none⟩) S.parts.length S.parts.length), (.slice (some ⟨Y1.heap.size, 0, none⟩) S.chans.length S.chans.length)] (0, 0) _ (Rw.row (RB.out.up M2.out.d RB.out.lt) _) Tryd.underlying30 rfl sizeWld)) rfl ⟨(.slice (some ⟨Y0.heap.size, 0, none⟩) S.parts.length S.parts.length), (.slice (some ⟨Y1.heap.size, 0, none⟩) S.chans.length S.chans.length), by rw [← HD.out]; rfl, by rw [← HD.out]; exact M2.out.done RB.out.lt (by omega) _, below_row (HB.out.trans (M2.out.d.mono (by omega))) (by omega) _⟩
    · refine wp_make _ _ 28 rfl 59 i2 _ 1 24 Tryd.underlying28 hi2 hx0 hx1 hx2 S.chans.length (by first | rfl | simp [Act.eval, Act.put]) (by first | rfl | simp [Act.eval, Act.put]) (by omega) (by omega) ?_
      have m := M0.out.lines
      rw [show Value.cells (.agg #[.slice none 0 0]) = #[.slice none 0 0] from rfl]
      refine hK _ _ (fun _ => Rw.up (B := Y0.heap.size) hHeld ((Below.refl _ _).alloc (Nat.le_refl _) _) (Rw.lt hHeld)) (fun hh => ?_)
      have hHeld := hh (by decide)
      clear hK K hh
      try simp only [Act.put, List.getElem_toArray, List.getElem_cons_zero, List.getElem_cons_succ, List.setIfInBounds_toArray, List.set_cons_zero, List.set_cons_succ]
      generalize World.alloc _ _ = Y1 at m hHeld ⊢
      have M1 := Lib.hid m
      clear m M0
      refine Still.all (rs := [3]) (by kernel_rfl) (by simp) (Still.one (i := 3) rfl rfl (fun K hK => ?_) (by simp))
      refine wp_make _ _ 27 rfl 54 i1 _ 16 144 Tryd.underlying27 hi1 hy0 hy1 hy2 S.parts.length (by first | rfl | simp [Act.eval, Act.put]) (by first | rfl | simp [Act.eval, Act.put]) (by omega) (by omega) ?_
      have m := M1.out.cells
      rw [show Value.cells (.agg (celZ.cs (.slice none 0 0))) = celZ.cs (.slice none 0 0) from rfl]
      refine hK _ _ (fun _ => Rw.up (B := Y1.heap.size) hHeld ((Below.refl _ _).alloc (Nat.le_refl _) _) (Rw.lt hHeld)) (fun hh => ?_)
      have hHeld := hh (by decide)
      clear hK K hh
      try simp only [Act.put, List.getElem_toArray, List.getElem_cons_zero, List.getElem_cons_succ, List.setIfInBounds_toArray, List.set_cons_zero, List.set_cons_succ]
      generalize World.alloc _ _ = Y2 at m hHeld ⊢
      have M2 := Lib.hid m
      clear m M1
      refine Still.takeBy (i := 8) [] (v := ?v231) (by kernel_rfl) (by kernel_rfl) rfl (by kernel_rfl) (by kernel_rfl) (by kernel_rfl) (fun _ _ _ h => h) (Or.inl ⟨by rfl, ?y231⟩) hHeld ?r231
      case y231 => (intro w' hSw; (try dsimp only at hSw); go_simp; try with_reducible rfl)
      simp only [Act.put, List.getElem_toArray, List.getElem_cons_zero, List.getElem_cons_succ, List.setIfInBounds_toArray, List.set_cons_zero, List.set_cons_succ]
      refine Still.all (rs := [9]) (by kernel_rfl) (by simp) (Still.one (i := 9) rfl rfl (fun K hK => ?_) (by simp))
      refine wp_store_row 30 _ _ rfl (w.heap.size + 1) #[.int .i64 0, (.slice (some ⟨Y1.heap.size, 0, none⟩) S.parts.length S.parts.length), (.slice (some ⟨Y0.heap.size, 0, none⟩) S.chans.length S.chans.length)] (by first | rfl | simp [Act.eval, Act.put]) (by first | rfl | simp [Act.eval, Act.put]) 30 #[.int .i64 0, .slice none 0 0, .slice none 0 0] (RB.out.up M2.out.d RB.out.lt) sizeWld rfl (world_one _ _ _ _ _ _ _) ?_
      refine hK _ _ (fun _ => Rw.row_other hHeld _ (by omega)) (fun hh => ?_)
      have hHeld := hh (by decide)
      clear hK K hh
      try simp only [Act.put, List.getElem_toArray, List.getElem_cons_zero, List.getElem_cons_succ, List.setIfInBounds_toArray, List.set_cons_zero, List.set_cons_succ]
      refine Still.all (rs := [10]) (by kernel_rfl) (by simp) (Still.one (i := 10) rfl rfl (fun K hK => ?_) (by simp))
      go_simp
      refine hK _ _ (fun h => absurd rfl h) (fun _ => ?_)
      clear hK K
      refine Still.over (by kernel_rfl) ?_ _
      clear hHeld
      go_wp2
      refine bodyPost_ret (results_row_tmp Tryd.results9 _ _ (w.heap.size + 1) _ _ rfl rfl (run_loadVar_row _ _ 30 _ #[.int .i64 0, (.slice (some ⟨Y1.heap.size, 0, none⟩) S.parts.length S.parts.length), (.slice (some ⟨Y0.heap.size, 0, none⟩) S.chans.length S.chans.length)] (0, 0) _ (Rw.row (RB.out.up M2.out.d RB.out.lt) _) Tryd.underlying30 rfl sizeWld)) rfl ⟨(.slice (some ⟨Y1.heap.size, 0, none⟩) S.parts.length S.parts.length), (.slice (some ⟨Y0.heap.size, 0, none⟩) S.chans.length S.chans.length), by rw [← HD.out]; rfl, by rw [← HD.out]; exact M2.out.done RB.out.lt (by omega) _, below_row (HB.out.trans (M2.out.d.mono (by omega))) (by omega) _⟩
  · have h0' : (e0 != 0) = true := by simpa using h0
    have HD : Hid (wldZ = D) := by
      show _ = _
      rw [← hD, beginR, if_neg (by rw [hk]; exact h0)]
    clear hk hD h0
    go_enter Tryd.func9, Tryd.ntmps9
    go_wp2_with fail
    refine (HC.out _ (HE.out.up (by repeat (first | exact Below.refl _ _ | assumption | refine Below.drew ?_ | refine Below.alloc ?_ (by first | (simp; done) | (simp; omega)) _ | refine Below.setCell ?_ (by first | (simp; done) | (simp; omega)) _))) (HS.out.up (by repeat (first | exact Below.refl _ _ | assumption | refine Below.drew ?_ | refine Below.alloc ?_ (by first | (simp; done) | (simp; omega)) _ | refine Below.setCell ?_ (by first | (simp; done) | (simp; omega)) _)))).mono ?_
    rintro e w1 ⟨rfl, b1⟩
    have z1 := b1.size
    simp at z1
    have RB : Hid (Rw w1 (w.heap.size + 1) 30 #[.int .i64 0, .slice none 0 0, .slice none 0 0]) := Rw.up (by repeat (first | exact Rw.new _ _ _ (by first | rfl | (simp; done) | omega | (simp; omega)) | refine Rw.alloc ?_ _)) b1 (by first | omega | (simp; done) | (simp; omega))
    have HB : Hid (Below w.heap.size w w1) := by
      refine Below.trans ?_ (b1.mono (by first | omega | (simp; done) | (simp; omega)))
      exact (by repeat (first | exact Below.refl _ _ | assumption | refine Below.drew ?_ | refine Below.alloc ?_ (by first | (simp; done) | (simp; omega)) _ | refine Below.setCell ?_ (by first | (simp; done) | (simp; omega)) _))
    clear b1 HC
    go_wp2_with (refine wpList_store_row rfl 30 (.tmp 2) (.tmp 9) rfl (w.heap.size + 1) #[.int .i64 0, .slice none 0 0, .slice none 0 0] rfl rfl 30 #[.int .i64 0, .slice none 0 0, .slice none 0 0] RB.out sizeWld rfl (world_one _ _ _ _ _ _ _) ?_)
    refine bodyPost_ret (results_row_tmp Tryd.results9 _ _ (w.heap.size + 1) _ _ rfl rfl (run_loadVar_row _ _ 30 _ #[.int .i64 0, .slice none 0 0, .slice none 0 0] (0, 0) _ (RB.out.row _) Tryd.underlying30 rfl sizeWld)) rfl ⟨.slice none 0 0, .slice none 0 0, by rw [← HD.out]; rfl, by rw [← HD.out]; exact WldF.nil _ _, below_row HB.out (by omega) _⟩
set_option maxRecDepth 100000 in
set_option maxHeartbeats 8000000 in
theorem beginOf_any (S : SysD) (vp vc vs : Value) (w : World) (hS : Sys w vp vc vs S) (hk : chkS S = 0) :
    Calls Tryd.prog 11 #[.agg #[vp, vc, vs]] w fun e w' => ∃ uc ul, e = .returned (.agg #[.int .i64 0, uc, ul]) ∧ WldF w.heap.size w' uc ul (beginC S) ∧ Below w.heap.size w w' := by
  obtain ⟨i1, hi1, hy0, hy1, hy2⟩ := info_parts infoCell
  obtain ⟨i2, hi2, hx0, hx1, hx2⟩ := info_parts infoLine
  obtain ⟨pa, pc, rfl⟩ := hS.p.form
  obtain ⟨ka, kc, rfl⟩ := hS.c.form
  obtain ⟨sa, sc, rfl⟩ := hS.s.form
  obtain ⟨hcl1, hcl2⟩ := countsS hk
  clear hS hk
  go_enter Tryd.func11, Tryd.ntmps11
  go_upto_region 1 with fail
  generalize hWe : World.alloc _ _ = W1
  have RA : Hid (Rw W1 w.heap.size 26 #[.slice pa S.parts.length pc, .slice ka S.chans.length kc, .slice sa S.slots.length sc]) := by
    show Rw _ _ _ _
    rw [← hWe]
    exact (by repeat (first | exact Rw.new _ _ _ (by first | rfl | (simp; done) | omega | (simp; omega)) | refine Rw.alloc ?_ _))
  have RB : Hid (Rw W1 (w.heap.size + 1) 30 #[.int .i64 0, .slice none 0 0, .slice none 0 0]) := by
    show Rw _ _ _ _
    rw [← hWe]
    exact (by repeat (first | exact Rw.new _ _ _ (by first | rfl | (simp; done) | omega | (simp; omega)) | refine Rw.alloc ?_ _))
  have HB : Hid (Below w.heap.size w W1) := by
    show Below _ _ _
    rw [← hWe]
    exact (by repeat (first | exact Below.refl _ _ | assumption | refine Below.drew ?_ | refine Below.alloc ?_ (by first | (simp; done) | (simp; omega)) _ | refine Below.setCell ?_ (by first | (simp; done) | (simp; omega)) _))
  have z1 : w.heap.size + 2 ≤ W1.heap.size := by rw [← hWe]; simp
  clear hWe
  refine region_still (S := fun w' => Rw w' w.heap.size 26 #[.slice pa S.parts.length pc, .slice ka S.chans.length kc, .slice sa S.slots.length sc]) 9 (by kernel_rfl) RA.out.drew (fun hHeld => ?_)
  refine Still.takeBy (i := 0) [] (v := ?v41) (by kernel_rfl) (by kernel_rfl) rfl (by kernel_rfl) (by kernel_rfl) (by kernel_rfl) (fun _ _ _ h => h) (Or.inl ⟨by rfl, ?y41⟩) hHeld ?r41
  case y41 => (intro w' hSw; (try dsimp only at hSw); have q0 := hSw.cell (j := 0) (v := .slice pa S.parts.length pc) rfl; have q1 := hSw.cell (j := 1) (v := .slice ka S.chans.length kc) rfl; clear hSw; go_simp; try with_reducible rfl)
  simp only [Act.put, List.getElem_toArray, List.getElem_cons_zero, List.getElem_cons_succ, List.setIfInBounds_toArray, List.set_cons_zero, List.set_cons_succ]
  refine Still.takeBy (i := 1) [] (v := ?v42) (by kernel_rfl) (by kernel_rfl) rfl (by kernel_rfl) (by kernel_rfl) (by kernel_rfl) (fun _ _ _ h => h) (Or.inl ⟨by rfl, ?y42⟩) hHeld ?r42
  case y42 => (intro w' hSw; (try dsimp only at hSw); have q0 := hSw.cell (j := 0) (v := .slice pa S.parts.length pc) rfl; have q1 := hSw.cell (j := 1) (v := .slice ka S.chans.length kc) rfl; clear hSw; go_simp; try with_reducible rfl)
  simp only [Act.put, List.getElem_toArray, List.getElem_cons_zero, List.getElem_cons_succ, List.setIfInBounds_toArray, List.set_cons_zero, List.set_cons_succ]
  refine Still.takeBy (i := 2) [] (v := ?v43) (by kernel_rfl) (by kernel_rfl) rfl (by kernel_rfl) (by kernel_rfl) (by kernel_rfl) (fun _ _ _ h => h) (Or.inl ⟨by rfl, ?y43⟩) hHeld ?r43
  case y43 => (intro w' hSw; (try dsimp only at hSw); have q0 := hSw.cell (j := 0) (v := .slice pa S.parts.length pc) rfl; have q1 := hSw.cell (j := 1) (v := .slice ka S.chans.length kc) rfl; clear hSw; go_simp; try with_reducible rfl)
  simp only [Act.put, List.getElem_toArray, List.getElem_cons_zero, List.getElem_cons_succ, List.setIfInBounds_toArray, List.set_cons_zero, List.set_cons_succ]
  refine Still.takeBy (i := 4) [] (v := ?v44) (by kernel_rfl) (by kernel_rfl) rfl (by kernel_rfl) (by kernel_rfl) (by kernel_rfl) (fun _ _ _ h => h) (Or.inl ⟨by rfl, ?y44⟩) hHeld ?r44
  case y44 => (intro w' hSw; (try dsimp only at hSw); have q0 := hSw.cell (j := 0) (v := .slice pa S.parts.length pc) rfl; have q1 := hSw.cell (j := 1) (v := .slice ka S.chans.length kc) rfl; clear hSw; go_simp; try with_reducible rfl)
  simp only [Act.put, List.getElem_toArray, List.getElem_cons_zero, List.getElem_cons_succ, List.setIfInBounds_toArray, List.set_cons_zero, List.set_cons_succ]
  refine Still.takeBy (i := 5) [] (v := ?v45) (by kernel_rfl) (by kernel_rfl) rfl (by kernel_rfl) (by kernel_rfl) (by kernel_rfl) (fun _ _ _ h => h) (Or.inl ⟨by rfl, ?y45⟩) hHeld ?r45
  case y45 => (intro w' hSw; (try dsimp only at hSw); have q0 := hSw.cell (j := 0) (v := .slice pa S.parts.length pc) rfl; have q1 := hSw.cell (j := 1) (v := .slice ka S.chans.length kc) rfl; clear hSw; go_simp; try with_reducible rfl)
  simp only [Act.put, List.getElem_toArray, List.getElem_cons_zero, List.getElem_cons_succ, List.setIfInBounds_toArray, List.set_cons_zero, List.set_cons_succ]
  refine Still.takeBy (i := 6) [] (v := ?v46) (by kernel_rfl) (by kernel_rfl) rfl (by kernel_rfl) (by kernel_rfl) (by kernel_rfl) (fun _ _ _ h => h) (Or.inl ⟨by rfl, ?y46⟩) hHeld ?r46
  case y46 => (intro w' hSw; (try dsimp only at hSw); have q0 := hSw.cell (j := 0) (v := .slice pa S.parts.length pc) rfl; have q1 := hSw.cell (j := 1) (v := .slice ka S.chans.length kc) rfl; clear hSw; go_simp; try with_reducible rfl)
  simp only [Act.put, List.getElem_toArray, List.getElem_cons_zero, List.getElem_cons_succ, List.setIfInBounds_toArray, List.set_cons_zero, List.set_cons_succ]
  have M0 := Lib.hid (Bg.begin W1 S.parts.length S.chans.length)
  generalize World.drew _ = Y0 at M0 hHeld ⊢
  refine Still.all (rs := [3, 7]) (by kernel_rfl) (by simp) (Still.one (i := 3) rfl rfl (fun K hK => ?_) (Still.one (i := 7) rfl rfl (fun K hK => ?_) (by simp)))
  · refine wp_make _ _ 27 rfl 54 i1 _ 16 144 Tryd.underlying27 hi1 hy0 hy1 hy2 S.parts.length (by first | rfl | simp [Act.eval, Act.put]) (by first | rfl | simp [Act.eval, Act.put]) (by omega) (by omega) ?_
    have m := M0.out.cells
    rw [show Value.cells (.agg (celZ.cs (.slice none 0 0))) = celZ.cs (.slice none 0 0) from rfl]
    refine hK _ _ (fun _ => Rw.up (B := Y0.heap.size) hHeld ((Below.refl _ _).alloc (Nat.le_refl _) _) (Rw.lt hHeld)) (fun hh => ?_)
    have hHeld := hh (by decide)
    clear hK K hh
    try simp only [Act.put, List.getElem_toArray, List.getElem_cons_zero, List.getElem_cons_succ, List.setIfInBounds_toArray, List.set_cons_zero, List.set_cons_succ]
    generalize World.alloc _ _ = Y1 at m hHeld ⊢
    have M1 := Lib.hid m
    clear m M0
    refine Still.all (rs := [7]) (by kernel_rfl) (by simp) (Still.one (i := 7) rfl rfl (fun K hK => ?_) (by simp))
    refine wp_make _ _ 28 rfl 59 i2 _ 1 24 Tryd.underlying28 hi2 hx0 hx1 hx2 S.chans.length (by first | rfl | simp [Act.eval, Act.put]) (by first | rfl | simp [Act.eval, Act.put]) (by omega) (by omega) ?_
    have m := M1.out.lines
    rw [show Value.cells (.agg #[.slice none 0 0]) = #[.slice none 0 0] from rfl]
    refine hK _ _ (fun _ => Rw.up (B := Y1.heap.size) hHeld ((Below.refl _ _).alloc (Nat.le_refl _) _) (Rw.lt hHeld)) (fun hh => ?_)
    have hHeld := hh (by decide)
    clear hK K hh
    try simp only [Act.put, List.getElem_toArray, List.getElem_cons_zero, List.getElem_cons_succ, List.setIfInBounds_toArray, List.set_cons_zero, List.set_cons_succ]
    generalize World.alloc _ _ = Y2 at m hHeld ⊢
    have M2 := Lib.hid m
    clear m M1
    refine Still.takeBy (i := 8) [] (v := ?v261) (by kernel_rfl) (by kernel_rfl) rfl (by kernel_rfl) (by kernel_rfl) (by kernel_rfl) (fun _ _ _ h => h) (Or.inl ⟨by rfl, ?y261⟩) hHeld ?r261
    case y261 => (intro w' hSw; (try dsimp only at hSw); go_simp; try with_reducible rfl)
    simp only [Act.put, List.getElem_toArray, List.getElem_cons_zero, List.getElem_cons_succ, List.setIfInBounds_toArray, List.set_cons_zero, List.set_cons_succ]
    refine Still.all (rs := [9]) (by kernel_rfl) (by simp) (Still.one (i := 9) rfl rfl (fun K hK => ?_) (by simp))
    refine wp_store_row 30 _ _ rfl (w.heap.size + 1) #[.int .i64 0, (.slice (some ⟨Y0.heap.size, 0, none⟩) S.parts.length S.parts.length), (.slice (some ⟨Y1.heap.size, 0, none⟩) S.chans.length S.chans.length)] (by first | rfl | simp [Act.eval, Act.put]) (by first | rfl | simp [Act.eval, Act.put]) 30 #[.int .i64 0, .slice none 0 0, .slice none 0 0] (RB.out.up M2.out.d RB.out.lt) sizeWld rfl (world_one _ _ _ _ _ _ _) ?_
    refine hK _ _ (fun h => absurd rfl h) (fun _ => ?_)
    clear hK K
    refine Still.over (by kernel_rfl) ?_ _
    clear hHeld
    go_wp2
    refine bodyPost_ret (results_cell_row Tryd.results11 _ _ (w.heap.size + 1) 30 #[.int .i64 0, (.slice (some ⟨Y0.heap.size, 0, none⟩) S.parts.length S.parts.length), (.slice (some ⟨Y1.heap.size, 0, none⟩) S.chans.length S.chans.length)] (0, 0) _ rfl (Rw.row (RB.out.up M2.out.d RB.out.lt) _) Tryd.underlying30 rfl sizeWld) rfl ⟨(.slice (some ⟨Y0.heap.size, 0, none⟩) S.parts.length S.parts.length), (.slice (some ⟨Y1.heap.size, 0, none⟩) S.chans.length S.chans.length), rfl, M2.out.done RB.out.lt (by omega) _, below_row (HB.out.trans (M2.out.d.mono (by omega))) (by omega) _⟩
  · refine wp_make _ _ 28 rfl 59 i2 _ 1 24 Tryd.underlying28 hi2 hx0 hx1 hx2 S.chans.length (by first | rfl | simp [Act.eval, Act.put]) (by first | rfl | simp [Act.eval, Act.put]) (by omega) (by omega) ?_
    have m := M0.out.lines
    rw [show Value.cells (.agg #[.slice none 0 0]) = #[.slice none 0 0] from rfl]
    refine hK _ _ (fun _ => Rw.up (B := Y0.heap.size) hHeld ((Below.refl _ _).alloc (Nat.le_refl _) _) (Rw.lt hHeld)) (fun hh => ?_)
    have hHeld := hh (by decide)
    clear hK K hh
    try simp only [Act.put, List.getElem_toArray, List.getElem_cons_zero, List.getElem_cons_succ, List.setIfInBounds_toArray, List.set_cons_zero, List.set_cons_succ]
    generalize World.alloc _ _ = Y1 at m hHeld ⊢
    have M1 := Lib.hid m
    clear m M0
    refine Still.all (rs := [3]) (by kernel_rfl) (by simp) (Still.one (i := 3) rfl rfl (fun K hK => ?_) (by simp))
    refine wp_make _ _ 27 rfl 54 i1 _ 16 144 Tryd.underlying27 hi1 hy0 hy1 hy2 S.parts.length (by first | rfl | simp [Act.eval, Act.put]) (by first | rfl | simp [Act.eval, Act.put]) (by omega) (by omega) ?_
    have m := M1.out.cells
    rw [show Value.cells (.agg (celZ.cs (.slice none 0 0))) = celZ.cs (.slice none 0 0) from rfl]
    refine hK _ _ (fun _ => Rw.up (B := Y1.heap.size) hHeld ((Below.refl _ _).alloc (Nat.le_refl _) _) (Rw.lt hHeld)) (fun hh => ?_)
    have hHeld := hh (by decide)
    clear hK K hh
    try simp only [Act.put, List.getElem_toArray, List.getElem_cons_zero, List.getElem_cons_succ, List.setIfInBounds_toArray, List.set_cons_zero, List.set_cons_succ]
    generalize World.alloc _ _ = Y2 at m hHeld ⊢
    have M2 := Lib.hid m
    clear m M1
    refine Still.takeBy (i := 8) [] (v := ?v271) (by kernel_rfl) (by kernel_rfl) rfl (by kernel_rfl) (by kernel_rfl) (by kernel_rfl) (fun _ _ _ h => h) (Or.inl ⟨by rfl, ?y271⟩) hHeld ?r271
    case y271 => (intro w' hSw; (try dsimp only at hSw); go_simp; try with_reducible rfl)
    simp only [Act.put, List.getElem_toArray, List.getElem_cons_zero, List.getElem_cons_succ, List.setIfInBounds_toArray, List.set_cons_zero, List.set_cons_succ]
    refine Still.all (rs := [9]) (by kernel_rfl) (by simp) (Still.one (i := 9) rfl rfl (fun K hK => ?_) (by simp))
    refine wp_store_row 30 _ _ rfl (w.heap.size + 1) #[.int .i64 0, (.slice (some ⟨Y1.heap.size, 0, none⟩) S.parts.length S.parts.length), (.slice (some ⟨Y0.heap.size, 0, none⟩) S.chans.length S.chans.length)] (by first | rfl | simp [Act.eval, Act.put]) (by first | rfl | simp [Act.eval, Act.put]) 30 #[.int .i64 0, .slice none 0 0, .slice none 0 0] (RB.out.up M2.out.d RB.out.lt) sizeWld rfl (world_one _ _ _ _ _ _ _) ?_
    refine hK _ _ (fun h => absurd rfl h) (fun _ => ?_)
    clear hK K
    refine Still.over (by kernel_rfl) ?_ _
    clear hHeld
    go_wp2
    refine bodyPost_ret (results_cell_row Tryd.results11 _ _ (w.heap.size + 1) 30 #[.int .i64 0, (.slice (some ⟨Y1.heap.size, 0, none⟩) S.parts.length S.parts.length), (.slice (some ⟨Y0.heap.size, 0, none⟩) S.chans.length S.chans.length)] (0, 0) _ rfl (Rw.row (RB.out.up M2.out.d RB.out.lt) _) Tryd.underlying30 rfl sizeWld) rfl ⟨(.slice (some ⟨Y1.heap.size, 0, none⟩) S.parts.length S.parts.length), (.slice (some ⟨Y0.heap.size, 0, none⟩) S.chans.length S.chans.length), rfl, M2.out.done RB.out.lt (by omega) _, below_row (HB.out.trans (M2.out.d.mono (by omega))) (by omega) _⟩
end Go.Proofs.YtjhjaafoikadgaaDoor

/- kern.Begin and the document's. -/
import Derived.Test.YtnnnljfdjdehaaaDoorJ12
import Derived.Defers
import Derived.Recover
import Derived.Test.YtnnnljfdjdehaaaDoorJ2
import Derived.Laws.CopyOwn
import Derived.Deep.RegionLaw
namespace Go.Proofs.YtnnnljfdjdehaaaDoor
set_option linter.unusedSimpArgs false
set_option linter.unusedVariables false
open Go.RowKit Go.Sort

theorem wp_make {P : Program} {o : Oper} {a : Act} {w : World} {K : Act → World → Prop} {Q : Exit → Act → World → Prop} (l c : Operand) (t : TypeId) (ho : o.op = .makeSlice t l c)
    (e : TypeId) (i : TypeInfo) (z : Value) (size bytes : Nat) (h1 : P.underlying t = some (.slice e)) (h2 : P.info? e = some i) (h3 : i.zero = some z) (h4 : i.size = size) (h5 : i.bytes = bytes)
    (n : Nat) (hl : a.eval l = .int .i64 n) (hc : a.eval c = .int .i64 n) (b2 : bytes * n ≤ 281474976710656) (b3 : n ≤ 9223372036854775807)
    (h : K (a.put o.dst (.slice (some ⟨w.heap.size, 0, none⟩) n n)) (w.alloc (.cells (madeCells z.cells (n * size)) e))) : o.wp P a w K Q := by
  subst h4 h5
  have hb' : (i.bytes : Int) * (n : Int) ≤ 281474976710656 := by
    have h : ((i.bytes * n : Nat) : Int) ≤ 281474976710656 := by omega
    rwa [Int.natCast_mul] at h
  have hrun := run_make (P := P) w t e i z h1 h2 h3 .i64 .i64 n n (by omega) (Int.le_refl _) hb' (by omega)
  simp only [Int.toNat_natCast] at hrun
  unfold Oper.wp
  simp [execOp, ho, hl, hc, hrun, Result.andThen]
  exact h
theorem made_at (z : Array Value) (hz : 0 < z.size) (n k j : Nat) (hk : k < n) (hj : j < z.size) : (madeCells z (n * z.size)).toList[k * z.size + j]? = z[j]? := by
  have h1 : k * z.size + j < n * z.size := by
    have : (k + 1) * z.size ≤ n * z.size := Nat.mul_le_mul_right _ hk
    rw [Nat.add_mul] at this
    omega
  rw [Array.getElem?_toList]
  unfold madeCells
  rw [Array.getElem?_map, Array.getElem?_range, if_pos h1]
  simp [Nat.mod_eq_of_lt hj, hj]
theorem made_cells (n : Nat) : (madeCells (celZ.cs (.slice none 0 0)) (n * 16)).toList = rowC celC (List.replicate n (celZ, .slice none 0 0)) := by
  apply List.ext_getElem?
  intro j
  by_cases hj : j < n * 16
  · have hk : j / 16 < n := by omega
    have hr : j % 16 < 16 := by omega
    have hjk : j = j / 16 * 16 + j % 16 := by omega
    rw [hjk, rowC_at celC_len _ (j / 16) (j % 16) (by simpa using hk) hr]
    refine (made_at (celZ.cs (.slice none 0 0)) (by decide) n (j / 16) (j % 16) hk hr).trans ?_
    rw [List.getElem_replicate, celC, Array.getElem?_toList]
  · rw [List.getElem?_eq_none (by simp [size_madeCells]; omega), List.getElem?_eq_none (by rw [rowC_len celC_len]; simp; omega)]
theorem cells_made (w : World) (n g : Nat) (hg : g = w.heap.size) : CellsR (w.alloc (.cells (madeCells (celZ.cs (.slice none 0 0)) (n * 16)) 62)) (.slice (some ⟨g, 0, none⟩) n n) (List.replicate n celD0) := by
  refine ⟨List.replicate n (celZ, .slice none 0 0), by simp, ?_, fun k hk hk' => ?_⟩
  · rw [List.length_replicate, ← made_cells]
    exact lit_sl w (madeCells (celZ.cs (.slice none 0 0)) (n * 16)).toList _ g n 16 hg (by simp [size_madeCells])
  · simp only [List.getElem_replicate]
    exact ⟨rfl, Sl.nil _ _⟩
theorem lines_made (w : World) (n g : Nat) (hg : g = w.heap.size) : LinesR (w.alloc (.cells (madeCells #[.slice none 0 0] (n * 1)) 65)) (.slice (some ⟨g, 0, none⟩) n n) (List.replicate n []) := by
  refine ⟨List.replicate n (.slice none 0 0), by simp, ?_, fun k hk hk' => ?_⟩
  · rw [List.length_replicate, Nat.mul_one, ← toList_madeCells_one]
    exact lit_sl w (madeCells #[.slice none 0 0] n).toList _ g n 1 hg (by simp [size_madeCells])
  · simp only [List.getElem_replicate]
    exact Sl.nil _ _
/-- On the way: the cells, the lines made. -/
structure Bg (X W : World) (oc ol : Option Value) (n m : Nat) : Prop where
  d : Below X.heap.size X W
  c : ∀ v, oc = some v → ∃ ps : List (Cel × Value), ps = List.replicate n (celZ, .slice none 0 0) ∧ Sl W 16 v n (rowC celC ps) ∧ ∀ b, v.ownBlock = some b → X.heap.size ≤ b ∧ b < W.heap.size ∧ ∃ cur, Rw W b 62 cur
  l : ∀ v, ol = some v → Sl W 1 v m (List.replicate m (.slice none 0 0)) ∧ ∀ b, v.ownBlock = some b → X.heap.size ≤ b ∧ b < W.heap.size
  ne : ∀ v u, oc = some v → ol = some u → ∀ b, u.ownBlock = some b → v.ownBlock ≠ some b
theorem Bg.begin (X : World) (n m : Nat) : Bg X X.drew none none n m := ⟨(Below.refl _ _).drew, by simp, by simp, by simp⟩
theorem Bg.cells {X W : World} {ol : Option Value} {n m : Nat} (h : Bg X W none ol n m) : Bg X (W.alloc (.cells (madeCells (celZ.cs (.slice none 0 0)) (n * 16)) 62)) (some (.slice (some ⟨W.heap.size, 0, none⟩) n n)) ol n m :=
  ⟨h.d.alloc h.d.size _, fun v q => by
    injection q with q
    subst q
    refine ⟨_, rfl, ?_, fun b e => by simp [Value.ownBlock] at e; have := h.d.size; exact ⟨by omega, by simp; omega, _, Rw.new _ _ _ e.symm⟩⟩
    rw [← made_cells]
    exact lit_sl W (madeCells (celZ.cs (.slice none 0 0)) (n * 16)).toList _ _ n 16 rfl (by simp [size_madeCells]), fun v q => ⟨(h.l v q).1.up1 _, fun b e => ⟨((h.l v q).2 b e).1, by have := ((h.l v q).2 b e).2; simp; omega⟩⟩, fun v u q q' b e => by
    injection q with q
    subst q
    have := ((h.l u q').2 b e).2
    simp [Value.ownBlock]
    omega⟩
theorem Bg.lines {X W : World} {oc : Option Value} {n m : Nat} (h : Bg X W oc none n m) : Bg X (W.alloc (.cells (madeCells #[.slice none 0 0] (m * 1)) 65)) oc (some (.slice (some ⟨W.heap.size, 0, none⟩) m m)) n m :=
  ⟨h.d.alloc h.d.size _, fun v q => by
    obtain ⟨ps, e, h2, h3⟩ := h.c v q
    exact ⟨ps, e, h2.up1 _, fun b e => ⟨(h3 b e).1, by have := (h3 b e).2.1; simp; omega, let ⟨c, hc⟩ := (h3 b e).2.2; ⟨c, hc.alloc _⟩⟩⟩, fun v q => by
    injection q with q
    subst q
    refine ⟨?_, fun b e => by simp [Value.ownBlock] at e; have := h.d.size; simp; omega⟩
    rw [Nat.mul_one, ← toList_madeCells_one]
    exact lit_sl W (madeCells #[.slice none 0 0] m).toList _ _ m 1 rfl (by simp [size_madeCells]), fun v u q q' b e e' => by
    injection q' with q'
    subst q'
    obtain ⟨ps, _, _, h3⟩ := h.c v q
    have := (h3 b e').2.1
    simp [Value.ownBlock] at e
    omega⟩
/-- Both made, and stored into a row that was there. -/
theorem Bg.done {X W : World} {vc vl : Value} {S : SysD} (h : Bg X W (some vc) (some vl) S.parts.length S.chans.length) {g B : Nat} (hg : g < X.heap.size) (hB : B ≤ X.heap.size) (cs : Array Value) : WldF B (W.setRow g cs) vc vl (beginC S) := by
  obtain ⟨ps, e, h2, h3⟩ := h.c vc rfl
  obtain ⟨h4, h5⟩ := h.l vl rfl
  subst e
  refine ⟨⟨List.replicate S.parts.length (celZ, .slice none 0 0), by simp [beginC], ?_, fun k hk hk' => ?_⟩, ⟨List.replicate S.chans.length (.slice none 0 0), by simp [beginC], ?_, fun k hk hk' => ?_⟩, fun b e => Nat.le_trans hB (h3 b e).1, fun b e => ⟨Nat.le_trans hB (h5 b e).1, h.ne vc vl rfl rfl b e⟩, fun b e => let ⟨c, hc⟩ := (h3 b e).2.2; ⟨c, hc.row_other _ (by have := (h3 b e).1; omega)⟩⟩
  · simp only [beginC, List.length_replicate]
    exact h2.row cs (fun e => by have := (h3 g e).1; omega)
  · simp only [beginC, List.getElem_replicate]
    exact ⟨rfl, Sl.nil _ _, fun b e => by cases e⟩
  · simp only [beginC, List.length_replicate]
    exact h4.row cs (fun e => by have := (h5 g e).1; omega)
  · simp only [beginC, List.getElem_replicate]
    exact ⟨Sl.nil _ _, fun b e => by cases e⟩
theorem sl_fresh {w : World} {size : Nat} {v : Value} {n : Nat} {xs : List Value} (h : Sl w size v n xs) (o : Obj) (u : Array Value) : Sl ((w.alloc o).setRow w.heap.size u) size v n xs :=
  sl_row0K (h.up1 o) fun hn e => by
    obtain ⟨b, off, cap, rfl, _, hb, _⟩ := h.open hn
    simp [Value.ownBlock] at e
    omega
/-- A world, and a store into a block that was made behind it. -/
theorem WldF.fresh {B : Nat} {w : World} {vc vl : Value} {D : WldD} (h : WldF B w vc vl D) (o : Obj) (u : Array Value) : WldF B ((w.alloc o).setRow w.heap.size u) vc vl D := by
  obtain ⟨⟨ps, p1, p2, p3⟩, ⟨vs, q1, q2, q3⟩, bc, bl, fz⟩ := h
  exact ⟨⟨ps, p1, sl_fresh p2 o u, fun k hk hk' => ⟨(p3 k hk hk').1, sl_fresh (p3 k hk hk').2.1 o u, (p3 k hk hk').2.2⟩⟩, ⟨vs, q1, sl_fresh q2 o u, fun k hk hk' => ⟨sl_fresh (q3 k hk hk').1 o u, (q3 k hk hk').2⟩⟩, bc, bl, fun g e => let ⟨c, hc⟩ := fz g e; ⟨c, (hc.alloc o).row_other _ (by have := hc.lt; omega)⟩⟩
def wldZ : WldD := ⟨0, [], []⟩
theorem WldF.nil (B : Nat) (w : World) : WldF B w (.slice none 0 0) (.slice none 0 0) wldZ := ⟨⟨[], rfl, Sl.nil _ _, fun k hk => by simp [wldZ] at hk⟩, ⟨[], rfl, Sl.nil _ _, fun k hk => by simp [wldZ] at hk⟩, fun b e => (by cases e), fun b e => (by cases e), fun b e => (by cases e)⟩
theorem world_one (t : Int) (a : Option Addr) (n c : Nat) (a' : Option Addr) (n' c' : Nat) : (#[.int .i64 t, .slice a n c, .slice a' n' c'] : Array Value).all (·.oneCell') = true := by simp [Value.oneCell']
theorem countsS {S : SysD} (h : chkS S = 0) : S.parts.length ≤ 4 ∧ S.chans.length ≤ 6 := by
  unfold chkS at h
  cases hb : countsB S with
  | false => rw [hb] at h; simp at h
  | true => simp [countsB] at hb; omega
/-- What Begin makes. -/
def beginR (S : SysD) : WldD := if chkS S = 0 then beginC S else wldZ
set_option maxRecDepth 100000 in
set_option maxHeartbeats 8000000 in
theorem kernBegin_any (S : SysD) (vp vc vs : Value) (w : World) (he : Env w) (hS : Sys w vp vc vs S) (e0 : Int) (hk : chkS S = e0) (D : WldD) (hD : beginR S = D) :
    Calls Tryd.prog 58 #[.agg #[vp, vc, vs]] w fun e w' => ∃ uc ul, e = .returned (.tuple #[.agg #[.int .i64 D.tick, uc, ul], .int .i64 e0]) ∧ WldF w.heap.size w' uc ul D ∧ Below w.heap.size w w' := by
  obtain ⟨i1, hi1, hy0, hy1, hy2⟩ := info_parts infoCell
  obtain ⟨i2, hi2, hx0, hx1, hx2⟩ := info_parts infoLine
  obtain ⟨pa, pc, rfl⟩ := hS.p.form
  obtain ⟨ka, kc, rfl⟩ := hS.c.form
  obtain ⟨sa, sc, rfl⟩ := hS.s.form
  have HC := Lib.hid fun w he hS => confCheck_any S (.slice pa S.parts.length pc) (.slice ka S.chans.length kc) (.slice sa S.slots.length sc) w he hS
  rw [hk] at HC
  have HE := Lib.hid he
  have HS := Lib.hid hS
  clear he hS
  by_cases h0 : e0 = 0
  · subst h0
    obtain ⟨hcl1, hcl2⟩ := countsS hk
    have HD : Hid (beginC S = D) := by
      show _ = _
      rw [← hD, beginR, if_pos hk]
    clear hk hD
    go_enter Tryd.func58, Tryd.ntmps58
    go_wp2_with fail
    refine (HC.out _ (HE.out.up (by repeat (first | exact Below.refl _ _ | assumption | refine Below.drew ?_ | refine Below.alloc ?_ (by first | (simp; done) | (simp; omega)) _ | refine Below.setCell ?_ (by first | (simp; done) | (simp; omega)) _))) (HS.out.up (by repeat (first | exact Below.refl _ _ | assumption | refine Below.drew ?_ | refine Below.alloc ?_ (by first | (simp; done) | (simp; omega)) _ | refine Below.setCell ?_ (by first | (simp; done) | (simp; omega)) _)))).mono ?_
    rintro e w1 ⟨rfl, b1⟩
    have z1 := b1.size
    simp at z1
    have RA : Hid (Rw w1 w.heap.size 26 #[.slice pa S.parts.length pc, .slice ka S.chans.length kc, .slice sa S.slots.length sc]) := Rw.up (by repeat (first | exact Rw.new _ _ _ (by first | rfl | (simp; done) | omega | (simp; omega)) | refine Rw.alloc ?_ _)) b1 (by first | omega | (simp; done) | (simp; omega))
    have RB : Hid (Rw w1 (w.heap.size + 1) 30 #[.int .i64 0, .slice none 0 0, .slice none 0 0]) := Rw.up (by repeat (first | exact Rw.new _ _ _ (by first | rfl | (simp; done) | omega | (simp; omega)) | refine Rw.alloc ?_ _)) b1 (by first | omega | (simp; done) | (simp; omega))
    have HB : Hid (Below w.heap.size w w1) := by
      refine Below.trans ?_ (b1.mono (by first | omega | (simp; done) | (simp; omega)))
      exact (by repeat (first | exact Below.refl _ _ | assumption | refine Below.drew ?_ | refine Below.alloc ?_ (by first | (simp; done) | (simp; omega)) _ | refine Below.setCell ?_ (by first | (simp; done) | (simp; omega)) _))
    clear b1 HC
    go_wp2
    refine region_still (S := fun w' => Rw w' w.heap.size 26 #[.slice pa S.parts.length pc, .slice ka S.chans.length kc, .slice sa S.slots.length sc]) 10 (by kernel_rfl) RA.out.drew (fun hHeld => ?_)
    refine Still.takeBy (i := 0) [] (v := ?v1) (by kernel_rfl) (by kernel_rfl) rfl (by kernel_rfl) (by kernel_rfl) (by kernel_rfl) (fun _ _ _ h => h) (Or.inl ⟨by rfl, ?y1⟩) hHeld ?r1
    case y1 => (intro w' hSw; (try dsimp only at hSw); have q0 := hSw.cell (j := 0) (v := .slice pa S.parts.length pc) rfl; have q1 := hSw.cell (j := 1) (v := .slice ka S.chans.length kc) rfl; clear hSw; go_simp; try with_reducible rfl)
    simp only [Act.put, List.getElem_toArray, List.getElem_cons_zero, List.getElem_cons_succ, List.setIfInBounds_toArray, List.set_cons_zero, List.set_cons_succ]
    refine Still.takeBy (i := 1) [] (v := ?v2) (by kernel_rfl) (by kernel_rfl) rfl (by kernel_rfl) (by kernel_rfl) (by kernel_rfl) (fun _ _ _ h => h) (Or.inl ⟨by rfl, ?y2⟩) hHeld ?r2
    case y2 => (intro w' hSw; (try dsimp only at hSw); have q0 := hSw.cell (j := 0) (v := .slice pa S.parts.length pc) rfl; have q1 := hSw.cell (j := 1) (v := .slice ka S.chans.length kc) rfl; clear hSw; go_simp; try with_reducible rfl)
    simp only [Act.put, List.getElem_toArray, List.getElem_cons_zero, List.getElem_cons_succ, List.setIfInBounds_toArray, List.set_cons_zero, List.set_cons_succ]
    refine Still.takeBy (i := 2) [] (v := ?v3) (by kernel_rfl) (by kernel_rfl) rfl (by kernel_rfl) (by kernel_rfl) (by kernel_rfl) (fun _ _ _ h => h) (Or.inl ⟨by rfl, ?y3⟩) hHeld ?r3
    case y3 => (intro w' hSw; (try dsimp only at hSw); have q0 := hSw.cell (j := 0) (v := .slice pa S.parts.length pc) rfl; have q1 := hSw.cell (j := 1) (v := .slice ka S.chans.length kc) rfl; clear hSw; go_simp; try with_reducible rfl)
    simp only [Act.put, List.getElem_toArray, List.getElem_cons_zero, List.getElem_cons_succ, List.setIfInBounds_toArray, List.set_cons_zero, List.set_cons_succ]
    refine Still.takeBy (i := 4) [] (v := ?v4) (by kernel_rfl) (by kernel_rfl) rfl (by kernel_rfl) (by kernel_rfl) (by kernel_rfl) (fun _ _ _ h => h) (Or.inl ⟨by rfl, ?y4⟩) hHeld ?r4
    case y4 => (intro w' hSw; (try dsimp only at hSw); have q0 := hSw.cell (j := 0) (v := .slice pa S.parts.length pc) rfl; have q1 := hSw.cell (j := 1) (v := .slice ka S.chans.length kc) rfl; clear hSw; go_simp; try with_reducible rfl)
    simp only [Act.put, List.getElem_toArray, List.getElem_cons_zero, List.getElem_cons_succ, List.setIfInBounds_toArray, List.set_cons_zero, List.set_cons_succ]
    refine Still.takeBy (i := 5) [] (v := ?v5) (by kernel_rfl) (by kernel_rfl) rfl (by kernel_rfl) (by kernel_rfl) (by kernel_rfl) (fun _ _ _ h => h) (Or.inl ⟨by rfl, ?y5⟩) hHeld ?r5
    case y5 => (intro w' hSw; (try dsimp only at hSw); have q0 := hSw.cell (j := 0) (v := .slice pa S.parts.length pc) rfl; have q1 := hSw.cell (j := 1) (v := .slice ka S.chans.length kc) rfl; clear hSw; go_simp; try with_reducible rfl)
    simp only [Act.put, List.getElem_toArray, List.getElem_cons_zero, List.getElem_cons_succ, List.setIfInBounds_toArray, List.set_cons_zero, List.set_cons_succ]
    refine Still.takeBy (i := 6) [] (v := ?v6) (by kernel_rfl) (by kernel_rfl) rfl (by kernel_rfl) (by kernel_rfl) (by kernel_rfl) (fun _ _ _ h => h) (Or.inl ⟨by rfl, ?y6⟩) hHeld ?r6
    case y6 => (intro w' hSw; (try dsimp only at hSw); have q0 := hSw.cell (j := 0) (v := .slice pa S.parts.length pc) rfl; have q1 := hSw.cell (j := 1) (v := .slice ka S.chans.length kc) rfl; clear hSw; go_simp; try with_reducible rfl)
    simp only [Act.put, List.getElem_toArray, List.getElem_cons_zero, List.getElem_cons_succ, List.setIfInBounds_toArray, List.set_cons_zero, List.set_cons_succ]
    have M0 := Lib.hid (Bg.begin w1 S.parts.length S.chans.length)
    generalize World.drew _ = Y0 at M0 hHeld ⊢
    refine Still.all (rs := [3, 7]) (by kernel_rfl) (by simp) (Still.one (i := 3) rfl rfl (fun K hK => ?_) (Still.one (i := 7) rfl rfl (fun K hK => ?_) (by simp)))
    · refine wp_make _ _ 27 rfl 62 i1 _ 16 144 Tryd.underlying27 hi1 hy0 hy1 hy2 S.parts.length (by first | rfl | simp [Act.eval, Act.put]) (by first | rfl | simp [Act.eval, Act.put]) (by omega) (by omega) ?_
      have m := M0.out.cells
      rw [show Value.cells (.agg (celZ.cs (.slice none 0 0))) = celZ.cs (.slice none 0 0) from rfl]
      refine hK _ _ (fun _ => Rw.up (B := Y0.heap.size) hHeld ((Below.refl _ _).alloc (Nat.le_refl _) _) (Rw.lt hHeld)) (fun hh => ?_)
      have hHeld := hh (by decide)
      clear hK K hh
      try simp only [Act.put, List.getElem_toArray, List.getElem_cons_zero, List.getElem_cons_succ, List.setIfInBounds_toArray, List.set_cons_zero, List.set_cons_succ]
      generalize World.alloc _ _ = Y1 at m hHeld ⊢
      have M1 := Lib.hid m
      clear m M0
      refine Still.all (rs := [7]) (by kernel_rfl) (by simp) (Still.one (i := 7) rfl rfl (fun K hK => ?_) (by simp))
      refine wp_make _ _ 28 rfl 65 i2 _ 1 24 Tryd.underlying28 hi2 hx0 hx1 hx2 S.chans.length (by first | rfl | simp [Act.eval, Act.put]) (by first | rfl | simp [Act.eval, Act.put]) (by omega) (by omega) ?_
      have m := M1.out.lines
      rw [show Value.cells (.agg #[.slice none 0 0]) = #[.slice none 0 0] from rfl]
      refine hK _ _ (fun _ => Rw.up (B := Y1.heap.size) hHeld ((Below.refl _ _).alloc (Nat.le_refl _) _) (Rw.lt hHeld)) (fun hh => ?_)
      have hHeld := hh (by decide)
      clear hK K hh
      try simp only [Act.put, List.getElem_toArray, List.getElem_cons_zero, List.getElem_cons_succ, List.setIfInBounds_toArray, List.set_cons_zero, List.set_cons_succ]
      generalize World.alloc _ _ = Y2 at m hHeld ⊢
      have M2 := Lib.hid m
      clear m M1
      refine Still.takeBy (i := 8) [] (v := ?v221) (by kernel_rfl) (by kernel_rfl) rfl (by kernel_rfl) (by kernel_rfl) (by kernel_rfl) (fun _ _ _ h => h) (Or.inl ⟨by rfl, ?y221⟩) hHeld ?r221
      case y221 => (intro w' hSw; (try dsimp only at hSw); go_simp; try with_reducible rfl)
      simp only [Act.put, List.getElem_toArray, List.getElem_cons_zero, List.getElem_cons_succ, List.setIfInBounds_toArray, List.set_cons_zero, List.set_cons_succ]
      refine Still.all (rs := [9]) (by kernel_rfl) (by simp) (Still.one (i := 9) rfl rfl (fun K hK => ?_) (by simp))
      refine wp_store_row 30 _ _ rfl (w.heap.size + 1) #[.int .i64 0, (.slice (some ⟨Y0.heap.size, 0, none⟩) S.parts.length S.parts.length), (.slice (some ⟨Y1.heap.size, 0, none⟩) S.chans.length S.chans.length)] (by first | rfl | simp [Act.eval, Act.put]) (by first | rfl | simp [Act.eval, Act.put]) 30 #[.int .i64 0, .slice none 0 0, .slice none 0 0] (RB.out.up M2.out.d RB.out.lt) sizeWld rfl (world_one _ _ _ _ _ _ _) ?_
      refine hK _ _ (fun _ => Rw.row_other hHeld _ (by omega)) (fun hh => ?_)
      have hHeld := hh (by decide)
      clear hK K hh
      try simp only [Act.put, List.getElem_toArray, List.getElem_cons_zero, List.getElem_cons_succ, List.setIfInBounds_toArray, List.set_cons_zero, List.set_cons_succ]
      refine Still.all (rs := [10]) (by kernel_rfl) (by simp) (Still.one (i := 10) rfl rfl (fun K hK => ?_) (by simp))
      go_simp
      refine hK _ _ (fun h => absurd rfl h) (fun _ => ?_)
      clear hK K
      refine Still.over (by kernel_rfl) ?_ _
      clear hHeld
      go_wp2
      refine bodyPost_ret (results_row_tmp Tryd.results58 _ _ (w.heap.size + 1) _ _ rfl rfl (run_loadVar_row _ _ 30 _ #[.int .i64 0, (.slice (some ⟨Y0.heap.size, 0, none⟩) S.parts.length S.parts.length), (.slice (some ⟨Y1.heap.size, 0, none⟩) S.chans.length S.chans.length)] (0, 0) _ (Rw.row (RB.out.up M2.out.d RB.out.lt) _) Tryd.underlying30 rfl sizeWld)) rfl ⟨(.slice (some ⟨Y0.heap.size, 0, none⟩) S.parts.length S.parts.length), (.slice (some ⟨Y1.heap.size, 0, none⟩) S.chans.length S.chans.length), by rw [← HD.out]; rfl, by rw [← HD.out]; exact M2.out.done RB.out.lt (by omega) _, below_row (HB.out.trans (M2.out.d.mono (by omega))) (by omega) _⟩
    · refine wp_make _ _ 28 rfl 65 i2 _ 1 24 Tryd.underlying28 hi2 hx0 hx1 hx2 S.chans.length (by first | rfl | simp [Act.eval, Act.put]) (by first | rfl | simp [Act.eval, Act.put]) (by omega) (by omega) ?_
      have m := M0.out.lines
      rw [show Value.cells (.agg #[.slice none 0 0]) = #[.slice none 0 0] from rfl]
      refine hK _ _ (fun _ => Rw.up (B := Y0.heap.size) hHeld ((Below.refl _ _).alloc (Nat.le_refl _) _) (Rw.lt hHeld)) (fun hh => ?_)
      have hHeld := hh (by decide)
      clear hK K hh
      try simp only [Act.put, List.getElem_toArray, List.getElem_cons_zero, List.getElem_cons_succ, List.setIfInBounds_toArray, List.set_cons_zero, List.set_cons_succ]
      generalize World.alloc _ _ = Y1 at m hHeld ⊢
      have M1 := Lib.hid m
      clear m M0
      refine Still.all (rs := [3]) (by kernel_rfl) (by simp) (Still.one (i := 3) rfl rfl (fun K hK => ?_) (by simp))
      refine wp_make _ _ 27 rfl 62 i1 _ 16 144 Tryd.underlying27 hi1 hy0 hy1 hy2 S.parts.length (by first | rfl | simp [Act.eval, Act.put]) (by first | rfl | simp [Act.eval, Act.put]) (by omega) (by omega) ?_
      have m := M1.out.cells
      rw [show Value.cells (.agg (celZ.cs (.slice none 0 0))) = celZ.cs (.slice none 0 0) from rfl]
      refine hK _ _ (fun _ => Rw.up (B := Y1.heap.size) hHeld ((Below.refl _ _).alloc (Nat.le_refl _) _) (Rw.lt hHeld)) (fun hh => ?_)
      have hHeld := hh (by decide)
      clear hK K hh
      try simp only [Act.put, List.getElem_toArray, List.getElem_cons_zero, List.getElem_cons_succ, List.setIfInBounds_toArray, List.set_cons_zero, List.set_cons_succ]
      generalize World.alloc _ _ = Y2 at m hHeld ⊢
      have M2 := Lib.hid m
      clear m M1
      refine Still.takeBy (i := 8) [] (v := ?v231) (by kernel_rfl) (by kernel_rfl) rfl (by kernel_rfl) (by kernel_rfl) (by kernel_rfl) (fun _ _ _ h => h) (Or.inl ⟨by rfl, ?y231⟩) hHeld ?r231
      case y231 => (intro w' hSw; (try dsimp only at hSw); go_simp; try with_reducible rfl)
      simp only [Act.put, List.getElem_toArray, List.getElem_cons_zero, List.getElem_cons_succ, List.setIfInBounds_toArray, List.set_cons_zero, List.set_cons_succ]
      refine Still.all (rs := [9]) (by kernel_rfl) (by simp) (Still.one (i := 9) rfl rfl (fun K hK => ?_) (by simp))
      refine wp_store_row 30 _ _ rfl (w.heap.size + 1) #[.int .i64 0, (.slice (some ⟨Y1.heap.size, 0, none⟩) S.parts.length S.parts.length), (.slice (some ⟨Y0.heap.size, 0, none⟩) S.chans.length S.chans.length)] (by first | rfl | simp [Act.eval, Act.put]) (by first | rfl | simp [Act.eval, Act.put]) 30 #[.int .i64 0, .slice none 0 0, .slice none 0 0] (RB.out.up M2.out.d RB.out.lt) sizeWld rfl (world_one _ _ _ _ _ _ _) ?_
      refine hK _ _ (fun _ => Rw.row_other hHeld _ (by omega)) (fun hh => ?_)
      have hHeld := hh (by decide)
      clear hK K hh
      try simp only [Act.put, List.getElem_toArray, List.getElem_cons_zero, List.getElem_cons_succ, List.setIfInBounds_toArray, List.set_cons_zero, List.set_cons_succ]
      refine Still.all (rs := [10]) (by kernel_rfl) (by simp) (Still.one (i := 10) rfl rfl (fun K hK => ?_) (by simp))
      go_simp
      refine hK _ _ (fun h => absurd rfl h) (fun _ => ?_)
      clear hK K
      refine Still.over (by kernel_rfl) ?_ _
      clear hHeld
      go_wp2
      refine bodyPost_ret (results_row_tmp Tryd.results58 _ _ (w.heap.size + 1) _ _ rfl rfl (run_loadVar_row _ _ 30 _ #[.int .i64 0, (.slice (some ⟨Y1.heap.size, 0, none⟩) S.parts.length S.parts.length), (.slice (some ⟨Y0.heap.size, 0, none⟩) S.chans.length S.chans.length)] (0, 0) _ (Rw.row (RB.out.up M2.out.d RB.out.lt) _) Tryd.underlying30 rfl sizeWld)) rfl ⟨(.slice (some ⟨Y1.heap.size, 0, none⟩) S.parts.length S.parts.length), (.slice (some ⟨Y0.heap.size, 0, none⟩) S.chans.length S.chans.length), by rw [← HD.out]; rfl, by rw [← HD.out]; exact M2.out.done RB.out.lt (by omega) _, below_row (HB.out.trans (M2.out.d.mono (by omega))) (by omega) _⟩
  · have h0' : (e0 != 0) = true := by simpa using h0
    have HD : Hid (wldZ = D) := by
      show _ = _
      rw [← hD, beginR, if_neg (by rw [hk]; exact h0)]
    clear hk hD h0
    go_enter Tryd.func58, Tryd.ntmps58
    go_wp2_with fail
    refine (HC.out _ (HE.out.up (by repeat (first | exact Below.refl _ _ | assumption | refine Below.drew ?_ | refine Below.alloc ?_ (by first | (simp; done) | (simp; omega)) _ | refine Below.setCell ?_ (by first | (simp; done) | (simp; omega)) _))) (HS.out.up (by repeat (first | exact Below.refl _ _ | assumption | refine Below.drew ?_ | refine Below.alloc ?_ (by first | (simp; done) | (simp; omega)) _ | refine Below.setCell ?_ (by first | (simp; done) | (simp; omega)) _)))).mono ?_
    rintro e w1 ⟨rfl, b1⟩
    have z1 := b1.size
    simp at z1
    have RB : Hid (Rw w1 (w.heap.size + 1) 30 #[.int .i64 0, .slice none 0 0, .slice none 0 0]) := Rw.up (by repeat (first | exact Rw.new _ _ _ (by first | rfl | (simp; done) | omega | (simp; omega)) | refine Rw.alloc ?_ _)) b1 (by first | omega | (simp; done) | (simp; omega))
    have HB : Hid (Below w.heap.size w w1) := by
      refine Below.trans ?_ (b1.mono (by first | omega | (simp; done) | (simp; omega)))
      exact (by repeat (first | exact Below.refl _ _ | assumption | refine Below.drew ?_ | refine Below.alloc ?_ (by first | (simp; done) | (simp; omega)) _ | refine Below.setCell ?_ (by first | (simp; done) | (simp; omega)) _))
    clear b1 HC
    go_wp2_with (refine wpList_store_row rfl 30 (.tmp 2) (.tmp 9) rfl (w.heap.size + 1) #[.int .i64 0, .slice none 0 0, .slice none 0 0] rfl rfl 30 #[.int .i64 0, .slice none 0 0, .slice none 0 0] RB.out sizeWld rfl (world_one _ _ _ _ _ _ _) ?_)
    refine bodyPost_ret (results_row_tmp Tryd.results58 _ _ (w.heap.size + 1) _ _ rfl rfl (run_loadVar_row _ _ 30 _ #[.int .i64 0, .slice none 0 0, .slice none 0 0] (0, 0) _ (RB.out.row _) Tryd.underlying30 rfl sizeWld)) rfl ⟨.slice none 0 0, .slice none 0 0, by rw [← HD.out]; rfl, by rw [← HD.out]; exact WldF.nil _ _, below_row HB.out (by omega) _⟩
end Go.Proofs.YtnnnljfdjdehaaaDoor

namespace Go.Proofs.YtnnnljfdjdehaaaDoor
set_option linter.unusedSimpArgs false
set_option linter.unusedVariables false
open Go.RowKit Go.Sort

theorem NewV.fl {B G : Nat} {w : World} {vc vl : Value} {D : WldD} (h : NewV B G w vc vl D.cells D.lines) : WldF B w vc vl D := by
  obtain ⟨⟨ps, p1, p2, p3⟩, ⟨vs, q1, q2, q3⟩, a⟩ := h
  exact ⟨⟨ps, p1, own_sl p2, fun k hk hk' => ⟨(p3 k hk hk').1, (p3 k hk hk').2.1, fun b e => ⟨((p3 k hk hk').2.2 b e).1.1, ((p3 k hk hk').2.2 b e).2.2.1⟩⟩⟩, ⟨vs, q1, own_sl q2, fun k hk hk' => ⟨(q3 k hk hk').1, fun b e => ⟨((q3 k hk hk').2 b e).1.1, ((q3 k hk hk').2 b e).2.2.1⟩⟩⟩, fun b e => own_block p2 b e, fun b e => ⟨own_block q2 b e, fun e' => a b e' e⟩, fun g e => by
    rcases p2.2 with ⟨h1, _⟩ | ⟨g', cap, cur, h1, _, hh, _⟩
    · rw [h1] at e; cases e
    · rw [h1] at e
      simp [Value.ownBlock] at e
      subst e
      exact ⟨cur, hh⟩⟩
theorem lifted_catch (V : World) (g4 g5 : Nat) (hne : g4 ≠ g5) (cs : Array Value) (hcs : cs.size = 3) (b : Bool) (u : TypeId) (pv : Value) (older : List PanicEntry) (h4 : Rw V g4 30 cs) (h5 : Rw V g5 4 #[.bool b]) :
    CallsD Tryd.prog 54 #[.pointer (some ⟨g4, 0, none⟩), .pointer (some ⟨g5, 0, none⟩)] (.panicking ({ v := .iface u pv, recovered := false } :: older)) V fun e u' V' =>
      e = .returned (.tuple #[]) ∧ u' = .panicking ({ v := .iface u pv, recovered := true } :: older) ∧ V' = (V.setRow g4 #[.int .i64 0, .slice none 0 0, .slice none 0 0]).setCell ⟨g5, 0, none⟩ (.bool false) := by
  have k5 : (V.setRow g4 #[.int .i64 0, .slice none 0 0, .slice none 0 0]).cell? ⟨g5, 0, none⟩ = some (.bool b) := (h5.row_other _ (fun e => hne e.symm)).cell rfl
  have f5 : (V.setRow g4 #[.int .i64 0, .slice none 0 0, .slice none 0 0]).frozen? ⟨g5, 0, none⟩ = false := (h5.row_other _ (fun e => hne e.symm)).fr 0
  refine callsD_of_wpS Tryd.func54 rfl fun c₀ fs hu => ?_
  apply wpS_seq
  apply wpS_region
  simp [wpOpsS, go_sem, recoverD, hu, Tryd.ntmps54, Exit.thenS]
  refine wpS_cond (t := true) (by simp [Act.eval, Array.replicate]) ?_
  simp only [if_true]
  refine wpS_of_wp ?_
  go_wp2_with (refine wpList_store_row rfl 30 (.tmp 0) (.tmp 4) rfl g4 #[.int .i64 0, .slice none 0 0, .slice none 0 0] rfl rfl 30 _ h4 sizeWld hcs (by simp [Value.oneCell']) ?_)
  simp [bodyPostS, results, Tryd.results54]
theorem lifted_idle (V : World) (g4 g5 : Nat) :
    CallsD Tryd.prog 54 #[.pointer (some ⟨g4, 0, none⟩), .pointer (some ⟨g5, 0, none⟩)] .returning V fun e u' V' => e = .returned (.tuple #[]) ∧ u' = .returning ∧ V' = V := by
  refine callsD_of_wpS Tryd.func54 rfl fun c₀ cs hu => ?_
  apply wpS_seq
  apply wpS_region
  simp [wpOpsS, go_sem, recoverD, hu, Tryd.ntmps54, Exit.thenS]
  refine wpS_cond (t := false) (by simp [Act.eval, Array.replicate]) ?_
  simp only [Bool.false_eq_true, if_false]
  refine wpS_of_wp (wp_skip ?_)
  cases c₀
  simp_all [bodyPostS, results, Tryd.results54]
theorem WldF.setC {B : Nat} {w : World} {vc vl : Value} {D : WldD} (h : WldF B w vc vl D) {x : Nat} (hx : x < B) (i : Nat) (u : Value) : WldF B (w.setCell ⟨x, i, none⟩ u) vc vl D := by
  obtain ⟨⟨ps, p1, p2, p3⟩, ⟨vs, q1, q2, q3⟩, bc, bl, fz⟩ := h
  exact ⟨⟨ps, p1, p2.set u (bc.ne hx), fun k hk hk' => ⟨(p3 k hk hk').1, (p3 k hk hk').2.1.set u ((p3 k hk hk').2.2.ne hx), (p3 k hk hk').2.2⟩⟩, ⟨vs, q1, q2.set u (bl.ne hx), fun k hk hk' => ⟨(q3 k hk hk').1.set u ((q3 k hk hk').2.ne hx), (q3 k hk hk').2⟩⟩, bc, bl, fun g e => let ⟨c, hc⟩ := fz g e; ⟨c, hc.set_other _ (fun e' => bc.ne hx (e.trans (congrArg some e')))⟩⟩
theorem Rdr.row {w W : World} {g : Nat} {xs : List Int} (h : Rdr w W g xs) {c : Nat} (cs : Array Value) (hc : c ≠ g) (hw : w.heap.size ≤ c) : Rdr w (W.setRow c cs) g xs :=
  let ⟨u, h1, h2⟩ := h.r
  ⟨⟨u, h1.row_other cs (fun e => hc e.symm), h2⟩, below_row h.b hw cs, h.g⟩
/-- Where lifted stands. -/
structure Lf (w W : World) (sr cs : Array Value) (q : List Int) : Prop where
  r0 : Rw W w.heap.size 26 sr
  r4 : Rw W (w.heap.size + 1) 30 cs
  r5 : Rw W (w.heap.size + 2) 4 #[.bool false]
  rd : Rdr w W (w.heap.size + 3) q
theorem Lf.z {w W : World} {sr cs : Array Value} {q : List Int} (h : Lf w W sr cs q) : w.heap.size + 3 < W.heap.size := by
  obtain ⟨u, hr, _⟩ := h.rd.r
  exact hr.lt
theorem Lf.call {w W W' : World} {sr cs : Array Value} {q q' : List Int} (h : Lf w W sr cs q) (ho : One (w.heap.size + 3) W W') (hr : Rdr w W' (w.heap.size + 3) q') : Lf w W' sr cs q' :=
  ⟨ho.rw h.r0 (by omega), ho.rw h.r4 (by omega), ho.rw h.r5 (by omega), hr⟩
theorem Lf.up {w W W' : World} {sr cs : Array Value} {q : List Int} (h : Lf w W sr cs q) (hb : Below W.heap.size W W') : Lf w W' sr cs q :=
  ⟨h.r0.up hb h.r0.lt, h.r4.up hb h.r4.lt, h.r5.up hb h.r5.lt, h.rd.up hb⟩
theorem Lf.store {w W : World} {sr cs : Array Value} {q : List Int} (h : Lf w W sr cs q) (cs' : Array Value) : Lf w (W.setRow (w.heap.size + 1) cs') sr cs' q :=
  ⟨h.r0.row_other _ (by omega), h.r4.row _, h.r5.row_other _ (by omega), h.rd.row _ (by omega) (by omega)⟩
theorem loadBool {w : World} {g : Nat} {b : Bool} (h : w.cell? ⟨g, 0, none⟩ = some (.bool b)) : (loadVar 4 ⟨g, 0, none⟩).run Tryd.prog w = .ok (.bool b) w := by
  simp [go_sem, h]
/-- What panics is recovered. -/
theorem lifted_out {R : Ending → World → Prop} {tmps : Array Value} {w V : World} {cs : Array Value} (hcs : cs.size = 3) (h4 : Rw V (w.heap.size + 1) 30 cs) (h5 : Rw V (w.heap.size + 2) 4 #[.bool false]) (hb : Below w.heap.size w V)
    (t4 : tmps.getD 4 undef = .pointer (some ⟨w.heap.size + 1, 0, none⟩)) (t5 : tmps.getD 5 undef = .pointer (some ⟨w.heap.size + 2, 0, none⟩))
    (hR : ∀ w', Below w.heap.size w w' → R (.returned (.tuple #[.agg #[.int .i64 0, .slice none 0 0, .slice none 0 0], .bool false])) w') :
    Leaves Tryd.prog Tryd.f30 tmps R [{ target := .fn (.func 54) #[.pointer (some ⟨w.heap.size + 1, 0, none⟩), .pointer (some ⟨w.heap.size + 2, 0, none⟩)], args := #[] }] (.panicking wrongE) V := by
  refine leaves_cons (f := 54) (args := #[.pointer (some ⟨w.heap.size + 1, 0, none⟩), .pointer (some ⟨w.heap.size + 2, 0, none⟩)]) (by simp) (by simp [go_sem]) ?_
  refine (lifted_catch V _ _ (by omega) cs hcs false _ _ [] h4 h5).mono ?_
  rintro e u' V2 ⟨rfl, rfl, hV⟩
  subst hV
  have r4 := (h4.row #[.int .i64 0, .slice none 0 0, .slice none 0 0]).set_other (a := ⟨w.heap.size + 2, 0, none⟩) (.bool false) (by simp)
  have r5 := (h5.row_other (g' := w.heap.size + 1) #[.int .i64 0, .slice none 0 0, .slice none 0 0] (by omega)).set 0 (.bool false)
  refine ⟨.tuple #[.agg #[.int .i64 0, .slice none 0 0, .slice none 0 0], .bool false], results_row2 Tryd.results30 _ _ (w.heap.size + 1) (w.heap.size + 2) _ _ t4 t5 (run_loadVar_row _ _ 30 _ #[.int .i64 0, .slice none 0 0, .slice none 0 0] (0, 0) _ r4 Tryd.underlying30 rfl sizeWld) (loadBool (r5.cell (j := 0) rfl)), ?_⟩
  exact hR _ ((below_row hb (by omega) _).setCell (by simp) _)
set_option maxRecDepth 100000 in
set_option maxHeartbeats 8000000 in
theorem lifted_any (S : SysD) (hs : chkS S = 0) (l : List Int) (vp vc vs u : Value) (w : World) (he : Env w) (hS : Sys w vp vc vs S) (hl : Sl w 1 u l.length (ints l)) :
    Calls Tryd.prog 30 #[.agg #[vp, vc, vs], u] w fun e w' => (liftD S l = none ∧ e = .returned (.tuple #[.agg #[.int .i64 0, .slice none 0 0, .slice none 0 0], .bool false]) ∧ Below w.heap.size w w') ∨
      (∃ D, liftD S l = some D ∧ ∃ uc ul, e = .returned (.tuple #[.agg #[.int .i64 D.tick, uc, ul], .bool true]) ∧ WldF w.heap.size w' uc ul D ∧ Below w.heap.size w w') := by
  obtain ⟨pa, pc, rfl⟩ := hS.p.form
  obtain ⟨ka, kc, rfl⟩ := hS.c.form
  obtain ⟨sa, sc, rfl⟩ := hS.s.form
  obtain ⟨la, lc, rfl⟩ := hl.form
  obtain ⟨hp4, hc6⟩ := countsS hs
  have hmf : ∀ (fn : Go.Fn) (first cap : Array Value) (w : World), (Instr.makeFunc fn first cap).run Tryd.prog w = .ok (.func fn first cap) w := fun _ _ _ _ => rfl
  have HE := Lib.hid he
  have HS := Lib.hid hS
  have HL := Lib.hid hl
  clear he hS hl hs
  go_enter_defers Tryd.func30, Tryd.ntmps30
  go_upto_region 3 with fail
  generalize hX : World.alloc _ _ = X
  have hXX : X = (((w.alloc (.cells #[.slice pa S.parts.length pc, .slice ka S.chans.length kc, .slice sa S.slots.length sc] 26)).alloc (.cells #[.int .i64 0, .slice none 0 0, .slice none 0 0] 30)).alloc (.cells #[.bool false] 4)).alloc (.cells #[.slice la l.length lc] 99) := by rw [← hX]
  have D0 : Below w.heap.size w X := by rw [hXX]; exact (by repeat (first | exact Below.refl _ _ | assumption | refine Below.drew ?_ | refine Below.alloc ?_ (by first | (simp; done) | (simp; omega)) _ | refine Below.setCell ?_ (by first | (simp; done) | (simp; omega)) _))
  have HF : Hid (Lf w X #[.slice pa S.parts.length pc, .slice ka S.chans.length kc, .slice sa S.slots.length sc] #[.int .i64 0, .slice none 0 0, .slice none 0 0] l) := Lib.hid ⟨by rw [hXX]; exact (by repeat (first | exact Rw.new _ _ _ (by first | rfl | (simp; done) | omega | (simp; omega)) | refine Rw.alloc ?_ _)), by rw [hXX]; exact (by repeat (first | exact Rw.new _ _ _ (by first | rfl | (simp; done) | omega | (simp; omega)) | refine Rw.alloc ?_ _)), by rw [hXX]; exact (by repeat (first | exact Rw.new _ _ _ (by first | rfl | (simp; done) | omega | (simp; omega)) | refine Rw.alloc ?_ _)), ⟨_, by rw [hXX]; exact (by repeat (first | exact Rw.new _ _ _ (by first | rfl | (simp; done) | omega | (simp; omega)) | refine Rw.alloc ?_ _)), HL.out⟩, D0, by omega⟩
  have s0 := HF.out.r0.cell (j := 0) (v := .slice pa S.parts.length pc) rfl
  have s1 := HF.out.r0.cell (j := 1) (v := .slice ka S.chans.length kc) rfl
  have HD := Lib.hid D0
  clear hX hXX D0 HL
  go_wp2_with fail
  refine (rworld_any S.parts.length S.chans.length hp4 hc6 w X (w.heap.size + 3) l HF.out.rd).mono ?_
  rintro e w1 (⟨hn, rfl, hb⟩ | ⟨D, r, hn, uc, ul, rfl, hN, hr, ho⟩)
  · have HN : Hid (liftD S l = none) := Lib.hid (by unfold liftD; rw [hn])
    exact lifted_out rfl (HF.out.r4.up hb (by omega)) (HF.out.r5.up hb (by omega)) (HD.out.trans (hb.mono (by omega))) rfl rfl fun w' h => .inl ⟨HN.out, rfl, h⟩
  have F1 := Lib.hid (HF.out.call ho hr)
  have D1 := Lib.hid (HD.out.trans (ho.b.mono (by omega)))
  have zX := HF.out.z
  have N1 := Lib.hid hN
  have HWD := Lib.hid hn
  obtain ⟨a5, c5, rfl⟩ := hN.formC
  obtain ⟨a6, c6, rfl⟩ := hN.formL
  clear HF HD hr ho hN s0 s1 hn
  go_wp2_with (refine wpList_store_rowW rfl 30 (.tmp 4) (.tmp 16) rfl (w.heap.size + 1) #[.int .i64 D.tick, .slice a5 D.cells.length c5, .slice a6 D.lines.length c6] rfl rfl 30 #[.int .i64 0, .slice none 0 0, .slice none 0 0] F1.out.r4 sizeWld rfl (by simp [Value.oneCell']) ?_)
  intro W2 HW2
  have F2 : Hid (Lf w W2 #[.slice pa S.parts.length pc, .slice ka S.chans.length kc, .slice sa S.slots.length sc] #[.int .i64 D.tick, .slice a5 D.cells.length c5, .slice a6 D.lines.length c6] r) := Lib.hid (by rw [HW2.out]; exact F1.out.store _)
  have N2 : Hid (WldF X.heap.size W2 (.slice a5 D.cells.length c5) (.slice a6 D.lines.length c6) D) := Lib.hid (by rw [HW2.out]; exact N1.out.fl.row (by omega) _)
  have D2 : Hid (Below w.heap.size w W2) := Lib.hid (by rw [HW2.out]; exact below_row D1.out (by omega) _)
  clear F1 N1 D1 HW2
  obtain ⟨v6, r6, s6⟩ := F2.out.rd.r
  obtain ⟨ra, rc, rfl⟩ := s6.form
  have q6 := r6.cell (j := 0) (v := .slice ra r.length rc) rfl
  clear r6 s6
  by_cases hr0 : r = []
  rotate_left
  · have hne : ((r.length : Int) == 0) = false := by cases r with | nil => exact absurd rfl hr0 | cons x r => simp; omega
    have HN : Hid (liftD S l = none) := Lib.hid (by unfold liftD; rw [HWD.out]; cases r with | nil => exact absurd rfl hr0 | cons x r => rfl)
    go_wp2_with fail
    refine (must_no _).mono ?_
    rintro e w3 ⟨rfl, hw⟩
    subst hw
    exact lifted_out rfl F2.out.r4 F2.out.r5 D2.out rfl rfl fun w' h => .inl ⟨HN.out, rfl, h⟩
  · subst hr0
    go_wp2_with fail
    refine (must_yes _).mono ?_
    rintro e w3 ⟨rfl, hw⟩
    subst hw
    clear q6
    have s0 := F2.out.r0.cell (j := 0) (v := .slice pa S.parts.length pc) rfl
    have s1 := F2.out.r0.cell (j := 1) (v := .slice ka S.chans.length kc) rfl
    have s2 := F2.out.r0.cell (j := 2) (v := .slice sa S.slots.length sc) rfl
    have q0 := F2.out.r4.cell (j := 0) (v := .int .i64 D.tick) rfl
    have q1 := F2.out.r4.cell (j := 1) (v := .slice a5 D.cells.length c5) rfl
    have q2 := F2.out.r4.cell (j := 2) (v := .slice a6 D.lines.length c6) rfl
    go_wp2_with fail
    refine (kernCheck_any S D _ _ _ _ _ _ (HE.out.up D2.out) (HS.out.up D2.out) N2.out.wld).mono ?_
    rintro e w4 ⟨rfl, b4⟩
    have F4 := Lib.hid (F2.out.up b4)
    have N4 := Lib.hid (N2.out.up b4)
    have z3 := D2.out.size
    have D4 := Lib.hid (D2.out.trans (b4.mono z3))
    clear s0 s1 s2 q0 q1 q2 b4 F2 N2 D2
    by_cases hk : chkW S D = 0
    · have hkb : (chkW S D == 0) = true := by simp [hk]
      have HY : Hid (liftD S l = some D) := Lib.hid (by unfold liftD; rw [HWD.out]; simp only [if_pos hk])
      clear hk
      go_wp2_with fail
      refine (must_yes _).mono ?_
      rintro e w5 ⟨rfl, hw⟩
      subst hw
      have q0 := F4.out.r4.cell (j := 0) (v := .int .i64 D.tick) rfl
      have q1 := F4.out.r4.cell (j := 1) (v := .slice a5 D.cells.length c5) rfl
      have q2 := F4.out.r4.cell (j := 2) (v := .slice a6 D.lines.length c6) rfl
      have r5 := F4.out.r5.row_other (g' := w.heap.size + 1) #[.int .i64 D.tick, .slice a5 D.cells.length c5, .slice a6 D.lines.length c6] (by omega)
      have k5 := r5.cell (j := 0) (v := .bool false) rfl
      have f5 := r5.fr 0
      go_wp2_with (first | (refine wpList_store_row rfl 30 (.tmp 4) (.tmp 27) rfl (w.heap.size + 1) #[.int .i64 D.tick, .slice a5 D.cells.length c5, .slice a6 D.lines.length c6] rfl rfl 30 _ F4.out.r4 sizeWld rfl (by simp [Value.oneCell']) ?_))
      refine leaves_cons (f := 54) (args := #[.pointer (some ⟨w.heap.size + 1, 0, none⟩), .pointer (some ⟨w.heap.size + 2, 0, none⟩)]) (by simp) (by simp [go_sem]) ?_
      refine (lifted_idle _ _ _).mono ?_
      rintro e u' V2 ⟨rfl, rfl, hV⟩
      subst hV
      have R4 := (F4.out.r4.row #[.int .i64 D.tick, .slice a5 D.cells.length c5, .slice a6 D.lines.length c6]).set_other (a := ⟨w.heap.size + 2, 0, none⟩) (.bool true) (by simp)
      have R5 := r5.set 0 (.bool true)
      refine ⟨.tuple #[.agg #[.int .i64 D.tick, .slice a5 D.cells.length c5, .slice a6 D.lines.length c6], .bool true], results_row2 Tryd.results30 _ _ (w.heap.size + 1) (w.heap.size + 2) _ _ rfl rfl (run_loadVar_row _ _ 30 _ _ (0, 0) _ R4 Tryd.underlying30 rfl sizeWld) (loadBool (R5.cell (j := 0) rfl)), ?_⟩
      exact .inr ⟨D, HY.out, _, _, rfl, ((N4.out.row (by omega) _).setC (by omega) _ _).low (by omega), (below_row D4.out (by omega) _).setCell (by simp; omega) _⟩
    · have hkb : (chkW S D == 0) = false := by simpa using hk
      have HN : Hid (liftD S l = none) := Lib.hid (by unfold liftD; rw [HWD.out]; simp only [if_neg hk])
      clear hk
      go_wp2_with fail
      refine (must_no _).mono ?_
      rintro e w5 ⟨rfl, hw⟩
      subst hw
      exact lifted_out rfl F4.out.r4 F4.out.r5 D4.out rfl rfl fun w' h => .inl ⟨HN.out, rfl, h⟩
end Go.Proofs.YtnnnljfdjdehaaaDoor

namespace Go.Proofs.YtnnnljfdjdehaaaDoor
set_option linter.unusedSimpArgs false
set_option linter.unusedVariables false
open Go.RowKit Go.Sort

/-- What Lift answers. -/
def liftR (S : SysD) (l : List Int) : WldD := if chkS S = 0 then (liftD S l).getD wldZ else wldZ
def liftW (S : SysD) (l : List Int) : Int := if chkS S ≠ 0 then chkS S else if liftD S l = none then 1 else 0
theorem wldF_nilL (B : Nat) (w : World) : WldF B w (.slice none 0 0) (.slice none 0 0) wldZ := WldF.nil B w
set_option maxRecDepth 100000 in
set_option maxHeartbeats 8000000 in
theorem flatLift_any (S : SysD) (l : List Int) (vp vc vs u : Value) (w : World) (he : Env w) (hS : Sys w vp vc vs S) (hl : Sl w 1 u l.length (ints l)) (v0 : Int) (hv0 : liftW S l = v0) (D' : WldD) (hD' : liftR S l = D') :
    Calls Tryd.prog 10 #[.agg #[vp, vc, vs], u] w fun e w' => ∃ uc ul, e = .returned (.tuple #[.agg #[.int .i64 D'.tick, uc, ul], .int .i64 v0]) ∧ WldF w.heap.size w' uc ul D' ∧ Below w.heap.size w w' := by
  obtain ⟨pa, pc, rfl⟩ := hS.p.form
  obtain ⟨ka, kc, rfl⟩ := hS.c.form
  obtain ⟨sa, sc, rfl⟩ := hS.s.form
  obtain ⟨la, lc, rfl⟩ := hl.form
  have HE := Lib.hid he
  have HS := Lib.hid hS
  have HL := Lib.hid hl
  have HV := Lib.hid hv0
  have HDD := Lib.hid hD'
  clear he hS hl hv0 hD'
  go_enter Tryd.func10, Tryd.ntmps10
  go_wp2_with fail
  refine (confCheck_any S _ _ _ _ (HE.out.up (by repeat (first | exact Below.refl _ _ | assumption | refine Below.drew ?_ | refine Below.alloc ?_ (by first | (simp; done) | (simp; omega)) _ | refine Below.setCell ?_ (by first | (simp; done) | (simp; omega)) _))) (HS.out.up (by repeat (first | exact Below.refl _ _ | assumption | refine Below.drew ?_ | refine Below.alloc ?_ (by first | (simp; done) | (simp; omega)) _ | refine Below.setCell ?_ (by first | (simp; done) | (simp; omega)) _)))).mono ?_
  rintro e w1 ⟨rfl, b1⟩
  have z1 := b1.size
  simp at z1
  have R0 : Hid (Rw w1 w.heap.size 26 #[.slice pa S.parts.length pc, .slice ka S.chans.length kc, .slice sa S.slots.length sc]) := Rw.up (by repeat (first | exact Rw.new _ _ _ (by first | rfl | (simp; done) | omega | (simp; omega)) | refine Rw.alloc ?_ _)) b1 (by first | omega | (simp; done) | (simp; omega))
  have R4 : Hid (Rw w1 (w.heap.size + 1) 30 #[.int .i64 0, .slice none 0 0, .slice none 0 0]) := Rw.up (by repeat (first | exact Rw.new _ _ _ (by first | rfl | (simp; done) | omega | (simp; omega)) | refine Rw.alloc ?_ _)) b1 (by first | omega | (simp; done) | (simp; omega))
  have HB : Hid (Below w.heap.size w w1) := by
    refine Below.trans ?_ (b1.mono (by first | omega | (simp; done) | (simp; omega)))
    exact (by repeat (first | exact Below.refl _ _ | assumption | refine Below.drew ?_ | refine Below.alloc ?_ (by first | (simp; done) | (simp; omega)) _ | refine Below.setCell ?_ (by first | (simp; done) | (simp; omega)) _))
  clear b1
  by_cases hk : chkS S = 0
  · have hkb : (chkS S == 0) = true := by simp [hk]
    have s0 := R0.out.cell (j := 0) (v := .slice pa S.parts.length pc) rfl
    have s1 := R0.out.cell (j := 1) (v := .slice ka S.chans.length kc) rfl
    have s2 := R0.out.cell (j := 2) (v := .slice sa S.slots.length sc) rfl
    have HK := Lib.hid hk
    rw [hk]
    clear hk hkb
    go_wp2_with fail
    refine (lifted_any S HK.out l _ _ _ _ _ (HE.out.up HB.out) (HS.out.up HB.out) (HL.out.up HB.out)).mono ?_
    rintro e w2 (⟨hn, rfl, b2⟩ | ⟨D, hn, uc, ul, rfl, hN, b2⟩)
    · have r4 := Lib.hid (R4.out.up b2 R4.out.lt)
      have z2 := b2.size
      have HB2 := Lib.hid (HB.out.trans (b2.mono (by omega)))
      have e1 : v0 = 1 := by rw [← HV.out]; unfold liftW; rw [if_neg (by rw [HK.out]; simp), if_pos hn]
      have e2 : D' = wldZ := by rw [← HDD.out]; unfold liftR; rw [if_pos HK.out, hn]; rfl
      subst e1
      subst e2
      clear b2 s0 s1 s2 R0 R4 HB HV HDD hn
      go_upto_region 6 with fail
      generalize hW3 : World.alloc _ _ = W3
      have b3 : Below w2.heap.size w2 W3 := by rw [← hW3]; exact (Below.refl _ _).alloc (Nat.le_refl _) _
      have r4b := Lib.hid (r4.out.up b3 r4.out.lt)
      have HB3 := Lib.hid (HB2.out.trans (b3.mono (by omega)))
      clear hW3 b3 r4 HB2
      go_wp2_with (refine wpList_store_rowW rfl 30 (.tmp 4) (.tmp 23) rfl (w.heap.size + 1) #[.int .i64 0, .slice none 0 0, .slice none 0 0] rfl rfl 30 _ r4b.out sizeWld rfl (by simp [Value.oneCell']) ?_)
      intro W4 HW4
      have r5 : Rw W4 (w.heap.size + 1) 30 #[.int .i64 0, .slice none 0 0, .slice none 0 0] := by rw [HW4.out]; exact r4b.out.row _
      have HB4 := Lib.hid (show Below w.heap.size w W4 by rw [HW4.out]; exact below_row HB3.out (by omega) _)
      clear HW4
      go_wp2
      refine bodyPost_ret (results_row_tmp Tryd.results10 _ _ (w.heap.size + 1) _ _ rfl rfl (run_loadVar_row _ _ 30 _ _ (0, 0) _ r5 Tryd.underlying30 rfl sizeWld)) rfl ⟨_, _, rfl, wldF_nilL _ _, HB4.out⟩
    · have e1 : v0 = 0 := by rw [← HV.out]; unfold liftW; rw [if_neg (by rw [HK.out]; simp), if_neg (by rw [hn]; simp)]
      have e2 : D' = D := by rw [← HDD.out]; unfold liftR; rw [if_pos HK.out, hn]; rfl
      subst e1
      subst e2
      obtain ⟨a5, c5, rfl⟩ := hN.wld.c.form
      obtain ⟨a6, c6, rfl⟩ := hN.wld.l.form
      have r4 := Lib.hid (R4.out.up b2 R4.out.lt)
      have z2 := b2.size
      have HB2 := Lib.hid (HB.out.trans (b2.mono (by omega)))
      have HN := Lib.hid hN
      clear b2 s0 s1 s2 R0 R4 HB HV HDD hn hN
      go_wp2_with (refine wpList_store_rowW rfl 30 (.tmp 7) (.tmp 19) rfl w2.heap.size #[.int .i64 D'.tick, .slice a5 D'.cells.length c5, .slice a6 D'.lines.length c6] rfl rfl 30 #[.int .i64 0, .slice none 0 0, .slice none 0 0] (by repeat (first | exact Rw.new _ _ _ (by first | rfl | (simp; done) | omega | (simp; omega)) | refine Rw.alloc ?_ _)) sizeWld rfl (by simp [Value.oneCell']) ?_)
      intro W3 HW3
      have b3 : Below w2.heap.size w2 W3 := by rw [HW3.out]; exact below_row ((Below.refl _ _).alloc (Nat.le_refl _) _) (Nat.le_refl _) _
      have R7 : Hid (Rw W3 w2.heap.size 30 #[.int .i64 D'.tick, .slice a5 D'.cells.length c5, .slice a6 D'.lines.length c6]) := by
        show Rw _ _ _ _
        rw [HW3.out]
        exact Rw.row (cs := #[.int .i64 0, .slice none 0 0, .slice none 0 0]) (by repeat (first | exact Rw.new _ _ _ (by first | rfl | (simp; done) | omega | (simp; omega)) | refine Rw.alloc ?_ _)) _
      have r4b := Lib.hid (r4.out.up b3 r4.out.lt)
      have HB3 := Lib.hid (HB2.out.trans (b3.mono (by omega)))
      have N3 := Lib.hid (HN.out.up b3)
      have q0 := R7.out.cell (j := 0) (v := .int .i64 D'.tick) rfl
      have q1 := R7.out.cell (j := 1) (v := .slice a5 D'.cells.length c5) rfl
      have q2 := R7.out.cell (j := 2) (v := .slice a6 D'.lines.length c6) rfl
      clear HW3 b3 r4 HB2 HN
      go_wp2_with (refine wpList_store_rowW rfl 30 (.tmp 4) (.tmp 24) rfl (w.heap.size + 1) #[.int .i64 D'.tick, .slice a5 D'.cells.length c5, .slice a6 D'.lines.length c6] rfl rfl 30 _ r4b.out sizeWld rfl (by simp [Value.oneCell']) ?_)
      intro W4 HW4
      have r5 : Rw W4 (w.heap.size + 1) 30 #[.int .i64 D'.tick, .slice a5 D'.cells.length c5, .slice a6 D'.lines.length c6] := by rw [HW4.out]; exact r4b.out.row _
      have HB4 := Lib.hid (show Below w.heap.size w W4 by rw [HW4.out]; exact below_row HB3.out (by omega) _)
      have N4 := Lib.hid (show WldF w.heap.size W4 _ _ D' by rw [HW4.out]; exact (N3.out.row (by omega) _).low (by omega))
      clear HW4 q0 q1 q2
      go_wp2
      refine bodyPost_ret (results_row_tmp Tryd.results10 _ _ (w.heap.size + 1) _ _ rfl rfl (run_loadVar_row _ _ 30 _ _ (0, 0) _ r5 Tryd.underlying30 rfl sizeWld)) rfl ⟨_, _, rfl, N4.out, HB4.out⟩
  · have hkb : (chkS S == 0) = false := by simpa using hk
    have e1 : v0 = chkS S := by rw [← HV.out]; unfold liftW; rw [if_pos hk]
    have e2 : D' = wldZ := by rw [← HDD.out]; unfold liftR; rw [if_neg hk]
    subst e1
    subst e2
    clear hk HV HDD R0
    go_wp2_with (refine wpList_store_rowW rfl 30 (.tmp 4) (.tmp 13) rfl (w.heap.size + 1) #[.int .i64 0, .slice none 0 0, .slice none 0 0] rfl rfl 30 _ R4.out sizeWld rfl (by simp [Value.oneCell']) ?_)
    intro W4 HW4
    have r5 : Rw W4 (w.heap.size + 1) 30 #[.int .i64 0, .slice none 0 0, .slice none 0 0] := by rw [HW4.out]; exact R4.out.row _
    have HB4 := Lib.hid (show Below w.heap.size w W4 by rw [HW4.out]; exact below_row HB.out (by omega) _)
    clear HW4
    go_wp2
    refine bodyPost_ret (results_row_tmp Tryd.results10 _ _ (w.heap.size + 1) _ _ rfl rfl (run_loadVar_row _ _ 30 _ _ (0, 0) _ r5 Tryd.underlying30 rfl sizeWld)) rfl ⟨_, _, rfl, wldF_nilL _ _, HB4.out⟩
end Go.Proofs.YtnnnljfdjdehaaaDoor

namespace Go.Proofs.YtnnnljfdjdehaaaDoor
set_option linter.unusedSimpArgs false
set_option linter.unusedVariables false
open Go.RowKit Go.Sort

theorem lineSize_any (w : World) : Calls Tryd.prog 34 #[] w fun e w' => e = .returned (.int .i64 4) ∧ w' = w := by
  go_enter Tryd.func34, Tryd.ntmps34
  go_wp2
  go_ret
  exact ⟨rfl, rfl⟩
set_option maxRecDepth 100000 in
set_option maxHeartbeats 2000000 in
theorem cellSize_any (w : World) : Calls Tryd.prog 33 #[] w fun e w' => e = .returned (.int .i64 32) ∧ Below w.heap.size w w' := by
  have HC := Lib.hid (cellRow_any celZ [] (by simp) (.slice none 0 0) w (Sl.nil w 1))
  go_enter Tryd.func33, Tryd.ntmps33
  go_wp2_with fail
  refine HC.out.mono ?_
  rintro e w1 ⟨v, rfl, ho, hb⟩
  have HB := Lib.hid hb
  have hl : (cellR ⟨celZ, []⟩).length = 32 := cellR_len (by simp)
  rw [hl] at ho
  obtain ⟨a1, c1, rfl⟩ := own_form ho
  clear hb ho hl HC
  go_wp2
  go_ret
  exact ⟨rfl, HB.out⟩
set_option maxRecDepth 100000 in
set_option maxHeartbeats 4000000 in
theorem mul64_any (n : Int) (hn : n = 32 ∨ n = 4) (w : World) : Calls Tryd.prog 87 #[.int .u64 1, .int .u64 n] w fun e w' => e = .returned (.tuple #[.int .u64 0, .int .u64 n]) ∧ w' = w := by
  rcases hn with rfl | rfl
  · go_enter Tryd.func87, Tryd.ntmps87
    go_wp2
    go_ret2
    exact ⟨rfl, rfl⟩
  · go_enter Tryd.func87, Tryd.ntmps87
    go_wp2
    go_ret2
    exact ⟨rfl, rfl⟩
set_option maxRecDepth 100000 in
set_option maxHeartbeats 4000000 in
theorem mul_any (n : Int) (hn : n = 32 ∨ n = 4) (w : World) : Calls Tryd.prog 60 #[.int .u64 1, .int .u64 n] w fun e w' => e = .returned (.tuple #[.int .u64 0, .int .u64 n]) ∧ w' = w := by
  have HM := Lib.hid (mul64_any n hn)
  clear hn
  go_enter Tryd.func60, Tryd.ntmps60
  go_wp2_with fail
  refine (HM.out _).mono ?_
  rintro e w1 ⟨rfl, rfl⟩
  go_wp2
  go_ret2
  exact ⟨rfl, rfl⟩
end Go.Proofs.YtnnnljfdjdehaaaDoor

namespace Go.Proofs.YtnnnljfdjdehaaaDoor
set_option linter.unusedSimpArgs false
set_option linter.unusedVariables false
open Go.RowKit Go.Sort

theorem infoBoolF : (Tryd.prog.info? 4).map (fun i => (i.zero, i.size, i.bytes)) = some (some (.bool false), 1, 1) := by kernel_rfl
theorem sizeBoolF : (Tryd.prog.info? 4).map (·.size) = some 1 := by kernel_rfl
/-- m of n written. -/
def repB (b : Bool) (n m : Nat) : List Value := List.replicate m (.bool b) ++ List.replicate (n - m) (.bool false)
theorem repB_len {b : Bool} {n m : Nat} (h : m ≤ n) : (repB b n m).length = n := by simp [repB]; omega
theorem repB_at {b : Bool} {n m j : Nat} (h : j < m) : (repB b n m)[j]? = some (.bool b) := by
  unfold repB
  rw [List.getElem?_append_left (by simpa using h)]
  simp [List.getElem?_replicate, h]
theorem repB_splice {b : Bool} {n m : Nat} (h : m + m ≤ n) : splice (repB b n m) m (List.replicate m (.bool b)) = repB b n (m + m) := by
  unfold splice repB
  rw [List.length_replicate, List.take_append_of_le_length (by simp), List.drop_append, List.take_replicate, List.drop_replicate, List.drop_replicate, Nat.min_self, List.length_replicate]
  have e1 : m - (m + m) = 0 := by omega
  have e2 : n - m - (m + m - m) = n - (m + m) := by omega
  rw [e1, e2, List.replicate_zero, List.nil_append, ← List.append_assoc, List.replicate_append_replicate]
theorem repB_first {b : Bool} {n : Nat} (h : 1 ≤ n) : splice (repB b n 0) 0 [.bool b] = repB b n 1 := by
  unfold splice repB
  simp
theorem repB_full (b : Bool) (n : Nat) : repB b n n = List.replicate n (.bool b) := by simp [repB]
theorem half32 {n m : Nat} (hn : n = 32 ∨ n = 4) (h : m ∣ n) (hl : m < n) : m + m ≤ n ∧ (m + m) ∣ n := by
  have h1 : ∀ m < 32, m ∣ 32 → m + m ≤ 32 ∧ (m + m) ∣ 32 := by decide
  have h2 : ∀ m < 4, m ∣ 4 → m + m ≤ 4 ∧ (m + m) ∣ 4 := by decide
  rcases hn with rfl | rfl
  · exact h1 m hl h
  · exact h2 m hl h
set_option maxRecDepth 100000 in
set_option maxHeartbeats 4000000 in
theorem repeat_any (b : Bool) (n : Nat) (hn : n = 32 ∨ n = 4) (u : Value) (w : World) (hS : Sl w 1 u 1 [.bool b]) :
    Calls Tryd.prog 40 #[u, .int .i64 (n : Int)] w fun e w' => ∃ v, e = .returned v ∧ w'.ownsRow w.heap.size 4 1 v n (List.replicate n (.bool b)) ∧ Below w.heap.size w w' := by
  have hn32 : n ≤ 32 := by omega
  have hn1 : 1 ≤ n := by omega
  have HN := Lib.hid hn
  have hcv : IntKind.u64.wrap (n : Int) = n := by simp [IntKind.wrap, IntKind.bits, IntKind.signed]; omega
  have hcw : IntKind.i64.wrap (n : Int) = n := by simp [IntKind.wrap, IntKind.bits, IntKind.signed]; omega
  have hneg : ¬ (n : Int) < 0 := by omega
  have hbig : ¬ (9223372036854775807 : Int) < n := by omega
  have HM := Lib.hid (mul_any n (by omega))
  obtain ⟨i1, hi1, hy0, hy1, hy2⟩ := info_parts infoBoolF
  obtain ⟨ua, uc, rfl⟩ := hS.form
  obtain ⟨_, a9, c9, hform, hcap, hcell⟩ := hS
  obtain ⟨sb, so, hs1, hs2, hs3⟩ := hcell (by omega)
  cases hform
  cases hs1
  have cs0 : w.cell? ⟨sb, so, none⟩ = some (.bool b) := by simpa using hs3 0 (.bool b) rfl
  clear hn hs3 hcell hcap
  go_enter Tryd.func40, Tryd.ntmps40
  go_wp2_with fail
  refine (HM.out _).mono ?_
  rintro e w1 ⟨rfl, hw⟩
  have hw' := hw.symm
  clear hw
  subst hw'
  have hz : (madeCells #[Value.bool false] n).toList = repB b n 0 := by
    rw [toList_madeCells_one]
    simp [repB]
  have HG0 : Hid ((w.alloc (.cells (madeCells #[Value.bool false] n) 4)).heap[w.heap.size]? = some (.cells (repB b n 0).toArray 4 (0, 0))) := Lib.hid (by
    rw [← hz, Array.toArray_toList]
    exact (Rw.new w 4 (madeCells #[Value.bool false] n) rfl : Rw _ _ _ _))
  have HB0 : Hid (Below w.heap.size w (w.alloc (.cells (madeCells #[Value.bool false] n) 4))) := Lib.hid ((Below.refl _ _).alloc (Nat.le_refl _) _)
  have hsz0 : (w.alloc (.cells (madeCells #[Value.bool false] n) 4)).heap.size = w.heap.size + 1 := by simp
  have cs1 : (w.alloc (.cells (madeCells #[Value.bool false] n) 4)).cell? ⟨sb, so, none⟩ = some (.bool b) := bcl HB0.out hs2 cs0
  clear hz cs0
  have q1 : [Value.bool b].length = Nat.min 1 n := by show 1 = min 1 n; omega
  have q2 : ∀ j v, [Value.bool b][j]? = some v → (w.alloc (.cells (madeCells #[Value.bool false] n) 4)).cell? ((⟨sb, so, none⟩ : Addr).add j) = some v := fun j v hj => by
    match j, hj with
    | 0, hj => simp at hj; subst hj; rw [Addr.add_mid, Nat.add_zero]; exact cs1
    | j + 1, hj => simp at hj
  have q3 : 0 + [Value.bool b].length ≤ (repB b n 0).length := by rw [repB_len (by omega)]; simp; omega
  have q4 : ∀ v ∈ [Value.bool b], v.oneCell' = true := by simp [Value.oneCell']
  have Q1 := Lib.hid q1
  have Q2 := Lib.hid q2
  have Q3 := Lib.hid q3
  have Q4 := Lib.hid q4
  clear q1 q2 q3 q4 cs1
  clear hsz0
  go_wp2_with (first | (refine wpList_make_row _ rfl _ _ 46 rfl 4 i1 (.bool false) Tryd.underlying46 hi1 hy0 hy1 rfl .i64 .i64 n rfl rfl (by rw [hy2]; omega) (by omega) ?_) | (refine wpList_copy_splice rfl (.tmp 31) (.tmp 32) 46 46 rfl 4 Tryd.underlying46 sizeBoolF (some ⟨w.heap.size, 0, none⟩) (some ⟨sb, so, none⟩) n n 1 uc rfl rfl w.heap.size 0 (repB b n 0) 4 HG0.out [.bool b] Q1.out (fun _ => ⟨rfl, _, rfl, Q2.out⟩) Q3.out Q4.out w.heap.size w HB0.out (Nat.le_refl _) ?_))
  intro W2 hg2 hb2
  rw [repB_first hn1] at hg2
  have HB2 := Lib.hid hb2
  clear hb2 HG0 HB0 Q1 Q2 Q3 Q4
  go_wp2
  go_loopw [8] (fun i wr => ∃ m : Nat, i = .int .i64 m ∧ m ≤ n ∧ Hid (m ∣ n) ∧ 1 ≤ m ∧ Hid (wr.heap[w.heap.size]? = some (.cells (repB b n m).toArray 4 (0, 0))) ∧ Hid (Below w.heap.size w wr)) (fun i _ => n - (intOf i).toNat)
  case atStart => exact ⟨1, rfl, hn1, Lib.hid ⟨n, by simp⟩, Nat.le_refl _, hg2, HB2⟩
  case round =>
    clear hg2 HB2
    obtain ⟨m, rfl, hm, HDV, hm1, HG, HB⟩ := hrel
    by_cases hlt : m < n
    · have hli : (m : Int) < n := by omega
      obtain ⟨hh, hd2⟩ := half32 HN.out HDV.out hlt
      have HD2 := Lib.hid hd2
      have HSP := Lib.hid (repB_splice (b := b) hh)
      have hsub : IntKind.i64.wrap ((n : Int) - (m : Int)) = ((n - m : Nat) : Int) := by simp [IntKind.wrap, IntKind.bits, IntKind.signed]; omega
      have HGD : Hid (wr.drew.heap[w.heap.size]? = some (.cells (repB b n m).toArray 4 (0, 0))) := HG
      have Q1 : Hid ((List.replicate m (Value.bool b)).length = Nat.min m (n - m)) := Lib.hid (by rw [List.length_replicate]; show m = min m (n - m); omega)
      have Q2 : Hid (∀ j v, (List.replicate m (Value.bool b))[j]? = some v → wr.drew.cell? ((⟨w.heap.size, 0, none⟩ : Addr).add j) = some v) := Lib.hid fun j v hj => by
        rw [List.getElem?_replicate] at hj
        split at hj
        · rename_i hjm
          rw [Addr.add_mid, Nat.zero_add, (show Rw wr.drew w.heap.size 4 (repB b n m).toArray from HG.out).cell (j := j) (v := .bool b) (by rw [List.getElem?_toArray]; exact repB_at hjm)]
          exact hj
        · cases hj
      have Q3 : Hid (m + (List.replicate m (Value.bool b)).length ≤ (repB b n m).length) := Lib.hid (by rw [repB_len hm, List.length_replicate]; omega)
      have Q4 : Hid (∀ v ∈ List.replicate m (Value.bool b), v.oneCell' = true) := Lib.hid fun v hv => by rw [List.eq_of_mem_replicate hv]; rfl
      have hnm : ¬ n = m := by omega
      have hadd : IntKind.i64.wrap ((m : Int) + (m : Int)) = ((m + m : Nat) : Int) := by simp [IntKind.wrap, IntKind.bits, IntKind.signed]; omega
      clear hd2
      go_wp2
      go_region_law (refine step_copy_splice (by rfl) (.tmp 41) (.tmp 44) 46 46 (by rfl) 4 Tryd.underlying46 sizeBoolF (some ⟨w.heap.size, m, none⟩) (some ⟨w.heap.size, 0, none⟩) (n - m) (n - m) m n (by first | with_reducible rfl | (simp [Act.eval, Act.put, hnm]; done)) (by first | with_reducible rfl | (simp [Act.eval, Act.put]; done)) w.heap.size m (repB b n m) 4 HGD.out (List.replicate m (.bool b)) Q1.out (fun _ => ⟨rfl, _, rfl, Q2.out⟩) Q3.out Q4.out w.heap.size w (Below.drew HB.out) (Nat.le_refl _) ?_; intro w4 hg4 hb4)
      all_goals rw [HSP.out] at hg4
      all_goals have HB4 := Lib.hid hb4
      all_goals clear hb4
      all_goals go_simp
      all_goals clear HN HDV HSP Q1 Q2 Q3 Q4 HGD HG HB
      all_goals
        go_roundw
        case rel => exact ⟨.int .i64 ((m : Int) + m), _, _, _, _, _, _, _, _, _, _, _, _, _, ⟨m + m, by go_num, by omega, HD2, by omega, hg4, HB4⟩, rfl⟩
        case measure => simp [intOf]; omega
    · have hli : ¬ (m : Int) < n := by omega
      obtain rfl : m = n := by omega
      go_wp2
      go_ret
      have hrow : wr.heap[w.heap.size]? = some (.cells (List.replicate m (.bool b)).toArray 4 (0, 0)) := by rw [← repB_full]; exact HG.out
      exact ⟨_, rfl, ⟨by simp, .inr ⟨w.heap.size, m, _, rfl, Nat.le_refl _, hrow, Nat.le_refl _, by unfold maxLen; omega, by simp, by simp⟩⟩, HB.out⟩
end Go.Proofs.YtnnnljfdjdehaaaDoor

/- kern.Begin and the document's. -/
import Derived.Test.YtehhhiodfcdnmaaGreatDoorR18
import Derived.Test.YtehhhiodfcdnmaaGreatDoorR4
namespace Go.Proofs.YtehhhiodfcdnmaaGreatDoor
set_option linter.unusedSimpArgs false
set_option linter.unusedVariables false
set_option maxRecDepth 100000
set_option maxHeartbeats 8000000
open Go.RowKit Go.Sort
theorem wp_make {P : Program} {o : Oper} {a : Act} {w : World} {K : Act → World → Prop} {Q : Exit → Act → World → Prop} (l c : Operand) (t : TypeId) (ho : o.op = .makeSlice t l c)
  (e : TypeId) (i : TypeInfo) (z : Value) (size bytes : Nat) (h1 : P.underlying t = some (.slice e)) (h2 : P.info? e = some i) (h3 : i.zero = some z) (h4 : i.size = size) (h5 : i.bytes = bytes)
  (n : Nat) (hl : a.eval l = .int .i64 n) (hc : a.eval c = .int .i64 n) (b2 : bytes * n ≤ 281474976710656) (b3 : n ≤ 9223372036854775807)
  (h : K (a.put o.dst (.slice (some ⟨w.heap.size, 0, none⟩) n n)) (w.alloc (.cells (madeCells z.cells (n * size)) e))) : o.wp P a w K Q := by
 subst h4 h5
 have hb' : (i.bytes : Int) * (n : Int) ≤ 281474976710656 := by
  have h : ((i.bytes * n : Nat) : Int) ≤ 281474976710656 := by omega
  rwa [Int.natCast_mul] at h
 have hrun := run_make (P := P) w t e i z h1 h2 h3 .i64 .i64 n n om (Int.le_refl _) hb' om
 simp only [Int.toNat_natCast] at hrun
 unfold Oper.wp
 simp [execOp, ho, hl, hc, hrun, Result.andThen]
 exact h
theorem made_at (z : Array Value) (hz : 0 < z.size) (n k j : Nat) (hk : k < n) (hj : j < z.size) : (madeCells z (n * z.size)).toList[k * z.size + j]? = z[j]? := by
 have h1 : k * z.size + j < n * z.size := by
  have : (k + 1) * z.size ≤ n * z.size := Nat.mul_le_mul_right _ hk
  rw [Nat.add_mul] at this
  omega
 rw [Array.getElem?_toList]
 unfold madeCells
 rw [Array.getElem?_map, Array.getElem?_range, if_pos h1]
 simp [Nat.mod_eq_of_lt hj, hj]
theorem made_cells (n : Nat) : (madeCells (celZ.cs (.slice none 0 0)) (n * 16)).toList = rowC celC (List.replicate n (celZ, .slice none 0 0)) := by
 apply List.ext_getElem?
 intro j
 by_cases hj : j < n * 16
 ·have hk : j / 16 < n := by omega
  have hr : j % 16 < 16 := by omega
  have hjk : j = j / 16 * 16 + j % 16 := by omega
  rw [hjk, rowC_at celC_len _ (j / 16) (j % 16) (by simpa using hk) hr]
  refine (made_at (celZ.cs (.slice none 0 0)) (by decide) n (j / 16) (j % 16) hk hr).trans ?_
  rw [List.getElem_replicate, celC, Array.getElem?_toList]
 ·rw [List.getElem?_eq_none (by simp [size_madeCells]; omega), List.getElem?_eq_none (by rw [rowC_len celC_len]; simp; omega)]
structure Bg (X W : World) (oc ol : Option Value) (n m : Nat) : Prop where
 d : Below X.heap.size X W
 c : ∀ v, oc = some v → ∃ ps : List (Cel × Value), ps = List.replicate n (celZ, .slice none 0 0) ∧ Sl W 16 v n (rowC celC ps) ∧ ∀ b, v.ownBlock = some b → X.heap.size ≤ b ∧ b < W.heap.size ∧ ∃ cur, Rw W b 35 cur
 l : ∀ v, ol = some v → Sl W 1 v m (List.replicate m (.slice none 0 0)) ∧ ∀ b, v.ownBlock = some b → X.heap.size ≤ b ∧ b < W.heap.size
 ne : ∀ v u, oc = some v → ol = some u → ∀ b, u.ownBlock = some b → v.ownBlock ≠ some b
theorem Bg.begin (X : World) (n m : Nat) : Bg X X.drew none none n m := ⟨(Below.refl _ _).drew, by simp, by simp, by simp⟩
theorem Bg.cells {X W : World} {ol : Option Value} {n m : Nat} (h : Bg X W none ol n m) : Bg X (W.alloc (.cells (madeCells (celZ.cs (.slice none 0 0)) (n * 16)) 35)) (some (.slice (some ⟨W.heap.size, 0, none⟩) n n)) ol n m :=
 ⟨h.d.alloc h.d.size _, fun v q => by
  injection q with q
  subst q
  refine ⟨_, rfl, ?_, fun b e => by simp [Value.ownBlock] at e; have := h.d.size; exact ⟨by omega, by simp; omega, _, Rw.new _ _ _ e.symm⟩⟩
  rw [← made_cells]
  exact lit_sl W (madeCells (celZ.cs (.slice none 0 0)) (n * 16)).toList _ _ n 16 rfl (by simp [size_madeCells]), fun v q => ⟨(h.l v q).1.up1 _, fun b e => ⟨((h.l v q).2 b e).1, by have := ((h.l v q).2 b e).2; simp; omega⟩⟩, fun v u q q' b e => by
  injection q with q
  subst q
  have := ((h.l u q').2 b e).2
  simp [Value.ownBlock]
  omega⟩
theorem Bg.lines {X W : World} {oc : Option Value} {n m : Nat} (h : Bg X W oc none n m) : Bg X (W.alloc (.cells (madeCells #[.slice none 0 0] (m * 1)) 81)) oc (some (.slice (some ⟨W.heap.size, 0, none⟩) m m)) n m :=
 ⟨h.d.alloc h.d.size _, fun v q => by
  obtain ⟨ps, e, h2, h3⟩ := h.c v q
  exact ⟨ps, e, h2.up1 _, fun b e => ⟨(h3 b e).1, by have := (h3 b e).2.1; simp; omega, let ⟨c, hc⟩ := (h3 b e).2.2; ⟨c, hc.alloc _⟩⟩⟩, fun v q => by
  injection q with q
  subst q
  refine ⟨?_, fun b e => by simp [Value.ownBlock] at e; have := h.d.size; simp; omega⟩
  rw [Nat.mul_one, ← toList_madeCells_one]
  exact lit_sl W (madeCells #[.slice none 0 0] m).toList _ _ m 1 rfl (by simp [size_madeCells]), fun v u q q' b e e' => by
  injection q' with q'
  subst q'
  obtain ⟨ps, _, _, h3⟩ := h.c v q
  have := (h3 b e').2.1
  simp [Value.ownBlock] at e
  omega⟩
theorem Bg.done {X W : World} {vc vl : Value} {S : SysD} (h : Bg X W (some vc) (some vl) S.parts.length S.chans.length) {g B : Nat} (hg : g < X.heap.size) (hB : B ≤ X.heap.size) (cs : Array Value) : WldF B (W.setRow g cs) vc vl (beginC S) := by
 obtain ⟨ps, e, h2, h3⟩ := h.c vc rfl
 obtain ⟨h4, h5⟩ := h.l vl rfl
 subst e
 refine ⟨⟨List.replicate S.parts.length (celZ, .slice none 0 0), by simp [beginC], ?_, fun k hk hk' => ?_⟩, ⟨List.replicate S.chans.length (.slice none 0 0), by simp [beginC], ?_, fun k hk hk' => ?_⟩, fun b e => Nat.le_trans hB (h3 b e).1, fun b e => ⟨Nat.le_trans hB (h5 b e).1, h.ne vc vl rfl rfl b e⟩, fun b e => let ⟨c, hc⟩ := (h3 b e).2.2; ⟨c, hc.row_other _ (by have := (h3 b e).1; omega)⟩⟩
 ·simp only [beginC, List.length_replicate]
  exact h2.row cs (fun e => by have := (h3 g e).1; omega)
 ·simp only [beginC, List.getElem_replicate]
  exact ⟨rfl, Sl.nil _ _, fun b e => by cases e⟩
 ·simp only [beginC, List.length_replicate]
  exact h4.row cs (fun e => by have := (h5 g e).1; omega)
 ·simp only [beginC, List.getElem_replicate]
  exact ⟨Sl.nil _ _, fun b e => by cases e⟩
theorem sl_fresh {w : World} {size : Nat} {v : Value} {n : Nat} {xs : List Value} (h : Sl w size v n xs) (o : Obj) (u : Array Value) : Sl ((w.alloc o).setRow w.heap.size u) size v n xs :=
 sl_row0K (h.up1 o) fun hn e => by
  obtain ⟨b, off, cap, rfl, _, hb, _⟩ := h.open hn
  simp [Value.ownBlock] at e
  omega
theorem WldF.fresh {B : Nat} {w : World} {vc vl : Value} {D : WldD} (h : WldF B w vc vl D) (o : Obj) (u : Array Value) : WldF B ((w.alloc o).setRow w.heap.size u) vc vl D := by
 obtain ⟨⟨ps, p1, p2, p3⟩, ⟨vs, q1, q2, q3⟩, bc, bl, fz⟩ := h
 exact ⟨⟨ps, p1, sl_fresh p2 o u, fun k hk hk' => ⟨(p3 k hk hk').1, sl_fresh (p3 k hk hk').2.1 o u, (p3 k hk hk').2.2⟩⟩, ⟨vs, q1, sl_fresh q2 o u, fun k hk hk' => ⟨sl_fresh (q3 k hk hk').1 o u, (q3 k hk hk').2⟩⟩, bc, bl, fun g e => let ⟨c, hc⟩ := fz g e; ⟨c, (hc.alloc o).row_other _ (by have := hc.lt; omega)⟩⟩
def wldZ : WldD := ⟨0, [], []⟩
theorem WldF.nil (B : Nat) (w : World) : WldF B w (.slice none 0 0) (.slice none 0 0) wldZ := ⟨⟨[], rfl, Sl.nil _ _, fun k hk => by simp [wldZ] at hk⟩, ⟨[], rfl, Sl.nil _ _, fun k hk => by simp [wldZ] at hk⟩, fun b e => (by cases e), fun b e => (by cases e), fun b e => (by cases e)⟩
theorem world_one (t : Int) (a : Option Addr) (n c : Nat) (a' : Option Addr) (n' c' : Nat) : (#[.int .i64 t, .slice a n c, .slice a' n' c'] : Array Value).all (·.oneCell') = true := by simp [Value.oneCell']
theorem countsS {S : SysD} (h : chkS S = 0) : S.parts.length ≤ 4 ∧ S.chans.length ≤ 6 := by
 unfold chkS at h
 cases hb : countsB S with
 | false => rw [hb] at h; simp at h
 | true => simp [countsB] at hb; omega
def beginR (S : SysD) : WldD := if chkS S = 0 then beginC S else wldZ
theorem kernBegin_any (S : SysD) (vp vc vs : Value) (w : World) (he : Env w) (hS : Sys w vp vc vs S) (e0 : Int) (hk : chkS S = e0) (D : WldD) (hD : beginR S = D) :
  Calls Tryz.prog 66 #[.agg #[vp, vc, vs]] w fun e w' => ∃ uc ul, e = .returned (.tuple #[.agg #[.int .i64 D.tick, uc, ul], .int .i64 e0]) ∧ WldF w.heap.size w' uc ul D ∧ Below w.heap.size w w' := by
 obtain ⟨i1, hi1, hy0, hy1, hy2⟩ := info_parts infoCell
 obtain ⟨i2, hi2, hx0, hx1, hx2⟩ := info_parts infoLine
 obtain ⟨pa, pc, rfl⟩ := hS.p.form
 obtain ⟨ka, kc, rfl⟩ := hS.c.form
 obtain ⟨sa, sc, rfl⟩ := hS.s.form
 have HC := hd fun w he hS => confCheck_any S (.slice pa S.parts.length pc) (.slice ka S.chans.length kc) (.slice sa S.slots.length sc) w he hS
 rw [hk] at HC
 have HE := hd he
 have HS := hd hS
 clear he hS
 by_cases h0 : e0 = 0
 ·subst h0
  obtain ⟨hcl1, hcl2⟩ := countsS hk
  have HD : Hid (beginC S = D) := by
   show _ = _
   rw [← hD, beginR, if_pos hk]
  clear hk hD
  go_enter Tryz.func66, Tryz.ntmps66
  go_wp2_with fail
  refine (HC.out _ (HE.out.up up0) (HS.out.up up0)).mono ?_
  rintro e w1 ⟨rfl, b1⟩
  have z1 := b1.size
  simp at z1
  have RA : Hid (Rw w1 w.heap.size 26 #[.slice pa S.parts.length pc, .slice ka S.chans.length kc, .slice sa S.slots.length sc]) := Rw.up rn0 b1 o3
  have RB : Hid (Rw w1 (w.heap.size + 1) 30 #[.int .i64 0, .slice none 0 0, .slice none 0 0]) := Rw.up rn0 b1 o3
  have HB : Hid (Below w.heap.size w w1) := by
   refine Below.trans ?_ (b1.mono o3)
   exact up0
  clear b1 HC
  go_wp2
  refine region_still (S := fun w' => Rw w' w.heap.size 26 #[.slice pa S.parts.length pc, .slice ka S.chans.length kc, .slice sa S.slots.length sc]) 10 kr RA.out.drew (fun hHeld => ?_)
  have hq := fun w' (hSw : (fun w' => Rw w' w.heap.size 26 #[.slice pa S.parts.length pc, .slice ka S.chans.length kc, .slice sa S.slots.length sc]) w') => And.intro (hSw.cell (j := 0) (v := .slice pa S.parts.length pc) rfl) (hSw.cell (j := 1) (v := .slice ka S.chans.length kc) rfl)
  refine Still.u 0 [] hHeld hq ?_
  refine Still.u 1 [] hHeld hq ?_
  refine Still.u 2 [] hHeld hq ?_
  refine Still.u 4 [] hHeld hq ?_
  refine Still.u 5 [] hHeld hq ?_
  refine Still.u 6 [] hHeld hq ?_
  have M0 := hd (Bg.begin w1 S.parts.length S.chans.length)
  generalize World.drew _ = Y0 at M0 hHeld ⊢
  refine Still.all (rs := [3, 7]) kr (by simp) (Still.one (i := 3) rfl rfl (fun K hK => ?_) (Still.one (i := 7) rfl rfl (fun K hK => ?_) (by simp)))
  ·refine wp_make _ _ 27 rfl 35 i1 _ 16 144 Tryz.underlying27 hi1 hy0 hy1 hy2 S.parts.length ev ev om om ?_
   have m := M0.out.cells
   rw [show Value.cells (.agg (celZ.cs (.slice none 0 0))) = celZ.cs (.slice none 0 0) from rfl]
   refine hK _ _ (fun _ => Rw.up (B := Y0.heap.size) hHeld ((Below.refl _ _).alloc (Nat.le_refl _) _) (Rw.lt hHeld)) (fun hh => ?_)
   have hHeld := hh (by decide)
   clear hK K hh
   try simp only [Act.put, l1, l2, l3, l4, l5, l6]
   generalize World.alloc _ _ = Y1 at m hHeld ⊢
   have M1 := hd m
   clear m M0
   refine Still.o 7 rfl rfl (fun K hK => ?_)
   refine wp_make _ _ 28 rfl 81 i2 _ 1 24 Tryz.underlying28 hi2 hx0 hx1 hx2 S.chans.length ev ev om om ?_
   have m := M1.out.lines
   rw [show Value.cells (.agg #[.slice none 0 0]) = #[.slice none 0 0] from rfl]
   refine hK _ _ (fun _ => Rw.up (B := Y1.heap.size) hHeld ((Below.refl _ _).alloc (Nat.le_refl _) _) (Rw.lt hHeld)) (fun hh => ?_)
   have hHeld := hh (by decide)
   clear hK K hh
   try simp only [Act.put, l1, l2, l3, l4, l5, l6]
   generalize World.alloc _ _ = Y2 at m hHeld ⊢
   have M2 := hd m
   clear m M1
   refine Still.t 8 [] hHeld ?_
   refine Still.o 9 rfl rfl (fun K hK => ?_)
   refine wp_store_row 30 _ _ rfl (w.heap.size + 1) #[.int .i64 0, (.slice (some ⟨Y0.heap.size, 0, none⟩) S.parts.length S.parts.length), (.slice (some ⟨Y1.heap.size, 0, none⟩) S.chans.length S.chans.length)] ev ev 30 #[.int .i64 0, .slice none 0 0, .slice none 0 0] (RB.out.up M2.out.d RB.out.lt) sizeWld rfl (world_one _ _ _ _ _ _ _) ?_
   refine hK _ _ (fun _ => Rw.row_other hHeld _ om) (fun hh => ?_)
   have hHeld := hh (by decide)
   clear hK K hh
   try simp only [Act.put, l1, l2, l3, l4, l5, l6]
   refine Still.o 10 rfl rfl (fun K hK => ?_)
   go_simp
   refine hK _ _ ab (fun _ => Still.vv ?_)
   clear hK K
   clear hHeld
   go_wp2
   refine bodyPost_ret (results_row_tmp Tryz.results66 _ _ (w.heap.size + 1) _ _ rfl rfl (run_loadVar_row _ _ 30 _ #[.int .i64 0, (.slice (some ⟨Y0.heap.size, 0, none⟩) S.parts.length S.parts.length), (.slice (some ⟨Y1.heap.size, 0, none⟩) S.chans.length S.chans.length)] (0, 0) _ (Rw.row (RB.out.up M2.out.d RB.out.lt) _) Tryz.underlying30 rfl sizeWld)) rfl ⟨(.slice (some ⟨Y0.heap.size, 0, none⟩) S.parts.length S.parts.length), (.slice (some ⟨Y1.heap.size, 0, none⟩) S.chans.length S.chans.length), by rw [← HD.out]; rfl, by rw [← HD.out]; exact M2.out.done RB.out.lt om _, below_row (HB.out.trans (M2.out.d.mono om)) om _⟩
  ·refine wp_make _ _ 28 rfl 81 i2 _ 1 24 Tryz.underlying28 hi2 hx0 hx1 hx2 S.chans.length ev ev om om ?_
   have m := M0.out.lines
   rw [show Value.cells (.agg #[.slice none 0 0]) = #[.slice none 0 0] from rfl]
   refine hK _ _ (fun _ => Rw.up (B := Y0.heap.size) hHeld ((Below.refl _ _).alloc (Nat.le_refl _) _) (Rw.lt hHeld)) (fun hh => ?_)
   have hHeld := hh (by decide)
   clear hK K hh
   try simp only [Act.put, l1, l2, l3, l4, l5, l6]
   generalize World.alloc _ _ = Y1 at m hHeld ⊢
   have M1 := hd m
   clear m M0
   refine Still.o 3 rfl rfl (fun K hK => ?_)
   refine wp_make _ _ 27 rfl 35 i1 _ 16 144 Tryz.underlying27 hi1 hy0 hy1 hy2 S.parts.length ev ev om om ?_
   have m := M1.out.cells
   rw [show Value.cells (.agg (celZ.cs (.slice none 0 0))) = celZ.cs (.slice none 0 0) from rfl]
   refine hK _ _ (fun _ => Rw.up (B := Y1.heap.size) hHeld ((Below.refl _ _).alloc (Nat.le_refl _) _) (Rw.lt hHeld)) (fun hh => ?_)
   have hHeld := hh (by decide)
   clear hK K hh
   try simp only [Act.put, l1, l2, l3, l4, l5, l6]
   generalize World.alloc _ _ = Y2 at m hHeld ⊢
   have M2 := hd m
   clear m M1
   refine Still.t 8 [] hHeld ?_
   refine Still.o 9 rfl rfl (fun K hK => ?_)
   refine wp_store_row 30 _ _ rfl (w.heap.size + 1) #[.int .i64 0, (.slice (some ⟨Y1.heap.size, 0, none⟩) S.parts.length S.parts.length), (.slice (some ⟨Y0.heap.size, 0, none⟩) S.chans.length S.chans.length)] ev ev 30 #[.int .i64 0, .slice none 0 0, .slice none 0 0] (RB.out.up M2.out.d RB.out.lt) sizeWld rfl (world_one _ _ _ _ _ _ _) ?_
   refine hK _ _ (fun _ => Rw.row_other hHeld _ om) (fun hh => ?_)
   have hHeld := hh (by decide)
   clear hK K hh
   try simp only [Act.put, l1, l2, l3, l4, l5, l6]
   refine Still.o 10 rfl rfl (fun K hK => ?_)
   go_simp
   refine hK _ _ ab (fun _ => Still.vv ?_)
   clear hK K
   clear hHeld
   go_wp2
   refine bodyPost_ret (results_row_tmp Tryz.results66 _ _ (w.heap.size + 1) _ _ rfl rfl (run_loadVar_row _ _ 30 _ #[.int .i64 0, (.slice (some ⟨Y1.heap.size, 0, none⟩) S.parts.length S.parts.length), (.slice (some ⟨Y0.heap.size, 0, none⟩) S.chans.length S.chans.length)] (0, 0) _ (Rw.row (RB.out.up M2.out.d RB.out.lt) _) Tryz.underlying30 rfl sizeWld)) rfl ⟨(.slice (some ⟨Y1.heap.size, 0, none⟩) S.parts.length S.parts.length), (.slice (some ⟨Y0.heap.size, 0, none⟩) S.chans.length S.chans.length), by rw [← HD.out]; rfl, by rw [← HD.out]; exact M2.out.done RB.out.lt om _, below_row (HB.out.trans (M2.out.d.mono om)) om _⟩
 ·have h0' : (e0 != 0) = true := by simpa using h0
  have HD : Hid (wldZ = D) := by
   show _ = _
   rw [← hD, beginR, if_neg (by rw [hk]; exact h0)]
  clear hk hD h0
  go_enter Tryz.func66, Tryz.ntmps66
  go_wp2_with fail
  refine (HC.out _ (HE.out.up up0) (HS.out.up up0)).mono ?_
  rintro e w1 ⟨rfl, b1⟩
  have z1 := b1.size
  simp at z1
  have RB : Hid (Rw w1 (w.heap.size + 1) 30 #[.int .i64 0, .slice none 0 0, .slice none 0 0]) := Rw.up rn0 b1 o3
  have HB : Hid (Below w.heap.size w w1) := by
   refine Below.trans ?_ (b1.mono o3)
   exact up0
  clear b1 HC
  go_wp2_with (refine wpList_store_row rfl 30 (.tmp 2) (.tmp 9) rfl (w.heap.size + 1) #[.int .i64 0, .slice none 0 0, .slice none 0 0] rfl rfl 30 #[.int .i64 0, .slice none 0 0, .slice none 0 0] RB.out sizeWld rfl (world_one _ _ _ _ _ _ _) ?_)
  refine bodyPost_ret (results_row_tmp Tryz.results66 _ _ (w.heap.size + 1) _ _ rfl rfl (run_loadVar_row _ _ 30 _ #[.int .i64 0, .slice none 0 0, .slice none 0 0] (0, 0) _ (RB.out.row _) Tryz.underlying30 rfl sizeWld)) rfl ⟨.slice none 0 0, .slice none 0 0, by rw [← HD.out]; rfl, by rw [← HD.out]; exact WldF.nil _ _, below_row HB.out om _⟩
end Go.Proofs.YtehhhiodfcdnmaaGreatDoor

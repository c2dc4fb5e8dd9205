/- The reference's WorldFrom. -/
import Derived.Test.YtnnnljfdjdehaaaDoorJ13
import Derived.Test.YtnnnljfdjdehaaaDoorKn13
namespace Go.Proofs.YtnnnljfdjdehaaaDoor
set_option linter.unusedSimpArgs false
set_option linter.unusedVariables false
open Go.RowKit Go.Sort

theorem entCellSize : Enters 33 := enters Tryd.func33 (by kernel_rfl) (by kernel_rfl)
theorem entLineSize : Enters 34 := enters Tryd.func34 (by kernel_rfl) (by kernel_rfl)
theorem entListAt : Enters 35 := enters Tryd.func35 (by kernel_rfl) (by kernel_rfl)
/-- A world that is being made, at b. -/
structure Wf (w wr : World) (b : Nat) (sr : Array Value) (tick : Int) (vc vl : Value) (cs : List CelD) (ls : List (List Int)) : Prop where
  d : Below w.heap.size w wr
  r0 : Rw wr w.heap.size 26 sr
  r4 : Rw wr (w.heap.size + 1) 30 #[.int .i64 0, .slice none 0 0, .slice none 0 0]
  r6 : Rw wr b 30 #[.int .i64 tick, vc, vl]
  n : NewV (b + 1) 0 wr vc vl cs ls
  lb : w.heap.size + 1 < b
section
variable {w wr wr' : World} {b : Nat} {sr : Array Value} {tick : Int} {vc vl vc' vl' : Value} {cs cs' : List CelD} {ls ls' : List (List Int)}
theorem Wf.z (h : Wf w wr b sr tick vc vl cs ls) : b + 1 ≤ wr.heap.size := h.r6.lt
theorem Wf.up (h : Wf w wr b sr tick vc vl cs ls) (hb : Below wr.heap.size wr wr') : Wf w wr' b sr tick vc vl cs ls :=
  ⟨h.d.trans (hb.mono h.d.size), h.r0.up hb h.r0.lt, h.r4.up hb h.r4.lt, h.r6.up hb h.r6.lt, h.n.up hb, h.lb⟩
theorem Wf.grow (h : Wf w wr b sr tick vc vl cs ls) (hgr : wr.grownBy wr' vc.ownBlock) (hn : NewV (b + 1) 0 wr' vc' vl cs' ls) :
    Wf w (wr'.setCell ⟨b, 1, none⟩ vc') b sr tick vc' vl cs' ls ∧ Rw wr' b 30 #[.int .i64 tick, vc, vl] := by
  have b1 : Below (b + 1) wr wr' := (Below.refl _ _).grown hgr h.z (fun k e => (h.n.ltC k e).1)
  have b2 : Below b wr (wr'.setCell ⟨b, 1, none⟩ vc') := (b1.mono (by omega)).setCell (by simp) _
  have r6 := h.r6.up b1 (by omega)
  have h2 := h.lb
  exact ⟨⟨h.d.trans (b2.mono (by omega)), h.r0.up b2 (by omega), h.r4.up b2 (by omega), r6.set 1 _, hn.set (by omega) _, h2⟩, r6⟩
theorem Wf.growL (h : Wf w wr b sr tick vc vl cs ls) (hgr : wr.grownBy wr' vl.ownBlock) (hn : NewV (b + 1) 0 wr' vc vl' cs ls') :
    Wf w (wr'.setCell ⟨b, 2, none⟩ vl') b sr tick vc vl' cs ls' ∧ Rw wr' b 30 #[.int .i64 tick, vc, vl] := by
  have b1 : Below (b + 1) wr wr' := (Below.refl _ _).grown hgr h.z (fun k e => (h.n.ltL k e).1)
  have b2 : Below b wr (wr'.setCell ⟨b, 2, none⟩ vl') := (b1.mono (by omega)).setCell (by simp) _
  have r6 := h.r6.up b1 (by omega)
  have h2 := h.lb
  exact ⟨⟨h.d.trans (b2.mono (by omega)), h.r0.up b2 (by omega), h.r4.up b2 (by omega), r6.set 2 _, hn.set (by omega) _, h2⟩, r6⟩
end
/-- A cell of which j registers and k words are read. -/
def celTo (q : List Int) (j k : Nat) : Cel := ⟨nthF q 0, if 0 < j then nthF q 1 else 0, if 1 < j then nthF q 2 else 0, if 2 < j then nthF q 3 else 0, if 3 < j then nthF q 4 else 0, if 0 < k then nthF q 5 else 0, if 1 < k then nthF q 6 else 0, if 2 < k then nthF q 7 else 0, if 3 < k then nthF q 8 else 0, if 4 < k then nthF q 9 else 0, if 5 < k then nthF q 10 else 0, if 6 < k then nthF q 11 else 0, if 7 < k then nthF q 12 else 0, 0, 0⟩
theorem celTo_reg (q : List Int) (j : Nat) (h : j < 4) : ((celTo q j 0).cs (.slice none 0 0)).setIfInBounds (1 + j) (.int .i64 (nthF q (1 + j))) = (celTo q (j + 1) 0).cs (.slice none 0 0) := by
  match j, h with
  | 0, _ => rfl
  | 1, _ => rfl
  | 2, _ => rfl
  | 3, _ => rfl
theorem celTo_mem (q : List Int) (k : Nat) (h : k < 8) : ((celTo q 4 k).cs (.slice none 0 0)).setIfInBounds (5 + k) (.int .i64 (nthF q (5 + k))) = (celTo q 4 (k + 1)).cs (.slice none 0 0) := by
  match k, h with
  | 0, _ => rfl
  | 1, _ => rfl
  | 2, _ => rfl
  | 3, _ => rfl
  | 4, _ => rfl
  | 5, _ => rfl
  | 6, _ => rfl
  | 7, _ => rfl
theorem celTo_end (q : List Int) : ({ celTo q 4 8 with read := nthF q 13, en := nthF q 14 } : Cel) = (cellL q).c := rfl
theorem celTo_reg_at (q : List Int) (j : Nat) (h : j < 4) : ((celTo q j 0).cs (.slice none 0 0))[1 + j]? = some (.int .i64 0) := by
  match j, h with
  | 0, _ => rfl
  | 1, _ => rfl
  | 2, _ => rfl
  | 3, _ => rfl
theorem celTo_mem_at (q : List Int) (k : Nat) (h : k < 8) : ((celTo q 4 k).cs (.slice none 0 0))[5 + k]? = some (.int .i64 0) := by
  match k, h with
  | 0, _ => rfl
  | 1, _ => rfl
  | 2, _ => rfl
  | 3, _ => rfl
  | 4, _ => rfl
  | 5, _ => rfl
  | 6, _ => rfl
  | 7, _ => rfl
/-- A number of a row, in memory. -/
theorem rowAt {w w' : World} {lb lo : Nat} {l : List Int} (hlt : lb < w.heap.size) (h : ∀ j u, (ints l)[j]? = some u → w.cell? ⟨lb, lo + j, none⟩ = some u) (hb : Below w.heap.size w w') {i : Nat} (hi : i < l.length) : w'.cell? ⟨lb, lo + i, none⟩ = some (.int .i64 (nthF l i)) := by
  refine bcl hb hlt (h i _ ?_)
  rw [ints_at _ _ hi]
  simp [hi, nthF]
set_option maxRecDepth 100000 in
set_option maxHeartbeats 16000000 in
theorem worldFrom_any (S : SysD) (hok : S.ok) (hs : chkS S = 0) (l : List Int) (vp vc vs u : Value) (w : World) (hS : Sys w vp vc vs S) (hl : Sl w 1 u l.length (ints l)) :
    Calls Tryd.prog 12 #[.agg #[vp, vc, vs], u] w fun e w' => (liftD S l = none ∧ e = .returned (.tuple #[.agg #[.int .i64 0, .slice none 0 0, .slice none 0 0], .bool false]) ∧ Below w.heap.size w w') ∨
      (∃ D, liftD S l = some D ∧ ∃ uc ul, e = .returned (.tuple #[.agg #[.int .i64 D.tick, uc, ul], .bool true]) ∧ WldF w.heap.size w' uc ul D ∧ Below w.heap.size w w') := by
  obtain ⟨i1, hi1, hy0, hy1, hy2⟩ := info_parts infoCell
  obtain ⟨i2, hi2, hx0, hx1, hx2⟩ := info_parts infoLine
  obtain ⟨pa, pc, rfl⟩ := hS.p.form
  obtain ⟨ka, kc, rfl⟩ := hS.c.form
  obtain ⟨sa, sc, rfl⟩ := hS.s.form
  obtain ⟨la, lc, rfl⟩ := hl.form
  obtain ⟨hp4, hc6⟩ := countsS hs
  have HCW := Lib.hid fun D uc ul w hS hW r hr => checkWorld_any S hok D (.slice pa S.parts.length pc) (.slice ka S.chans.length kc) (.slice sa S.slots.length sc) uc ul w hS hW r hr
  have HS := Lib.hid hS
  have HL := Lib.hid hl
  have HSS := Lib.hid hs
  obtain ⟨n32, hn32⟩ : ∃ n32 : Nat, n32 = S.parts.length * 32 := ⟨_, rfl⟩
  obtain ⟨n33, hn33⟩ : ∃ n33 : Nat, n33 = 1 + n32 := ⟨_, rfl⟩
  obtain ⟨m4, hm4⟩ : ∃ m4 : Nat, m4 = S.chans.length * 4 := ⟨_, rfl⟩
  obtain ⟨tot, htot⟩ : ∃ tot : Nat, tot = n33 + m4 := ⟨_, rfl⟩
  have HMN : Hid (IntKind.i64.wrap ((S.parts.length : Int) * 32) = (n32 : Int)) := Lib.hid (by simp [IntKind.wrap, IntKind.bits, IntKind.signed]; omega)
  have HMC : Hid (IntKind.i64.wrap ((S.chans.length : Int) * 4) = (m4 : Int)) := Lib.hid (by simp [IntKind.wrap, IntKind.bits, IntKind.signed]; omega)
  have HAN : Hid (IntKind.i64.wrap (1 + (n32 : Int)) = (n33 : Int)) := Lib.hid (by simp [IntKind.wrap, IntKind.bits, IntKind.signed]; omega)
  have HAC : Hid (IntKind.i64.wrap ((n33 : Int) + (m4 : Int)) = (tot : Int)) := Lib.hid (by simp [IntKind.wrap, IntKind.bits, IntKind.signed]; omega)
  have HT : Hid (n33 = 1 + S.parts.length * 32 ∧ tot = 1 + S.parts.length * 32 + S.chans.length * 4) := Lib.hid (by omega)
  clear hS hl hs hok hn32 hn33 hm4 htot
  go_enter Tryd.func12, Tryd.ntmps12
  go_upto_region 1 with fail
  generalize hX : World.alloc _ _ = X
  have hXX : X = (w.alloc (.cells #[.slice pa S.parts.length pc, .slice ka S.chans.length kc, .slice sa S.slots.length sc] 26)).alloc (.cells #[.int .i64 0, .slice none 0 0, .slice none 0 0] 30) := by rw [← hX]
  have hzX : X.heap.size = w.heap.size + 2 := by rw [hXX]; simp
  have D0 : Hid (Below w.heap.size w X) := Lib.hid (by rw [hXX]; exact (by repeat (first | exact Below.refl _ _ | assumption | refine Below.drew ?_ | refine Below.alloc ?_ (by first | (simp; done) | (simp; omega)) _ | refine Below.setCell ?_ (by first | (simp; done) | (simp; omega)) _)))
  have R0 : Hid (Rw X w.heap.size 26 #[.slice pa S.parts.length pc, .slice ka S.chans.length kc, .slice sa S.slots.length sc]) := Lib.hid (by rw [hXX]; exact (by repeat (first | exact Rw.new _ _ _ (by first | rfl | (simp; done) | omega | (simp; omega)) | refine Rw.alloc ?_ _)))
  have R4 : Hid (Rw X (w.heap.size + 1) 30 #[.int .i64 0, .slice none 0 0, .slice none 0 0]) := Lib.hid (by rw [hXX]; exact (by repeat (first | exact Rw.new _ _ _ (by first | rfl | (simp; done) | omega | (simp; omega)) | refine Rw.alloc ?_ _)))
  clear hX hXX
  go_wp2
  refine region_still (S := fun w' => Below X.heap.size X w') 14 (by kernel_rfl) (Below.refl _ _).drew (fun hHeld => ?_)
  refine Still.takeBy (i := 0) [1] (v := ?v1) (by kernel_rfl) (by kernel_rfl) rfl (by kernel_rfl) (by kernel_rfl) (by kernel_rfl) (fun _ _ _ h => h) (Or.inl ⟨by rfl, ?y1⟩) hHeld ?r1
  case y1 => (intro w' hSw; (try dsimp only at hSw); have q1 := (R0.out.up hSw (by omega)).cell (j := 0) (v := .slice pa S.parts.length pc) rfl; have q2 := (R0.out.up hSw (by omega)).cell (j := 1) (v := .slice ka S.chans.length kc) rfl; clear hSw; go_simp; try with_reducible rfl)
  simp only [Act.put, List.getElem_toArray, List.getElem_cons_zero, List.getElem_cons_succ, List.setIfInBounds_toArray, List.set_cons_zero, List.set_cons_succ]
  refine Still.takeBy (i := 1) [] (v := ?v2) (by kernel_rfl) (by kernel_rfl) rfl (by kernel_rfl) (by kernel_rfl) (by kernel_rfl) (fun _ _ _ h => h) (Or.inl ⟨by rfl, ?y2⟩) hHeld ?r2
  case y2 => (intro w' hSw; (try dsimp only at hSw); have q1 := (R0.out.up hSw (by omega)).cell (j := 0) (v := .slice pa S.parts.length pc) rfl; have q2 := (R0.out.up hSw (by omega)).cell (j := 1) (v := .slice ka S.chans.length kc) rfl; clear hSw; go_simp; try with_reducible rfl)
  simp only [Act.put, List.getElem_toArray, List.getElem_cons_zero, List.getElem_cons_succ, List.setIfInBounds_toArray, List.set_cons_zero, List.set_cons_succ]
  refine Still.takeBy (i := 2) [13, 7, 6, 4, 3] (v := ?v3) (by kernel_rfl) (by kernel_rfl) rfl (by kernel_rfl) (by kernel_rfl) (by kernel_rfl) (fun _ _ _ h => h) (Or.inl ⟨by rfl, ?y3⟩) hHeld ?r3
  case y3 => (intro w' hSw; (try dsimp only at hSw); have q1 := (R0.out.up hSw (by omega)).cell (j := 0) (v := .slice pa S.parts.length pc) rfl; have q2 := (R0.out.up hSw (by omega)).cell (j := 1) (v := .slice ka S.chans.length kc) rfl; clear hSw; go_simp; try with_reducible rfl)
  simp only [Act.put, List.getElem_toArray, List.getElem_cons_zero, List.getElem_cons_succ, List.setIfInBounds_toArray, List.set_cons_zero, List.set_cons_succ]
  refine Still.takeBy (i := 3) [13, 7, 6, 4] (v := ?v4) (by kernel_rfl) (by kernel_rfl) rfl (by kernel_rfl) (by kernel_rfl) (by kernel_rfl) (fun _ _ _ h => h) (Or.inl ⟨by rfl, ?y4⟩) hHeld ?r4
  case y4 => (intro w' hSw; (try dsimp only at hSw); have q1 := (R0.out.up hSw (by omega)).cell (j := 0) (v := .slice pa S.parts.length pc) rfl; have q2 := (R0.out.up hSw (by omega)).cell (j := 1) (v := .slice ka S.chans.length kc) rfl; clear hSw; go_simp; try with_reducible rfl)
  simp only [Act.put, List.getElem_toArray, List.getElem_cons_zero, List.getElem_cons_succ, List.setIfInBounds_toArray, List.set_cons_zero, List.set_cons_succ]
  refine Still.takeBy (i := 4) [13, 7, 6] (v := ?v5) (by kernel_rfl) (by kernel_rfl) rfl (by kernel_rfl) (by kernel_rfl) (by kernel_rfl) (fun _ _ _ h => h) (Or.inl ⟨by rfl, ?y5⟩) hHeld ?r5
  case y5 => (intro w' hSw; (try dsimp only at hSw); have q1 := (R0.out.up hSw (by omega)).cell (j := 0) (v := .slice pa S.parts.length pc) rfl; have q2 := (R0.out.up hSw (by omega)).cell (j := 1) (v := .slice ka S.chans.length kc) rfl; clear hSw; go_simp; try with_reducible rfl)
  simp only [Act.put, List.getElem_toArray, List.getElem_cons_zero, List.getElem_cons_succ, List.setIfInBounds_toArray, List.set_cons_zero, List.set_cons_succ]
  refine Still.takeBy (i := 8) [13, 12, 10, 9] (v := ?v6) (by kernel_rfl) (by kernel_rfl) rfl (by kernel_rfl) (by kernel_rfl) (by kernel_rfl) (fun _ _ _ h => h) (Or.inl ⟨by rfl, ?y6⟩) hHeld ?r6
  case y6 => (intro w' hSw; (try dsimp only at hSw); have q1 := (R0.out.up hSw (by omega)).cell (j := 0) (v := .slice pa S.parts.length pc) rfl; have q2 := (R0.out.up hSw (by omega)).cell (j := 1) (v := .slice ka S.chans.length kc) rfl; clear hSw; go_simp; try with_reducible rfl)
  simp only [Act.put, List.getElem_toArray, List.getElem_cons_zero, List.getElem_cons_succ, List.setIfInBounds_toArray, List.set_cons_zero, List.set_cons_succ]
  refine Still.takeBy (i := 9) [13, 12, 10] (v := ?v7) (by kernel_rfl) (by kernel_rfl) rfl (by kernel_rfl) (by kernel_rfl) (by kernel_rfl) (fun _ _ _ h => h) (Or.inl ⟨by rfl, ?y7⟩) hHeld ?r7
  case y7 => (intro w' hSw; (try dsimp only at hSw); have q1 := (R0.out.up hSw (by omega)).cell (j := 0) (v := .slice pa S.parts.length pc) rfl; have q2 := (R0.out.up hSw (by omega)).cell (j := 1) (v := .slice ka S.chans.length kc) rfl; clear hSw; go_simp; try with_reducible rfl)
  simp only [Act.put, List.getElem_toArray, List.getElem_cons_zero, List.getElem_cons_succ, List.setIfInBounds_toArray, List.set_cons_zero, List.set_cons_succ]
  refine Still.takeBy (i := 10) [13, 12] (v := ?v8) (by kernel_rfl) (by kernel_rfl) rfl (by kernel_rfl) (by kernel_rfl) (by kernel_rfl) (fun _ _ _ h => h) (Or.inl ⟨by rfl, ?y8⟩) hHeld ?r8
  case y8 => (intro w' hSw; (try dsimp only at hSw); have q1 := (R0.out.up hSw (by omega)).cell (j := 0) (v := .slice pa S.parts.length pc) rfl; have q2 := (R0.out.up hSw (by omega)).cell (j := 1) (v := .slice ka S.chans.length kc) rfl; clear hSw; go_simp; try with_reducible rfl)
  simp only [Act.put, List.getElem_toArray, List.getElem_cons_zero, List.getElem_cons_succ, List.setIfInBounds_toArray, List.set_cons_zero, List.set_cons_succ]
  refine Still.all (rs := [5]) (by kernel_rfl) (by simp) (Still.one (i := 5) rfl rfl (fun K hK => ?_) (by simp))
  refine wp_call 33 _ _ rfl entCellSize #[] (by first | rfl | simp [Act.eval, Act.put]) ((cellSize_any _).mono ?_)
  rintro e w1 ⟨rfl, b1⟩
  have B1 : Hid (Below X.heap.size X w1) := Lib.hid (((Below.refl _ _).drew).trans b1)
  refine ⟨_, rfl, hK _ _ (fun _ => B1.out) (fun hh => ?_)⟩
  have hHeld := hh (by decide)
  clear hK K hh
  try simp only [Act.put, List.getElem_toArray, List.getElem_cons_zero, List.getElem_cons_succ, List.setIfInBounds_toArray, List.set_cons_zero, List.set_cons_succ]
  clear b1
  refine Still.takeBy (i := 6) [13, 7] (v := ?v9) (by kernel_rfl) (by kernel_rfl) rfl (by kernel_rfl) (by kernel_rfl) (by kernel_rfl) (fun _ _ _ h => h) (Or.inl ⟨by rfl, ?y9⟩) hHeld ?r9
  case y9 => (intro w' hSw; (try dsimp only at hSw); clear hSw; go_simp; rw [HMN.out]; try with_reducible rfl)
  simp only [Act.put, List.getElem_toArray, List.getElem_cons_zero, List.getElem_cons_succ, List.setIfInBounds_toArray, List.set_cons_zero, List.set_cons_succ]
  refine Still.takeBy (i := 7) [13] (v := ?v10) (by kernel_rfl) (by kernel_rfl) rfl (by kernel_rfl) (by kernel_rfl) (by kernel_rfl) (fun _ _ _ h => h) (Or.inl ⟨by rfl, ?y10⟩) hHeld ?r10
  case y10 => (intro w' hSw; (try dsimp only at hSw); clear hSw; go_simp; rw [HAN.out]; try with_reducible rfl)
  simp only [Act.put, List.getElem_toArray, List.getElem_cons_zero, List.getElem_cons_succ, List.setIfInBounds_toArray, List.set_cons_zero, List.set_cons_succ]
  refine Still.all (rs := [11]) (by kernel_rfl) (by simp) (Still.one (i := 11) rfl rfl (fun K hK => ?_) (by simp))
  refine wp_call 34 _ _ rfl entLineSize #[] (by first | rfl | simp [Act.eval, Act.put]) ((lineSize_any _).mono ?_)
  rintro e w2 ⟨rfl, hw⟩
  have hw' := hw.symm
  clear hw
  subst hw'
  refine ⟨_, rfl, hK _ _ (fun _ => B1.out) (fun hh => ?_)⟩
  have hHeld := hh (by decide)
  clear hK K hh
  try simp only [Act.put, List.getElem_toArray, List.getElem_cons_zero, List.getElem_cons_succ, List.setIfInBounds_toArray, List.set_cons_zero, List.set_cons_succ]
  refine Still.takeBy (i := 12) [13] (v := ?v11) (by kernel_rfl) (by kernel_rfl) rfl (by kernel_rfl) (by kernel_rfl) (by kernel_rfl) (fun _ _ _ h => h) (Or.inl ⟨by rfl, ?y11⟩) hHeld ?r11
  case y11 => (intro w' hSw; (try dsimp only at hSw); clear hSw; go_simp; rw [HMC.out]; try with_reducible rfl)
  simp only [Act.put, List.getElem_toArray, List.getElem_cons_zero, List.getElem_cons_succ, List.setIfInBounds_toArray, List.set_cons_zero, List.set_cons_succ]
  refine Still.takeBy (i := 13) [] (v := ?v12) (by kernel_rfl) (by kernel_rfl) rfl (by kernel_rfl) (by kernel_rfl) (by kernel_rfl) (fun _ _ _ h => h) (Or.inl ⟨by rfl, ?y12⟩) hHeld ?r12
  case y12 => (intro w' hSw; (try dsimp only at hSw); clear hSw; go_simp; rw [HAC.out]; try with_reducible rfl)
  simp only [Act.put, List.getElem_toArray, List.getElem_cons_zero, List.getElem_cons_succ, List.setIfInBounds_toArray, List.set_cons_zero, List.set_cons_succ]
  refine Still.all (rs := [14]) (by kernel_rfl) (by simp) (Still.one (i := 14) rfl rfl (fun K hK => ?_) (by simp))
  go_simp
  refine hK _ _ (fun h => absurd rfl h) (fun _ => ?_)
  clear hK K
  refine Still.over (by kernel_rfl) ?_ _
  clear hHeld
  have z1 := B1.out.size
  have D1 := Lib.hid (D0.out.trans (B1.out.mono (by omega)))
  have R01 := Lib.hid (R0.out.up B1.out (by omega))
  have R41 := Lib.hid (R4.out.up B1.out (by omega))
  clear R0 R4 D0
  by_cases hlen : l.length = tot
  rotate_left
  · have hneb : ((l.length : Int) != (tot : Int)) = true := by simp; omega
    have HN := Lib.hid (liftD_short (S := S) (l := l) (by have := HT.out.2; omega))
    clear hlen
    simp only [hneb]
    go_wp2_with (refine wpList_store_rowW rfl 30 (.tmp 4) (.tmp 28) rfl (w.heap.size + 1) #[.int .i64 0, .slice none 0 0, .slice none 0 0] rfl rfl 30 _ R41.out sizeWld rfl (by simp [Value.oneCell']) ?_)
    intro W4 HW4
    have r5 : Rw W4 (w.heap.size + 1) 30 #[.int .i64 0, .slice none 0 0, .slice none 0 0] := by rw [HW4.out]; exact R41.out.row _
    have HB4 := Lib.hid (show Below w.heap.size w W4 by rw [HW4.out]; exact below_row D1.out (by omega) _)
    clear HW4
    go_wp2
    refine bodyPost_ret (results_row_tmp Tryd.results12 _ _ (w.heap.size + 1) _ _ rfl rfl (run_loadVar_row _ _ 30 _ _ (0, 0) _ r5 Tryd.underlying30 rfl sizeWld)) rfl (.inl ⟨HN.out, rfl, HB4.out⟩)
  have hneb : ((l.length : Int) != (tot : Int)) = false := by simp; omega
  simp only [hneb]
  clear hneb
  have hlen1 : 0 < l.length := by have := HT.out.2; omega
  have hlen2 : l.length ≤ 1000 := by have := HT.out.2; omega
  have HLN : Hid (l.length = 1 + S.parts.length * 32 + S.chans.length * 4) := Lib.hid (by have := HT.out.2; omega)
  clear hlen
  obtain ⟨lb, lo, lcap, e1, hcap, hlb, hcells⟩ := HL.out.open hlen1
  cases e1
  have HCE := Lib.hid hcells
  have HLI := Lib.hid (show (0 : Int) < l.length by omega)
  have hl0 := HLI.out
  have c0 : w1.cell? ⟨lb, lo, none⟩ = some (.int .i64 (nthF l 0)) := rowAt hlb HCE.out D1.out hlen1
  have hbx : w.heap.size + 1 < w1.heap.size := by omega
  have HC : Hid (Wf w (w1.alloc (.cells #[.int .i64 (nthF l 0), .slice none 0 0, .slice none 0 0] 30)) w1.heap.size #[.slice pa S.parts.length pc, .slice ka S.chans.length kc, .slice sa S.slots.length sc] (nthF l 0) (.slice none 0 0) (.slice none 0 0) [] []) := Lib.hid ⟨D1.out.alloc (by omega) _, R01.out.alloc _, R41.out.alloc _, Rw.new _ _ _ rfl, NewV.nil _ _ _, hbx⟩
  clear hcells hcap R01 R41 D1 B1 HAC
  go_wp2
  clear c0
  go_loopw [7] (fun i wr => ∃ p : Nat, i = .int .i64 p ∧ p ≤ S.parts.length ∧ Hid (∃ vc, Wf w wr w1.heap.size #[.slice pa S.parts.length pc, .slice ka S.chans.length kc, .slice sa S.slots.length sc] (nthF l 0) vc (.slice none 0 0) ((List.range p).map fun p => cellL (l.drop (1 + p * 32))) [])) (fun i _ => S.parts.length - (intOf i).toNat)
  case atStart => exact ⟨0, rfl, Nat.zero_le _, Lib.hid ⟨_, HC.out⟩⟩
  case round =>
    clear HC
    obtain ⟨p, rfl, hp, HC⟩ := hrel
    obtain ⟨vc, hC⟩ := HC.out
    clear HC
    generalize hlk : (List.range p).map (fun p => cellL (l.drop (1 + p * 32))) = cs at hC
    have HLK := Lib.hid hlk
    have HLL : Hid (cs.length = p) := Lib.hid (by rw [← hlk]; simp)
    obtain ⟨a3, c3, rfl⟩ := hC.n.formC
    have CP := Lib.hid hC
    have q0 := hC.r0.cell (j := 0) (v := .slice pa S.parts.length pc) rfl
    clear hlk hC
    by_cases hlt : p < S.parts.length
    · have hli : (p : Int) < S.parts.length := by omega
      obtain ⟨p32, hp32⟩ : ∃ p32 : Nat, p32 = p * 32 := ⟨_, rfl⟩
      obtain ⟨at0, hat0⟩ : ∃ at0 : Nat, at0 = 1 + p32 := ⟨_, rfl⟩
      obtain ⟨at1, hat1⟩ : ∃ at1 : Nat, at1 = at0 + 1 := ⟨_, rfl⟩
      obtain ⟨at5, hat5⟩ : ∃ at5 : Nat, at5 = at1 + 4 := ⟨_, rfl⟩
      obtain ⟨at13, hat13⟩ : ∃ at13 : Nat, at13 = at5 + 8 := ⟨_, rfl⟩
      obtain ⟨at14, hat14⟩ : ∃ at14 : Nat, at14 = at13 + 1 := ⟨_, rfl⟩
      obtain ⟨at15, hat15⟩ : ∃ at15 : Nat, at15 = at13 + 2 := ⟨_, rfl⟩
      have hp100 : p32 ≤ 100 := by omega
      have hw0 : IntKind.i64.wrap ((p : Int) * 32) = (p32 : Int) := by simp [IntKind.wrap, IntKind.bits, IntKind.signed]; omega
      have hw1 : IntKind.i64.wrap (1 + (p32 : Int)) = (at0 : Int) := by simp [IntKind.wrap, IntKind.bits, IntKind.signed]; omega
      have hw2 : IntKind.i64.wrap ((at0 : Int) + 1) = (at1 : Int) := by simp [IntKind.wrap, IntKind.bits, IntKind.signed]; omega
      have hw3 : IntKind.i64.wrap ((at1 : Int) + 4) = (at5 : Int) := by simp [IntKind.wrap, IntKind.bits, IntKind.signed]; omega
      have hw4 : IntKind.i64.wrap ((at5 : Int) + 8) = (at13 : Int) := by simp [IntKind.wrap, IntKind.bits, IntKind.signed]; omega
      have hw5 : IntKind.i64.wrap ((at13 : Int) + 1) = (at14 : Int) := by simp [IntKind.wrap, IntKind.bits, IntKind.signed]; omega
      have hw6 : IntKind.i64.wrap ((at13 : Int) + 2) = (at15 : Int) := by simp [IntKind.wrap, IntKind.bits, IntKind.signed]; omega
      have HA : Hid (at0 = 1 + p * 32 ∧ at1 = at0 + 1 ∧ at5 = at0 + 5 ∧ at13 = at0 + 13 ∧ at14 = at0 + 14 ∧ at15 = at0 + 15 ∧ at0 + 32 ≤ l.length) := Lib.hid (by have := HLN.out; omega)
      obtain ⟨q, hq⟩ : ∃ q, q = l.drop at0 := ⟨_, rfl⟩
      have HQ : Hid (q = l.drop (1 + p * 32)) := Lib.hid (by rw [hq, HA.out.1])
      have HQA : Hid (∀ w', Below w.heap.size w w' → ∀ i, i < 32 → w'.cell? ⟨lb, lo + (at0 + i), none⟩ = some (.int .i64 (nthF q i))) := Lib.hid fun w' hb i hi => by
        rw [rowAt hlb HCE.out hb (by have := HA.out; omega), hq]
        simp [nthF, List.getElem?_drop]
      clear hq hp32 hat0 hat1 hat5 hat13 hat14 hat15
      have HW1 := Lib.hid hw1
      go_wp2_with fail
      refine (cellSize_any wr).mono ?_
      rintro e w2 ⟨rfl, b2⟩
      have CP2 := Lib.hid (CP.out.up b2)
      have c1 := HQA.out w2 CP2.out.d 0 (by omega)
      rw [Nat.add_zero] at c1
      have h1 : (at0 : Int) < l.length := by have := HA.out; omega
      clear b2 CP q0
      go_wp2_with (refine wpList_store_rowW rfl 62 (.tmp 9) (.tmp 48) rfl w2.heap.size ((celTo q 0 0).cs (.slice none 0 0)) rfl rfl 62 (celZ.cs (.slice none 0 0)) (by repeat (first | exact Rw.new _ _ _ (by first | rfl | (simp; done) | omega | (simp; omega)) | refine Rw.alloc ?_ _)) sizeCell rfl (Cel.cs_one _ _ rfl) ?_)
      intro W5 HW5
      have b5 : Below w2.heap.size w2 W5 := by rw [HW5.out]; exact below_row ((Below.refl _ _).alloc (Nat.le_refl _) _) (Nat.le_refl _) _
      have RC : Hid (Rw W5 w2.heap.size 62 ((celTo q 0 0).cs (.slice none 0 0))) := by
        show Rw _ _ _ _
        rw [HW5.out]
        exact Rw.row (cs := celZ.cs (.slice none 0 0)) (by repeat (first | exact Rw.new _ _ _ (by first | rfl | (simp; done) | omega | (simp; omega)) | refine Rw.alloc ?_ _)) _
      have B5 := Lib.hid b5
      clear b5 HW5 c1 h1 hw0 hw1 hw5 hw6
      go_wp2
      go_loopw [10] (fun i wr => ∃ j : Nat, i = .int .i64 j ∧ j ≤ 4 ∧ Hid (Below w2.heap.size w2 wr) ∧ Hid (Rw wr w2.heap.size 62 ((celTo q j 0).cs (.slice none 0 0)))) (fun i _ => 4 - (intOf i).toNat)
      case atStart => exact ⟨0, rfl, Nat.zero_le _, B5, RC⟩
      case round =>
        clear B5 RC
        obtain ⟨j, rfl, hj, HB, HR⟩ := hrel
        by_cases hj4 : j < 4
        · have hji : (j : Int) < 4 := by omega
          obtain ⟨aj, haj⟩ : ∃ aj : Nat, aj = at1 + j := ⟨_, rfl⟩
          have hwj : IntKind.i64.wrap ((at1 : Int) + (j : Int)) = (aj : Int) := by have := HA.out; have := hp100; simp [IntKind.wrap, IntKind.bits, IntKind.signed]; omega
          have cj := HQA.out wr (CP2.out.d.trans (HB.out.mono CP2.out.d.size)) (1 + j) (by omega)
          rw [show at0 + (1 + j) = aj by have := HA.out; omega] at cj
          have hjl : (aj : Int) < l.length := by have := HA.out; omega
          have kj := HR.out.cell (celTo_reg_at q j hj4)
          have fj := HR.out.fr (1 + j)
          have HRJ : Hid (Rw (wr.setCell ⟨w2.heap.size, 1 + j, none⟩ (.int .i64 (nthF q (1 + j)))) w2.heap.size 62 ((celTo q (j + 1) 0).cs (.slice none 0 0))) := Lib.hid (by rw [← celTo_reg q j hj4]; exact HR.out.set (1 + j) _)
          have HBJ := Lib.hid (HB.out.setCell (p := ⟨w2.heap.size, 1 + j, none⟩) (Nat.le_refl _) (.int .i64 (nthF q (1 + j))))
          clear haj HB HR
          generalize nthF q (1 + j) = xj at cj HRJ HBJ
          go_wp2
          go_roundw
          case rel => exact ⟨j + 1, by go_num, by omega, HBJ, HRJ⟩
          case measure => simp [intOf]; omega
        · have hji : ¬ (j : Int) < 4 := by omega
          obtain rfl : j = 4 := by omega
          clear hj4 hj
          go_wp2
          go_loopw [11] (fun i wr => ∃ k : Nat, i = .int .i64 k ∧ k ≤ 8 ∧ Hid (Below w2.heap.size w2 wr) ∧ Hid (Rw wr w2.heap.size 62 ((celTo q 4 k).cs (.slice none 0 0)))) (fun i _ => 8 - (intOf i).toNat)
          case atStart => exact ⟨0, rfl, Nat.zero_le _, HB, HR⟩
          case round =>
            clear HB HR hji
            obtain ⟨k, rfl, hk, HB, HR⟩ := hrel
            by_cases hk8 : k < 8
            · have hki : (k : Int) < 8 := by omega
              obtain ⟨ak, hak⟩ : ∃ ak : Nat, ak = at5 + k := ⟨_, rfl⟩
              have hwk : IntKind.i64.wrap ((at5 : Int) + (k : Int)) = (ak : Int) := by have := HA.out; have := hp100; simp [IntKind.wrap, IntKind.bits, IntKind.signed]; omega
              have ck := HQA.out wr (CP2.out.d.trans (HB.out.mono CP2.out.d.size)) (5 + k) (by omega)
              rw [show at0 + (5 + k) = ak by have := HA.out; omega] at ck
              have hkl : (ak : Int) < l.length := by have := HA.out; omega
              have kk := HR.out.cell (celTo_mem_at q k hk8)
              have fk := HR.out.fr (5 + k)
              have HRK : Hid (Rw (wr.setCell ⟨w2.heap.size, 5 + k, none⟩ (.int .i64 (nthF q (5 + k)))) w2.heap.size 62 ((celTo q 4 (k + 1)).cs (.slice none 0 0))) := Lib.hid (by rw [← celTo_mem q k hk8]; exact HR.out.set (5 + k) _)
              have HBK := Lib.hid (HB.out.setCell (p := ⟨w2.heap.size, 5 + k, none⟩) (Nat.le_refl _) (.int .i64 (nthF q (5 + k))))
              clear hak HB HR
              generalize nthF q (5 + k) = xk at ck HRK HBK
              go_wp2
              go_roundw
              case rel => exact ⟨k + 1, by go_num, by omega, HBK, HRK⟩
              case measure => simp [intOf]; omega
            · have hki : ¬ (k : Int) < 8 := by omega
              obtain rfl : k = 8 := by omega
              clear hk8 hk
              have zlb : lb < w2.heap.size := by have := CP2.out.d.size; omega
              have DWR := Lib.hid (CP2.out.d.trans (HB.out.mono CP2.out.d.size))
              have DWD := DWR
              have c13 := HQA.out wr DWD.out 13 (by omega)
              rw [show at0 + 13 = at13 by have := HA.out; omega] at c13
              have c14 := HQA.out wr DWD.out 14 (by omega)
              rw [show at0 + 14 = at14 by have := HA.out; omega] at c14
              have h13 : (at13 : Int) < l.length := by have := HA.out; omega
              have h14 : (at14 : Int) < l.length := by have := HA.out; omega
              have hw5 : IntKind.i64.wrap ((at13 : Int) + 1) = (at14 : Int) := by have := HA.out; have := hp100; simp [IntKind.wrap, IntKind.bits, IntKind.signed]; omega
              have HRD := HR
              have k13 := HRD.out.cell (j := 13) (v := .int .i64 0) rfl
              have f13 := HRD.out.fr 13
              have HR13 := Lib.hid (HRD.out.set 13 (.int .i64 (nthF q 13)))
              have k15 := HR13.out.cell (j := 15) (v := .int .i64 0) rfl
              have f15 := HR13.out.fr 15
              have HR15 : Hid (Rw ((wr.setCell ⟨w2.heap.size, 13, none⟩ (.int .i64 (nthF q 13))).setCell ⟨w2.heap.size, 15, none⟩ (.int .i64 (nthF q 14))).drew w2.heap.size 62 ((cellL q).c.cs (.slice none 0 0))) := Lib.hid (HR13.out.set 15 (.int .i64 (nthF q 14)))
              have HB15 : Hid (Below w2.heap.size w2 ((wr.setCell ⟨w2.heap.size, 13, none⟩ (.int .i64 (nthF q 13))).setCell ⟨w2.heap.size, 15, none⟩ (.int .i64 (nthF q 14))).drew) := Lib.hid ((HB.out.setCell (p := ⟨w2.heap.size, 13, none⟩) (Nat.le_refl _) (.int .i64 (nthF q 13))).setCell (p := ⟨w2.heap.size, 15, none⟩) (Nat.le_refl _) (.int .i64 (nthF q 14))).drew
              clear HR HB HR13 HRD DWR DWD
              have hw7 : IntKind.i64.wrap ((at13 : Int) + 2) = (at15 : Int) := by have := HA.out; have := hp100; simp [IntKind.wrap, IntKind.bits, IntKind.signed]; omega
              have HW7 := Lib.hid hw7
              clear hw7
              generalize nthF q 13 = x13 at c13 k15 f15 HR15 HB15
              generalize nthF q 14 = x14 at c14 HR15 HB15
              have C14 : Hid ((wr.setCell ⟨w2.heap.size, 13, none⟩ (.int .i64 x13)).cell? ⟨lb, lo + at14, none⟩ = some (.int .i64 x14)) := Lib.hid (cl_set (Or.inl (by simp; omega)) c14)
              have C13 : Hid ((wr.setCell ⟨w2.heap.size, 13, none⟩ (.int .i64 x13)).cell? ⟨lb, lo + at13, none⟩ = some (.int .i64 x13)) := Lib.hid (cl_set (Or.inl (by simp; omega)) c13)
              go_wp2
              have K15 := Lib.hid k15
              have F15 := Lib.hid f15
              clear k15 f15
              refine region_still (S := fun w' => w'.cell? ⟨lb, lo + at13, none⟩ = some (.int .i64 x13) ∧ w'.cell? ⟨lb, lo + at14, none⟩ = some (.int .i64 x14)) 12 (by kernel_rfl) ⟨c13, c14⟩ (fun hHeld => ?_)
              clear c13 c14
              refine Still.takeBy (i := 0) [] (v := ?v101) (by kernel_rfl) (by kernel_rfl) rfl (by kernel_rfl) (by kernel_rfl) (by kernel_rfl) (fun _ _ _ h => h) (Or.inl ⟨by rfl, ?y101⟩) hHeld ?r101
              case y101 => (intro w' hSw; (try dsimp only at hSw); obtain ⟨y1, y2⟩ := hSw; go_simp; try with_reducible rfl)
              simp only [Act.put, List.getElem_toArray, List.getElem_cons_zero, List.getElem_cons_succ, List.setIfInBounds_toArray, List.set_cons_zero, List.set_cons_succ]
              refine Still.takeBy (i := 1) [] (v := ?v102) (by kernel_rfl) (by kernel_rfl) rfl (by kernel_rfl) (by kernel_rfl) (by kernel_rfl) (fun _ _ _ h => h) (Or.inl ⟨by rfl, ?y102⟩) hHeld ?r102
              case y102 => (intro w' hSw; (try dsimp only at hSw); obtain ⟨y1, y2⟩ := hSw; go_simp; try with_reducible rfl)
              simp only [Act.put, List.getElem_toArray, List.getElem_cons_zero, List.getElem_cons_succ, List.setIfInBounds_toArray, List.set_cons_zero, List.set_cons_succ]
              refine Still.takeBy (i := 2) [] (v := ?v103) (by kernel_rfl) (by kernel_rfl) rfl (by kernel_rfl) (by kernel_rfl) (by kernel_rfl) (fun _ _ _ h => h) (Or.inl ⟨by rfl, ?y103⟩) hHeld ?r103
              case y103 => (intro w' hSw; (try dsimp only at hSw); obtain ⟨y1, y2⟩ := hSw; go_simp; try with_reducible rfl)
              simp only [Act.put, List.getElem_toArray, List.getElem_cons_zero, List.getElem_cons_succ, List.setIfInBounds_toArray, List.set_cons_zero, List.set_cons_succ]
              refine Still.takeBy (i := 3) [] (v := ?v104) (by kernel_rfl) (by kernel_rfl) rfl (by kernel_rfl) (by kernel_rfl) (by kernel_rfl) (fun _ _ _ h => h) (Or.inl ⟨by rfl, ?y104⟩) hHeld ?r104
              case y104 => (intro w' hSw; (try dsimp only at hSw); obtain ⟨y1, y2⟩ := hSw; go_simp; try with_reducible rfl)
              simp only [Act.put, List.getElem_toArray, List.getElem_cons_zero, List.getElem_cons_succ, List.setIfInBounds_toArray, List.set_cons_zero, List.set_cons_succ]
              refine Still.takeBy (i := 4) [] (v := ?v105) (by kernel_rfl) (by kernel_rfl) rfl (by kernel_rfl) (by kernel_rfl) (by kernel_rfl) (fun _ _ _ h => h) (Or.inl ⟨by rfl, ?y105⟩) hHeld ?r105
              case y105 => (intro w' hSw; (try dsimp only at hSw); obtain ⟨y1, y2⟩ := hSw; go_simp; try with_reducible rfl)
              simp only [Act.put, List.getElem_toArray, List.getElem_cons_zero, List.getElem_cons_succ, List.setIfInBounds_toArray, List.set_cons_zero, List.set_cons_succ]
              refine Still.takeBy (i := 5) [] (v := ?v106) (by kernel_rfl) (by kernel_rfl) rfl (by kernel_rfl) (by kernel_rfl) (by kernel_rfl) (fun _ _ _ h => h) (Or.inl ⟨by rfl, ?y106⟩) hHeld ?r106
              case y106 => (intro w' hSw; (try dsimp only at hSw); obtain ⟨y1, y2⟩ := hSw; go_simp; try with_reducible rfl)
              simp only [Act.put, List.getElem_toArray, List.getElem_cons_zero, List.getElem_cons_succ, List.setIfInBounds_toArray, List.set_cons_zero, List.set_cons_succ]
              refine Still.takeBy (i := 6) [] (v := ?v107) (by kernel_rfl) (by kernel_rfl) rfl (by kernel_rfl) (by kernel_rfl) (by kernel_rfl) (fun _ _ _ h => h) (Or.inl ⟨by rfl, ?y107⟩) hHeld ?r107
              case y107 => (intro w' hSw; (try dsimp only at hSw); obtain ⟨y1, y2⟩ := hSw; go_simp; try with_reducible rfl)
              simp only [Act.put, List.getElem_toArray, List.getElem_cons_zero, List.getElem_cons_succ, List.setIfInBounds_toArray, List.set_cons_zero, List.set_cons_succ]
              refine Still.takeBy (i := 7) [] (v := ?v108) (by kernel_rfl) (by kernel_rfl) rfl (by kernel_rfl) (by kernel_rfl) (by kernel_rfl) (fun _ _ _ h => h) (Or.inl ⟨by rfl, ?y108⟩) hHeld ?r108
              case y108 => (intro w' hSw; (try dsimp only at hSw); obtain ⟨y1, y2⟩ := hSw; go_simp; try with_reducible rfl)
              simp only [Act.put, List.getElem_toArray, List.getElem_cons_zero, List.getElem_cons_succ, List.setIfInBounds_toArray, List.set_cons_zero, List.set_cons_succ]
              refine Still.takeBy (i := 8) [] (v := ?v109) (by kernel_rfl) (by kernel_rfl) rfl (by kernel_rfl) (by kernel_rfl) (by kernel_rfl) (fun _ _ _ h => h) (Or.inl ⟨by rfl, ?y109⟩) hHeld ?r109
              case y109 => (intro w' hSw; (try dsimp only at hSw); obtain ⟨y1, y2⟩ := hSw; go_simp; try with_reducible rfl)
              simp only [Act.put, List.getElem_toArray, List.getElem_cons_zero, List.getElem_cons_succ, List.setIfInBounds_toArray, List.set_cons_zero, List.set_cons_succ]
              refine Still.takeBy (i := 9) [] (v := ?v110) (by kernel_rfl) (by kernel_rfl) rfl (by kernel_rfl) (by kernel_rfl) (by kernel_rfl) (fun _ _ _ h => h) (Or.inl ⟨by rfl, ?y110⟩) hHeld ?r110
              case y110 => (intro w' hSw; (try dsimp only at hSw); obtain ⟨y1, y2⟩ := hSw; go_simp; try with_reducible rfl)
              simp only [Act.put, List.getElem_toArray, List.getElem_cons_zero, List.getElem_cons_succ, List.setIfInBounds_toArray, List.set_cons_zero, List.set_cons_succ]
              refine Still.all (rs := [10]) (by kernel_rfl) (by simp) (Still.one (i := 10) rfl rfl (fun K hK => ?_) (by simp))
              clear hHeld
              go_simp
              refine hK _ _ (fun _ => ⟨C13.out, C14.out⟩) (fun hh => ?_)
              have hHeld := hh (by decide)
              clear hK K hh
              try simp only [Act.put, List.getElem_toArray, List.getElem_cons_zero, List.getElem_cons_succ, List.setIfInBounds_toArray, List.set_cons_zero, List.set_cons_succ]
              have k15 := K15.out
              have f15 := F15.out
              refine Still.takeBy (i := 11) [] (v := ?v111) (by kernel_rfl) (by kernel_rfl) rfl (by kernel_rfl) (by kernel_rfl) (by kernel_rfl) (fun _ _ _ h => h) (Or.inl ⟨by rfl, ?y111⟩) hHeld ?r111
              case y111 => (intro w' hSw; (try dsimp only at hSw); clear hSw; go_simp; try with_reducible rfl)
              simp only [Act.put, List.getElem_toArray, List.getElem_cons_zero, List.getElem_cons_succ, List.setIfInBounds_toArray, List.set_cons_zero, List.set_cons_succ]
              refine Still.all (rs := [12]) (by kernel_rfl) (by simp) (Still.one (i := 12) rfl rfl (fun K hK => ?_) (by simp))
              go_simp
              refine hK _ _ (fun h => absurd rfl h) (fun _ => ?_)
              clear hK K
              refine Still.over (by kernel_rfl) ?_ _
              clear hHeld k13 f13 k15 f15
              generalize ((wr.setCell ⟨w2.heap.size, 13, none⟩ (.int .i64 x13)).setCell ⟨w2.heap.size, 15, none⟩ (.int .i64 x14)).drew = W6 at HR15 HB15 ⊢
              have z2 := HB15.out.size
              have zb2 := CP2.out.z
              have C6 := Lib.hid (CP2.out.up HB15.out)
              have hw8 := HW7.out
              clear hw5 h13 h14 C13 C14 HW7 hw2 hw3 hw4 K15 F15
              go_wp2_with fail
              refine (listAt_any l at15 16 (by omega) (by have := HA.out; omega) hlen2 _ W6 (HL.out.up C6.out.d)).mono ?_
              rintro e W7 ⟨v7, rfl, hown, b7⟩
              obtain ⟨c, hc⟩ : ∃ c, c = (cellL q).c := ⟨_, rfl⟩
              obtain ⟨out, hout⟩ : ∃ out, out = listC 16 (l.drop at15) := ⟨_, rfl⟩
              have HCL : Hid ((⟨c, out⟩ : CelD) = cellL (l.drop (1 + p * 32))) := Lib.hid (by
                rw [← HQ.out, hc, hout]
                show _ = (⟨(cellL q).c, listC 16 (q.drop 15)⟩ : CelD)
                rw [HQ.out, List.drop_drop, show 1 + p * 32 + 15 = at15 by have := HA.out; omega])
              rw [← hout] at hown
              rw [← hc] at HR15
              obtain ⟨a2, c2, rfl⟩ := own_form hown
              have hob := own_block hown
              have hol2 := own_lt hown
              have z7 := b7.size
              have RW2 := Lib.hid (HR15.out.up b7 HR15.out.lt)
              have z6 := HR15.out.lt
              have B2 := Lib.hid (HB15.out.trans (b7.mono (by omega)))
              have OW := Lib.hid hown
              clear b7 hown HR15 HB15 hc hout hw8
              go_wp2_with (refine wpList_store_cellW rfl 31 (.tmp 97) (.tmp 96) rfl w2.heap.size 14 (.slice a2 out.length c2) rfl rfl rfl 62 (c.cs (.slice none 0 0)) RW2.out (by show 14 < 16; decide) sizeInts ?_)
              intro W3 HW3
              have HZ3 : Hid (W3.heap.size = W7.heap.size) := by
                show _ = _
                rw [HW3.out]
                exact size_set ..
              have RW3 : Hid (Rw W3 w2.heap.size 62 (c.cs (.slice a2 out.length c2))) := by
                show Rw _ _ _ _
                rw [HW3.out]
                exact RW2.out.set 14 _
              have B3 : Hid (Below w2.heap.size w2 W3) := by
                show Below _ _ _
                rw [HW3.out]
                exact B2.out.setCell (p := ⟨w2.heap.size, 14, none⟩) (Nat.le_refl _) _
              have S3 : Hid (Sl W3 1 (.slice a2 out.length c2) out.length (ints out)) := by
                show Sl _ _ _ _ _
                rw [HW3.out]
                exact (own_sl OW.out).set _ (fun e => by have := hob _ e; omega)
              have CP3 := Lib.hid (CP2.out.up B3.out)
              have IN : Hid (In (w1.heap.size + 1) 0 W3 (.slice a3 cs.length c3) (.slice none 0 0) (.slice a2 out.length c2)) := fun x e => by
                have h1 := hob x e
                have h2 := hol2 x e
                have h3 := HZ3.out
                refine ⟨by omega, by omega, fun e' => ?_, fun e' => by cases e'⟩
                have := (CP2.out.n.ltC x e').2
                omega
              clear HW3 RW2 B2 OW C6 hob hol2
              obtain ⟨ps, hps, hadd⟩ := (CP3.out.n.alloc (.cells (c.cs (.slice a2 out.length c2)) 62)).addC ⟨c, out⟩ (.slice a2 out.length c2) (S3.out.up ((Below.refl _ _).alloc (Nat.le_refl _) _)) (IN.out.up (by simp))
              have HPS := Lib.hid hps
              have HADD := Lib.hid hadd
              have q3 := CP3.out.r6.cell (j := 1) (v := .slice a3 cs.length c3) rfl
              clear hps hadd S3 IN
              go_wp2_with (first | (refine wpList_load_row rfl 62 (.tmp 9) rfl w2.heap.size rfl 62 (c.cs (.slice a2 out.length c2)) (0, 0) _ RW3.out Tryd.underlying62 rfl sizeCell ?_) | (refine wpList_buildOne rfl 27 62 (.tmp 100) rfl (c.cs (.slice a2 out.length c2)) rfl Tryd.underlying27 sizeCell zeroCell (by show 0 < 16; decide) (by show 16 ≤ 2 ^ 24; decide) ?_) | (at_builtin; refine wpList_append_lies _ rfl (.tmp 99) (.tmp 101) 27 rfl (w1.heap.size + 1) 62 i1 _ 16 144 Tryd.underlying27 hi1 hy0 hy1 hy2 rfl (by decide) _ cs.length (rowC celC ps) rfl HPS.out ⟨W3.heap.size, 0, none⟩ 1 1 (c.cs (.slice a2 out.length c2)).toList rfl (cs_len _ _) (new_range _ _ _ _ rfl) (cs_oneL _ _ rfl) (by decide) (by have := HLL.out; unfold maxLen; omega) (by have := HLL.out; omega) (by have := HZ3.out; simp; omega) _ rfl ?_))
              intro g4 cap4 W4 hown hgrow hat hg4
              have hn4 := HADD.out _ W4 hown hgrow (hat.imp (fun e => e) (fun e => ⟨g4, rfl, by rw [e]; simp⟩))
              obtain ⟨hC5, hr5⟩ := (CP3.out.up (wr' := W3.alloc (.cells (c.cs (.slice a2 out.length c2)) 62)) ((Below.refl _ _).alloc (Nat.le_refl _) _)).grow hgrow hn4
              have C5 := Lib.hid hC5
              have R5 := Lib.hid hr5
              clear hown hgrow hat hn4 hC5 hr5 HADD HPS CP3 RW3 B3 q3
              go_wp2_with (refine wpList_store_cellW rfl 27 (.tmp 103) (.tmp 102) rfl w1.heap.size 1 (.slice (some ⟨g4, 0, none⟩) (cs.length + 1) cap4) rfl rfl rfl 30 _ R5.out (by show 1 < 3; decide) sizeCells ?_)
              intro W5 HW5
              rw [← HW5.out] at C5
              clear HW5 R5
              go_wp2
              go_roundw
              case rel => exact ⟨p + 1, by go_num, by omega, Lib.hid ⟨_, by rw [List.range_succ, List.map_append, HLK.out, List.map_singleton, ← HCL.out]; exact C5.out⟩⟩
              case measure => simp [intOf]; omega
    · have hli : ¬ (p : Int) < S.parts.length := by omega
      obtain rfl : p = S.parts.length := by omega
      clear hlt hp
      go_wp2
      clear q0
      go_loopw [12] (fun i wr => ∃ k : Nat, i = .int .i64 k ∧ k ≤ S.chans.length ∧ Hid (∃ vl, Wf w wr w1.heap.size #[.slice pa S.parts.length pc, .slice ka S.chans.length kc, .slice sa S.slots.length sc] (nthF l 0) (.slice a3 cs.length c3) vl cs ((List.range k).map fun k => listC 3 (l.drop (1 + S.parts.length * 32 + k * 4))))) (fun i _ => S.chans.length - (intOf i).toNat)
      case atStart => exact ⟨0, rfl, Nat.zero_le _, Lib.hid ⟨_, CP.out⟩⟩
      case round =>
        clear CP hli
        obtain ⟨k, rfl, hk, HC⟩ := hrel
        obtain ⟨vl, hC⟩ := HC.out
        clear HC
        generalize hlk2 : (List.range k).map (fun k => listC 3 (l.drop (1 + S.parts.length * 32 + k * 4))) = ls at hC
        have HLK2 := Lib.hid hlk2
        have HLL2 : Hid (ls.length = k) := Lib.hid (by rw [← hlk2]; simp)
        obtain ⟨a4, c4, rfl⟩ := hC.n.formL
        have CP := Lib.hid hC
        have q0 := hC.r0.cell (j := 1) (v := .slice ka S.chans.length kc) rfl
        clear hlk2 hC
        by_cases hlt : k < S.chans.length
        · have hli : (k : Int) < S.chans.length := by omega
          obtain ⟨k4, hk4⟩ : ∃ k4 : Nat, k4 = k * 4 := ⟨_, rfl⟩
          obtain ⟨ak, hak⟩ : ∃ ak : Nat, ak = n33 + k4 := ⟨_, rfl⟩
          have HKM : Hid (IntKind.i64.wrap ((k : Int) * 4) = (k4 : Int)) := Lib.hid (by simp [IntKind.wrap, IntKind.bits, IntKind.signed]; omega)
          have HKA : Hid (IntKind.i64.wrap ((n33 : Int) + (k4 : Int)) = (ak : Int)) := Lib.hid (by have := HT.out; simp [IntKind.wrap, IntKind.bits, IntKind.signed]; omega)
          have HAK : Hid (ak = 1 + S.parts.length * 32 + k * 4 ∧ ak + 3 < l.length) := Lib.hid (by have := HT.out; have := HLN.out; omega)
          clear hk4 hak
          have hbz := CP.out.lb
          have hzz := CP.out.z
          have HVC := Lib.hid CP.out.n.ltC
          have HVL := Lib.hid CP.out.n.ltL
          go_wp2
          clear q0
          refine region_still (S := fun w' => Below (w1.heap.size + 1) wr w') 18 (by kernel_rfl) (Below.refl _ _).drew (fun hHeld => ?_)
          refine Still.takeBy (i := 0) [] (v := ?v201) (by kernel_rfl) (by kernel_rfl) rfl (by kernel_rfl) (by kernel_rfl) (by kernel_rfl) (fun _ _ _ h => h) (Or.inl ⟨by rfl, ?y201⟩) hHeld ?r201
          case y201 => (intro w' hSw; (try dsimp only at hSw); have y1 := (CP.out.r6.up hSw (by omega)).cell (j := 2) (v := .slice a4 ls.length c4) rfl; have y2 := (CP.out.r0.up hSw (by omega)).cell (j := 0) (v := .slice pa S.parts.length pc) rfl; clear hSw; go_simp; try with_reducible rfl)
          simp only [Act.put, List.getElem_toArray, List.getElem_cons_zero, List.getElem_cons_succ, List.setIfInBounds_toArray, List.set_cons_zero, List.set_cons_succ]
          refine Still.takeBy (i := 1) [] (v := ?v202) (by kernel_rfl) (by kernel_rfl) rfl (by kernel_rfl) (by kernel_rfl) (by kernel_rfl) (fun _ _ _ h => h) (Or.inl ⟨by rfl, ?y202⟩) hHeld ?r202
          case y202 => (intro w' hSw; (try dsimp only at hSw); have y1 := (CP.out.r6.up hSw (by omega)).cell (j := 2) (v := .slice a4 ls.length c4) rfl; have y2 := (CP.out.r0.up hSw (by omega)).cell (j := 0) (v := .slice pa S.parts.length pc) rfl; clear hSw; go_simp; try with_reducible rfl)
          simp only [Act.put, List.getElem_toArray, List.getElem_cons_zero, List.getElem_cons_succ, List.setIfInBounds_toArray, List.set_cons_zero, List.set_cons_succ]
          refine Still.takeBy (i := 2) [] (v := ?v203) (by kernel_rfl) (by kernel_rfl) rfl (by kernel_rfl) (by kernel_rfl) (by kernel_rfl) (fun _ _ _ h => h) (Or.inl ⟨by rfl, ?y203⟩) hHeld ?r203
          case y203 => (intro w' hSw; (try dsimp only at hSw); have y1 := (CP.out.r6.up hSw (by omega)).cell (j := 2) (v := .slice a4 ls.length c4) rfl; have y2 := (CP.out.r0.up hSw (by omega)).cell (j := 0) (v := .slice pa S.parts.length pc) rfl; clear hSw; go_simp; try with_reducible rfl)
          simp only [Act.put, List.getElem_toArray, List.getElem_cons_zero, List.getElem_cons_succ, List.setIfInBounds_toArray, List.set_cons_zero, List.set_cons_succ]
          refine Still.takeBy (i := 3) [] (v := ?v204) (by kernel_rfl) (by kernel_rfl) rfl (by kernel_rfl) (by kernel_rfl) (by kernel_rfl) (fun _ _ _ h => h) (Or.inl ⟨by rfl, ?y204⟩) hHeld ?r204
          case y204 => (intro w' hSw; (try dsimp only at hSw); have y1 := (CP.out.r6.up hSw (by omega)).cell (j := 2) (v := .slice a4 ls.length c4) rfl; have y2 := (CP.out.r0.up hSw (by omega)).cell (j := 0) (v := .slice pa S.parts.length pc) rfl; clear hSw; go_simp; try with_reducible rfl)
          simp only [Act.put, List.getElem_toArray, List.getElem_cons_zero, List.getElem_cons_succ, List.setIfInBounds_toArray, List.set_cons_zero, List.set_cons_succ]
          refine Still.takeBy (i := 4) [] (v := ?v205) (by kernel_rfl) (by kernel_rfl) rfl (by kernel_rfl) (by kernel_rfl) (by kernel_rfl) (fun _ _ _ h => h) (Or.inl ⟨by rfl, ?y205⟩) hHeld ?r205
          case y205 => (intro w' hSw; (try dsimp only at hSw); have y1 := (CP.out.r6.up hSw (by omega)).cell (j := 2) (v := .slice a4 ls.length c4) rfl; have y2 := (CP.out.r0.up hSw (by omega)).cell (j := 0) (v := .slice pa S.parts.length pc) rfl; clear hSw; go_simp; try with_reducible rfl)
          simp only [Act.put, List.getElem_toArray, List.getElem_cons_zero, List.getElem_cons_succ, List.setIfInBounds_toArray, List.set_cons_zero, List.set_cons_succ]
          refine Still.takeBy (i := 5) [] (v := ?v206) (by kernel_rfl) (by kernel_rfl) rfl (by kernel_rfl) (by kernel_rfl) (by kernel_rfl) (fun _ _ _ h => h) (Or.inl ⟨by rfl, ?y206⟩) hHeld ?r206
          case y206 => (intro w' hSw; (try dsimp only at hSw); have y1 := (CP.out.r6.up hSw (by omega)).cell (j := 2) (v := .slice a4 ls.length c4) rfl; have y2 := (CP.out.r0.up hSw (by omega)).cell (j := 0) (v := .slice pa S.parts.length pc) rfl; clear hSw; go_simp; try with_reducible rfl)
          simp only [Act.put, List.getElem_toArray, List.getElem_cons_zero, List.getElem_cons_succ, List.setIfInBounds_toArray, List.set_cons_zero, List.set_cons_succ]
          refine Still.takeBy (i := 9) [] (v := ?v207) (by kernel_rfl) (by kernel_rfl) rfl (by kernel_rfl) (by kernel_rfl) (by kernel_rfl) (fun _ _ _ h => h) (Or.inl ⟨by rfl, ?y207⟩) hHeld ?r207
          case y207 => (intro w' hSw; (try dsimp only at hSw); have y1 := (CP.out.r6.up hSw (by omega)).cell (j := 2) (v := .slice a4 ls.length c4) rfl; have y2 := (CP.out.r0.up hSw (by omega)).cell (j := 0) (v := .slice pa S.parts.length pc) rfl; clear hSw; go_simp; try with_reducible rfl)
          simp only [Act.put, List.getElem_toArray, List.getElem_cons_zero, List.getElem_cons_succ, List.setIfInBounds_toArray, List.set_cons_zero, List.set_cons_succ]
          refine Still.all (rs := [6]) (by kernel_rfl) (by simp) (Still.one (i := 6) rfl rfl (fun K hK => ?_) (by simp))
          refine wp_call 33 _ _ rfl entCellSize #[] (by first | rfl | simp [Act.eval, Act.put]) ((cellSize_any _).mono ?_)
          rintro e w5 ⟨rfl, b5⟩
          have B5 : Hid (Below wr.heap.size wr w5) := Lib.hid (((Below.refl _ _).drew).trans b5)
          refine ⟨_, rfl, hK _ _ (fun _ => B5.out.mono (by omega)) (fun hh => ?_)⟩
          have hHeld := hh (by decide)
          clear hK K hh
          try simp only [Act.put, List.getElem_toArray, List.getElem_cons_zero, List.getElem_cons_succ, List.setIfInBounds_toArray, List.set_cons_zero, List.set_cons_succ]
          clear b5
          refine Still.takeBy (i := 7) [] (v := ?v208) (by kernel_rfl) (by kernel_rfl) rfl (by kernel_rfl) (by kernel_rfl) (by kernel_rfl) (fun _ _ _ h => h) (Or.inl ⟨by rfl, ?y208⟩) hHeld ?r208
          case y208 => (intro w' hSw; (try dsimp only at hSw); clear hSw; go_simp; rw [HMN.out]; try with_reducible rfl)
          simp only [Act.put, List.getElem_toArray, List.getElem_cons_zero, List.getElem_cons_succ, List.setIfInBounds_toArray, List.set_cons_zero, List.set_cons_succ]
          refine Still.takeBy (i := 8) [] (v := ?v209) (by kernel_rfl) (by kernel_rfl) rfl (by kernel_rfl) (by kernel_rfl) (by kernel_rfl) (fun _ _ _ h => h) (Or.inl ⟨by rfl, ?y209⟩) hHeld ?r209
          case y209 => (intro w' hSw; (try dsimp only at hSw); clear hSw; go_simp; rw [HAN.out]; try with_reducible rfl)
          simp only [Act.put, List.getElem_toArray, List.getElem_cons_zero, List.getElem_cons_succ, List.setIfInBounds_toArray, List.set_cons_zero, List.set_cons_succ]
          refine Still.all (rs := [10]) (by kernel_rfl) (by simp) (Still.one (i := 10) rfl rfl (fun K hK => ?_) (by simp))
          refine wp_call 34 _ _ rfl entLineSize #[] (by first | rfl | simp [Act.eval, Act.put]) ((lineSize_any _).mono ?_)
          rintro e w6 ⟨rfl, hw⟩
          have hw' := hw.symm
          clear hw
          subst hw'
          refine ⟨_, rfl, hK _ _ (fun _ => B5.out.mono (by omega)) (fun hh => ?_)⟩
          have hHeld := hh (by decide)
          clear hK K hh
          try simp only [Act.put, List.getElem_toArray, List.getElem_cons_zero, List.getElem_cons_succ, List.setIfInBounds_toArray, List.set_cons_zero, List.set_cons_succ]
          refine Still.takeBy (i := 11) [] (v := ?v210) (by kernel_rfl) (by kernel_rfl) rfl (by kernel_rfl) (by kernel_rfl) (by kernel_rfl) (fun _ _ _ h => h) (Or.inl ⟨by rfl, ?y210⟩) hHeld ?r210
          case y210 => (intro w' hSw; (try dsimp only at hSw); clear hSw; go_simp; rw [HKM.out]; try with_reducible rfl)
          simp only [Act.put, List.getElem_toArray, List.getElem_cons_zero, List.getElem_cons_succ, List.setIfInBounds_toArray, List.set_cons_zero, List.set_cons_succ]
          refine Still.takeBy (i := 12) [] (v := ?v211) (by kernel_rfl) (by kernel_rfl) rfl (by kernel_rfl) (by kernel_rfl) (by kernel_rfl) (fun _ _ _ h => h) (Or.inl ⟨by rfl, ?y211⟩) hHeld ?r211
          case y211 => (intro w' hSw; (try dsimp only at hSw); clear hSw; go_simp; rw [HKA.out]; try with_reducible rfl)
          simp only [Act.put, List.getElem_toArray, List.getElem_cons_zero, List.getElem_cons_succ, List.setIfInBounds_toArray, List.set_cons_zero, List.set_cons_succ]
          refine Still.all (rs := [13]) (by kernel_rfl) (by simp) (Still.one (i := 13) rfl rfl (fun K hK => ?_) (by simp))
          refine wp_call 35 _ _ rfl entListAt #[.slice (some ⟨lb, lo, none⟩) l.length lc, .int .i64 (ak : Int), .int .i64 3] (by first | rfl | simp [Act.eval, Act.put]) ((listAt_any l ak 3 (by omega) HAK.out.2 hlen2 _ _ (HL.out.up (CP.out.up B5.out).d)).mono ?_)
          rintro e W2 ⟨v2, rfl, hown, b6⟩
          obtain ⟨d, hd⟩ : ∃ d, d = listC 3 (l.drop ak) := ⟨_, rfl⟩
          rw [← hd] at hown
          have HDD := Lib.hid hd
          clear hd
          obtain ⟨a2, c2, rfl⟩ := own_form hown
          have z5 := B5.out.size
          have hob := own_block hown
          have hol2 := own_lt hown
          have bW : Below wr.heap.size wr W2 := B5.out.trans (b6.mono (by omega))
          have z2 := bW.size
          have CP2 := Lib.hid (CP.out.up bW)
          have S2 := Lib.hid (own_sl hown)
          refine ⟨_, rfl, hK _ _ (fun _ => bW.mono (by omega)) (fun hh => ?_)⟩
          have hHeld := hh (by decide)
          clear hK K hh
          try simp only [Act.put, List.getElem_toArray, List.getElem_cons_zero, List.getElem_cons_succ, List.setIfInBounds_toArray, List.set_cons_zero, List.set_cons_succ]
          clear hown b6 B5
          refine Still.takeBy (i := 14) [] (v := ?v212) (by kernel_rfl) (by kernel_rfl) rfl (by kernel_rfl) (by kernel_rfl) (by kernel_rfl) (fun _ _ _ h => h) (Or.inl ⟨by rfl, ?y212⟩) hHeld ?r212
          case y212 => (intro w' hSw; (try dsimp only at hSw); clear hSw; go_simp; try with_reducible rfl)
          simp only [Act.put, List.getElem_toArray, List.getElem_cons_zero, List.getElem_cons_succ, List.setIfInBounds_toArray, List.set_cons_zero, List.set_cons_succ]
          refine Still.all (rs := [15]) (by kernel_rfl) (by simp) (Still.one (i := 15) rfl rfl (fun K hK => ?_) (by simp))
          go_simp
          refine hK _ _ (fun _ => Below.alloc (bW.mono (by omega)) (by omega) _) (fun hh => ?_)
          have hHeld := hh (by decide)
          clear hK K hh
          try simp only [Act.put, List.getElem_toArray, List.getElem_cons_zero, List.getElem_cons_succ, List.setIfInBounds_toArray, List.set_cons_zero, List.set_cons_succ]
          have IN : In (w1.heap.size + 1) 0 (W2.alloc (.cells #[.slice a2 d.length c2] 65)) (.slice a3 cs.length c3) (.slice a4 ls.length c4) (.slice a2 d.length c2) := fun x e => by
            have h1 := hob x e
            have h2 := hol2 x e
            refine ⟨by omega, by simp; omega, fun e' => ?_, fun e' => ?_⟩
            · have := (HVC.out x e').2; omega
            · have := (HVL.out x e').2; omega
          obtain ⟨vs, hvs, hadd⟩ := (CP2.out.n.alloc (.cells #[.slice a2 d.length c2] 65)).addL d (.slice a2 d.length c2) (S2.out.up ((Below.refl _ _).alloc (Nat.le_refl _) _)) IN
          refine Still.all (rs := [16]) (by kernel_rfl) (by simp) (Still.one (i := 16) rfl rfl (fun K hK => ?_) (by simp))
          refine wp_append_lies _ (.tmp 112) (.tmp 126) 28 rfl (w1.heap.size + 1) 65 i2 _ 1 24 Tryd.underlying28 hi2 hx0 hx1 hx2 rfl (by decide) (.slice a4 ls.length c4) ls.length vs (by first | rfl | simp [Act.eval, Act.put]) hvs ⟨W2.heap.size, 0, none⟩ 1 1 [.slice a2 d.length c2] (by first | rfl | simp [Act.eval, Act.put]) rfl (new_range _ _ #[.slice a2 d.length c2] _ rfl) (fun u hu => by simp at hu; subst hu; rfl) (by decide) (by have := HLL2.out; unfold maxLen; omega) (by have := HLL2.out; omega) (by simp; omega) _ rfl ?_
          intro g4 cap4 W4 hown hgrow hat hg4
          have hn4 := hadd _ W4 hown hgrow (hat.imp (fun e => e) (fun e => ⟨g4, rfl, by rw [e]; simp⟩))
          have hltL := CP2.out.n.ltL
          obtain ⟨hC5, hr5⟩ := (CP2.out.up (wr' := W2.alloc (.cells #[.slice a2 d.length c2] 65)) ((Below.refl _ _).alloc (Nat.le_refl _) _)).growL hgrow hn4
          rw [HDD.out] at hC5
          have C5 := Lib.hid hC5
          have bS : Below (w1.heap.size + 1) wr W4 := Below.grown (Below.alloc (bW.mono (by omega)) (by omega) _) hgrow (by simp; omega) (fun k e => (hltL k e).1)
          have q5 := hr5.cell (j := 2) (v := .slice a4 ls.length c4) rfl
          have f5 := hr5.fr 2
          clear hown hgrow hat hn4 hC5 hvs hadd IN hr5 hltL
          refine hK _ _ (fun _ => bS) (fun hh => ?_)
          have hHeld := hh (by decide)
          clear hK K hh
          try simp only [Act.put, List.getElem_toArray, List.getElem_cons_zero, List.getElem_cons_succ, List.setIfInBounds_toArray, List.set_cons_zero, List.set_cons_succ]
          clear bS bW
          refine Still.takeBy (i := 17) [] (v := ?v213) (by kernel_rfl) (by kernel_rfl) rfl (by kernel_rfl) (by kernel_rfl) (by kernel_rfl) (fun _ _ _ h => h) (Or.inl ⟨by rfl, ?y213⟩) hHeld ?r213
          case y213 => (intro w' hSw; (try dsimp only at hSw); clear hSw; go_simp; try with_reducible rfl)
          simp only [Act.put, List.getElem_toArray, List.getElem_cons_zero, List.getElem_cons_succ, List.setIfInBounds_toArray, List.set_cons_zero, List.set_cons_succ]
          refine Still.all (rs := [18]) (by kernel_rfl) (by simp) (Still.one (i := 18) rfl rfl (fun K hK => ?_) (by simp))
          clear hHeld
          go_simp
          refine hK _ _ (fun h => absurd rfl h) (fun _ => ?_)
          clear hK K
          refine Still.over (by kernel_rfl) ?_ _
          clear q5 f5
          go_wp2
          go_roundw
          case rel => exact ⟨k + 1, by go_num, by omega, Lib.hid ⟨_, by rw [List.range_succ, List.map_append, HLK2.out, List.map_singleton, ← HAK.out.1]; exact C5.out⟩⟩
          case measure => simp [intOf]; omega
        · have hli : ¬ (k : Int) < S.chans.length := by omega
          obtain rfl : k = S.chans.length := by omega
          obtain ⟨D, hD⟩ : ∃ D, D = fromF S.parts.length S.chans.length l := ⟨_, rfl⟩
          have HLF := Lib.hid (liftD_from S l)
          rw [← hD] at HLF
          have e0 : D.tick = nthF l 0 := by rw [hD]; rfl
          have e1 : D.cells = cs := by rw [hD]; exact HLK.out
          have e2 : D.lines = ls := by rw [hD]; exact HLK2.out
          have HE0 := Lib.hid e0
          subst e1
          subst e2
          rw [← e0] at CP
          have N1 := Lib.hid CP.out.n.fl
          have s0 := CP.out.r0.cell (j := 0) (v := .slice pa S.parts.length pc) rfl
          have s2 := CP.out.r0.cell (j := 2) (v := .slice sa S.slots.length sc) rfl
          have t0 := CP.out.r6.cell (j := 0) (v := .int .i64 D.tick) rfl
          have t1 := CP.out.r6.cell (j := 1) (v := .slice a3 D.cells.length c3) rfl
          have t2 := CP.out.r6.cell (j := 2) (v := .slice a4 D.lines.length c4) rfl
          have hbz := CP.out.lb
          have hzz := CP.out.z
          clear hD e0 HLK HLK2 HLL HLL2 hlt hk HMN HMC HAN HT HLN HCE HLI hl0 hlb
          obtain ⟨r0, hr0⟩ : ∃ r0, chkW S D = r0 := ⟨_, rfl⟩
          go_wp2_with fail
          refine (HCW.out D _ _ _ (HS.out.up CP.out.d) N1.out.wld r0 hr0).mono ?_
          rintro e w3 ⟨rfl, b3⟩
          have z3 := b3.size
          have CP3 := Lib.hid (CP.out.up b3)
          have N3 := Lib.hid (N1.out.up b3)
          have HR0 := Lib.hid hr0
          clear b3 CP N1 s0 s2 t0 t1 t2 q0 hr0
          have t0 := CP3.out.r6.cell (j := 0) (v := .int .i64 D.tick) rfl
          have t1 := CP3.out.r6.cell (j := 1) (v := .slice a3 D.cells.length c3) rfl
          have t2 := CP3.out.r6.cell (j := 2) (v := .slice a4 D.lines.length c4) rfl
          by_cases hr : r0 = 0
          · subst hr
            have HSM := Lib.hid (chkW_small HR0.out)
            go_wp2_with fail
            refine (rowOf_any D HSM.out _ _ _ N3.out.wld).mono ?_
            rintro e w4 ⟨v4, rfl, ho4, b4⟩
            have z4 := b4.size
            have CP4 := Lib.hid (CP3.out.up b4)
            have N4 := Lib.hid (N3.out.up b4)
            obtain ⟨x4, y4, rfl⟩ := own_form ho4
            have S4 := Lib.hid (own_sl ho4)
            have HLR := Lib.hid (rowF_len HSM.out)
            have hcl := HSM.out.cells
            have hll := HSM.out.lines
            obtain ⟨bb, hbb⟩ : ∃ bb, decide (rowF D = l) = bb := ⟨_, rfl⟩
            clear b4 ho4 CP3 N3 t0 t1 t2
            go_wp2_with fail
            refine (sameInts_any (rowF D) l _ _ _ S4.out (HL.out.up CP4.out.d) (by have := HLR.out; omega) bb hbb).mono ?_
            rintro e w5 ⟨rfl, b5⟩
            have z5 := b5.size
            have CP5 := Lib.hid (CP4.out.up b5)
            have N5 := Lib.hid (N4.out.up b5)
            have HBB := Lib.hid hbb
            clear b5 CP4 N4 S4 hbb
            have t0 := CP5.out.r6.cell (j := 0) (v := .int .i64 D.tick) rfl
            have t1 := CP5.out.r6.cell (j := 1) (v := .slice a3 D.cells.length c3) rfl
            have t2 := CP5.out.r6.cell (j := 2) (v := .slice a4 D.lines.length c4) rfl
            cases bb with
            | true =>
              have HY : Hid (liftD S l = some D) := Lib.hid (by rw [HLF.out, if_pos ⟨HR0.out, by simpa using HBB.out⟩])
              clear HLF HBB
              go_wp2_with (refine wpList_store_rowW rfl 30 (.tmp 4) (.tmp 141) rfl (w.heap.size + 1) #[.int .i64 D.tick, .slice a3 D.cells.length c3, .slice a4 D.lines.length c4] rfl rfl 30 _ CP5.out.r4 sizeWld rfl (by simp [Value.oneCell']) ?_)
              intro W4 HW4
              have r5 : Rw W4 (w.heap.size + 1) 30 #[.int .i64 D.tick, .slice a3 D.cells.length c3, .slice a4 D.lines.length c4] := by rw [HW4.out]; exact CP5.out.r4.row _
              have HB4 := Lib.hid (show Below w.heap.size w W4 by rw [HW4.out]; exact below_row CP5.out.d (by omega) _)
              have N6 := Lib.hid (show WldF w.heap.size W4 _ _ D by rw [HW4.out]; exact (N5.out.row (by omega) _).low (by omega))
              clear HW4 t0 t1 t2
              go_wp2
              refine bodyPost_ret (results_row_tmp Tryd.results12 _ _ (w.heap.size + 1) _ _ rfl rfl (run_loadVar_row _ _ 30 _ _ (0, 0) _ r5 Tryd.underlying30 rfl sizeWld)) rfl (.inr ⟨D, HY.out, _, _, rfl, N6.out, HB4.out⟩)
            | false =>
              have HN : Hid (liftD S l = none) := Lib.hid (by rw [HLF.out, if_neg (fun h => by have := HBB.out; simp at this; exact this h.2)])
              clear HLF HBB
              go_wp2_with (refine wpList_store_rowW rfl 30 (.tmp 4) (.tmp 140) rfl (w.heap.size + 1) #[.int .i64 0, .slice none 0 0, .slice none 0 0] rfl rfl 30 _ CP5.out.r4 sizeWld rfl (by simp [Value.oneCell']) ?_)
              intro W4 HW4
              have r5 : Rw W4 (w.heap.size + 1) 30 #[.int .i64 0, .slice none 0 0, .slice none 0 0] := by rw [HW4.out]; exact CP5.out.r4.row _
              have HB4 := Lib.hid (show Below w.heap.size w W4 by rw [HW4.out]; exact below_row CP5.out.d (by omega) _)
              clear HW4
              go_wp2
              refine bodyPost_ret (results_row_tmp Tryd.results12 _ _ (w.heap.size + 1) _ _ rfl rfl (run_loadVar_row _ _ 30 _ _ (0, 0) _ r5 Tryd.underlying30 rfl sizeWld)) rfl (.inl ⟨HN.out, rfl, HB4.out⟩)
          · have HN : Hid (liftD S l = none) := Lib.hid (by rw [HLF.out, if_neg (fun h => hr (by rw [← HR0.out]; exact h.1))])
            have CP5 := CP3
            clear HLF HR0 t0 t1 t2
            go_wp2_with (refine wpList_store_rowW rfl 30 (.tmp 4) (.tmp 140) rfl (w.heap.size + 1) #[.int .i64 0, .slice none 0 0, .slice none 0 0] rfl rfl 30 _ CP5.out.r4 sizeWld rfl (by simp [Value.oneCell']) ?_)
            intro W4 HW4
            have r5 : Rw W4 (w.heap.size + 1) 30 #[.int .i64 0, .slice none 0 0, .slice none 0 0] := by rw [HW4.out]; exact CP5.out.r4.row _
            have HB4 := Lib.hid (show Below w.heap.size w W4 by rw [HW4.out]; exact below_row CP5.out.d (by omega) _)
            clear HW4
            go_wp2
            refine bodyPost_ret (results_row_tmp Tryd.results12 _ _ (w.heap.size + 1) _ _ rfl rfl (run_loadVar_row _ _ 30 _ _ (0, 0) _ r5 Tryd.underlying30 rfl sizeWld)) rfl (.inl ⟨HN.out, rfl, HB4.out⟩)
end Go.Proofs.YtnnnljfdjdehaaaDoor

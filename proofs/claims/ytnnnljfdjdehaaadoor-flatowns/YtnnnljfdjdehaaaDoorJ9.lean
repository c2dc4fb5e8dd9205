/- cell.Step. -/
import Derived.Test.YtnnnljfdjdehaaaDoorJ8
import Derived.Deep.MidRow
import Derived.Deep.CutRange
import Derived.RangeFuncNested
import Derived.RangeFuncBound
import Derived.RangeFuncCalls
import Derived.RangeFuncLeaves
import Derived.RangeFuncBox
import Derived.Shelf.Abstract
import Derived.Shelf.RegionOpen
import Derived.WalkKit
import Derived.OwnWalkIn
import Derived.TacticsInMore
import Derived.LoopNIn
import Derived.LoopIn
import Derived.Test.YtnnnljfdjdehaaaDoorJ1
import Derived.Test.YtnnnljfdjdehaaaDoorJ4
namespace Go.Proofs.YtnnnljfdjdehaaaDoor
set_option linter.unusedSimpArgs false
set_option linter.unusedVariables false
open Go.RowKit Go.Sort

theorem ent_copied : Enters 89 := enters Tryd.func89 (by kernel_rfl) (by kernel_rfl)
theorem build_runner (c : Cel) (o : Value) (a : Option Addr) (n k : Nat) (w : World) : (Instr.build 141 #[(0, .agg (c.cs o)), (1, .slice a n k)]).run Tryd.prog w = .ok (.agg (rcs c o (.slice a n k) wntZ)) w := run_build w _ _ _ (by kernel_rfl)
def Wnt.cs (x : Wnt) : Array Value := #[.int .i64 x.k, .int .i64 x.ch, .int .i64 x.reg, .int .i64 x.flag, .int .i64 x.val]
theorem Wnt.v_cs (x : Wnt) : x.v = .agg x.cs := rfl
theorem sizeRunner : (Tryd.prog.info? 141).map (·.size) = some 22 := by kernel_rfl
theorem load_cell {W : World} {g : Nat} {c : Cel} {o i : Value} {x : Wnt} (h : Rw W g 141 (rcs c o i x)) : (Instr.loadAt 62 (.pointer (some ⟨g, 0, none⟩))).run Tryd.prog W = .ok (.agg (c.cs o)) W := by
  refine run_loadAt_mid W g 0 62 (c.cs o).toList _ (fun j v hj => ?_) Tryd.underlying62 rfl sizeCell
  rw [Nat.zero_add]
  refine h.cell ?_
  have hj' : j < 16 := by have := (List.getElem?_eq_some_iff.1 hj).1; simpa [Cel.cs] using this
  have : j = 0 ∨ j = 1 ∨ j = 2 ∨ j = 3 ∨ j = 4 ∨ j = 5 ∨ j = 6 ∨ j = 7 ∨ j = 8 ∨ j = 9 ∨ j = 10 ∨ j = 11 ∨ j = 12 ∨ j = 13 ∨ j = 14 ∨ j = 15 := by omega
  rcases this with rfl | rfl | rfl | rfl | rfl | rfl | rfl | rfl | rfl | rfl | rfl | rfl | rfl | rfl | rfl | rfl <;> exact hj
theorem load_want {W : World} {g : Nat} {c : Cel} {o i : Value} {x : Wnt} (h : Rw W g 141 (rcs c o i x)) : (Instr.loadAt 110 (.pointer (some ⟨g, 17, none⟩))).run Tryd.prog W = .ok (.agg x.cs) W := by
  refine run_loadAt_mid W g 17 110 x.cs.toList _ (fun j v hj => ?_) Tryd.underlying110 rfl sizeWant
  refine h.cell ?_
  have hj' : j < 5 := by have := (List.getElem?_eq_some_iff.1 hj).1; simpa [Wnt.cs] using this
  have : j = 0 ∨ j = 1 ∨ j = 2 ∨ j = 3 ∨ j = 4 := by omega
  rcases this with rfl | rfl | rfl | rfl | rfl <;> exact hj
theorem Wnt.cs_one (x : Wnt) : x.cs.all (·.oneCell') = true := by
  simp [Wnt.cs]
  simp [Value.oneCell']
theorem rcs_one (c : Cel) (o i : Value) (x : Wnt) (h : o.oneCell' = true) (h' : i.oneCell' = true) : (rcs c o i x).all (·.oneCell') = true := by
  simp [rcs, h, h']
  simp [Value.oneCell']
/-- The step of a cell: what it has behind it, what it has told, what it wants. -/
def stepC (l : List Ins) (inn xs : List Int) (c : Cel) : Cel × List Int × Wnt := if c.en = 0 then runC l inn xs c wntZ else (c, xs, wntZ)

set_option maxRecDepth 100000 in
set_option maxHeartbeats 4000000 in
theorem cellStep_bad (l : List Ins) (v : Value) (iao : Option Addr) (i icap : Nat) (c : Cel) (ao : Option Addr) (n cap : Nat) (d : Int) (hd : chkC l = d) (f : Bool) (hf : c.fine n = f) (e0 : Int) (he0 : stepE d i f c.read = e0) (hne : e0 ≠ 0) (w : World) (he : Env w) (hS : Sl w 4 v l.length (codeC l)) :
    Calls Tryd.prog 62 #[partV v (.slice iao i icap), c.v (.slice ao n cap)] w fun e w' => e = .returned (.tuple #[celZ.v (.slice none 0 0), wntZ.v, .int .i64 e0]) ∧ Below w.heap.size w w' := by
  have hne' : (e0 != 0) = true := by simpa using hne
  have HC := Lib.hid fun w he hS => he0 ▸ checkStep_any l v iao i icap c ao n cap d hd f hf w he hS
  have HE := Lib.hid he
  have HS := Lib.hid hS
  clear hf he0 hne hd he hS
  rw [Cel.v_cs] at HC
  rw [Cel.v_cs]
  unfold partV at HC
  unfold partV
  go_enter Tryd.func62, Tryd.ntmps62
  go_wp2_with (refine wpList_load_row rfl 62 (.tmp 3) rfl (w.heap.size + 1) rfl 62 (c.cs (.slice ao n cap)) (0, 0) _ (by repeat (first | exact Rw.new _ _ _ (by first | rfl | (simp; done) | omega | (simp; omega)) | refine Rw.alloc ?_ _)) Tryd.underlying62 rfl sizeCell ?_)
  refine (HC.out _ (HE.out.up (by repeat (first | exact Below.refl _ _ | assumption | refine Below.drew ?_ | refine Below.alloc ?_ (by first | (simp; done) | (simp; omega)) _ | refine Below.setCell ?_ (by first | (simp; done) | (simp; omega)) _))) (HS.out.up (by repeat (first | exact Below.refl _ _ | assumption | refine Below.drew ?_ | refine Below.alloc ?_ (by first | (simp; done) | (simp; omega)) _ | refine Below.setCell ?_ (by first | (simp; done) | (simp; omega)) _)))).mono ?_
  rintro e w1 ⟨rfl, b1⟩
  have D : Below w.heap.size w w1 := by
    refine Below.trans ?_ (b1.mono (by first | omega | (simp; done) | (simp; omega)))
    exact (by repeat (first | exact Below.refl _ _ | assumption | refine Below.drew ?_ | refine Below.alloc ?_ (by first | (simp; done) | (simp; omega)) _ | refine Below.setCell ?_ (by first | (simp; done) | (simp; omega)) _))
  have z : w.heap.size + 4 ≤ w1.heap.size := by have := b1.size; simp at this; omega
  have r2 : Rw w1 (w.heap.size + 2) 62 (celZ.cs (.slice none 0 0)) := Rw.up (by repeat (first | exact Rw.new _ _ _ (by first | rfl | (simp; done) | omega | (simp; omega)) | refine Rw.alloc ?_ _)) b1 (by first | omega | (simp; done) | (simp; omega))
  have r3 : Rw w1 (w.heap.size + 3) 110 wntZ.cs := Rw.up (by repeat (first | exact Rw.new _ _ _ (by first | rfl | (simp; done) | omega | (simp; omega)) | refine Rw.alloc ?_ _)) b1 (by first | omega | (simp; done) | (simp; omega))
  have R2 := Lib.hid r2
  have R3 := Lib.hid (r3.row_other (g' := w.heap.size + 2) (celZ.cs (.slice none 0 0)) (by omega))
  clear b1 HC r2 r3
  go_wp2_with (first | (refine wpList_store_row rfl 62 (.tmp 4) (.tmp 14) rfl (w.heap.size + 2) (celZ.cs (.slice none 0 0)) rfl rfl 62 _ R2.out sizeCell rfl (celZ.cs_one _ rfl) ?_) | (refine wpList_store_row rfl 110 (.tmp 5) (.tmp 15) rfl (w.heap.size + 3) wntZ.cs rfl rfl 110 _ R3.out sizeWant rfl wntZ.cs_one ?_))
  refine bodyPost_ret (results_row2_tmp Tryd.results62 _ _ (w.heap.size + 2) (w.heap.size + 3) _ _ _ rfl rfl rfl (run_loadVar_row _ _ 62 _ (celZ.cs (.slice none 0 0)) (0, 0) _ ((R2.out.row _).row_other _ (by omega)) Tryd.underlying62 rfl sizeCell) (run_loadVar_row _ _ 110 _ wntZ.cs (0, 0) _ (R3.out.row _) Tryd.underlying110 rfl sizeWant)) rfl ⟨rfl, below_row (below_row D (by omega) _) (by omega) _⟩

/-- Where a cell's step stands once its runner is laid: in block g. -/
structure Sp (w W : World) (g base : Nat) (c : Cel) (o i : Value) (x : Wnt) (xs : List Int) (v : Value) : Prop where
  rn : Rn w.heap.size w W g base c o i x xs
  r0 : Rw W w.heap.size 70 #[v, i]
  r2 : Rw W (w.heap.size + 2) 62 (celZ.cs (.slice none 0 0))
  r3 : Rw W (w.heap.size + 3) 110 wntZ.cs
  g4 : w.heap.size + 4 ≤ g
  b4 : w.heap.size + 4 ≤ base

set_option maxRecDepth 100000 in
set_option maxHeartbeats 8000000 in
theorem cellStep_ok (l : List Ins) (inn xs : List Int) (v iv ov : Value) (c : Cel) (hl : chkC l = 0) (hi : inn.length ≤ 12) (hf : c.fine xs.length = true) (hr : c.read ≤ inn.length) (w : World) (he : Env w) (hC : Sl w 4 v l.length (codeC l)) (hI : Sl w 1 iv inn.length (ints inn)) (hO : Sl w 1 ov xs.length (ints xs)) :
    Calls Tryd.prog 62 #[partV v iv, c.v ov] w fun e w' => ∃ o', e = .returned (.tuple #[(stepC l inn xs c).1.v o', (stepC l inn xs c).2.2.v, .int .i64 0]) ∧ w'.ownsRow w.heap.size 3 1 o' (stepC l inn xs c).2.1.length (ints (stepC l inn xs c).2.1) ∧ Below w.heap.size w w' := by
  obtain ⟨iao, icap, rfl⟩ := hI.form
  obtain ⟨ao, cap, rfl⟩ := hO.form
  obtain ⟨cao, ccap, rfl⟩ := hC.form
  have hfi := (fine_iff c _).1 hf
  have hE : stepE (chkC l) inn.length true c.read = 0 := by
    unfold stepE
    rw [hl, if_neg (by simp), if_neg (by omega), if_neg (by simp), if_neg (by omega)]
  have hfe : firstE l = 0 := by
    unfold chkC at hl
    split at hl
    · omega
    · exact hl
  have HC := Lib.hid fun w he hS => hE ▸ checkStep_any l (.slice cao l.length ccap) iao inn.length icap c ao xs.length cap (chkC l) rfl true hf w he hS
  have HE := Lib.hid he
  have HS := Lib.hid hC
  have HI := Lib.hid hI
  have HO := Lib.hid hO
  clear hE hf hl he hC hI hO
  rw [Cel.v_cs] at HC
  rw [Cel.v_cs]
  unfold partV at HC
  unfold partV
  go_enter Tryd.func62, Tryd.ntmps62
  go_wp2_with (refine wpList_load_row rfl 62 (.tmp 3) rfl (w.heap.size + 1) rfl 62 (c.cs (.slice ao xs.length cap)) (0, 0) _ (by repeat (first | exact Rw.new _ _ _ (by first | rfl | (simp; done) | omega | (simp; omega)) | refine Rw.alloc ?_ _)) Tryd.underlying62 rfl sizeCell ?_)
  refine (HC.out _ (HE.out.up (by repeat (first | exact Below.refl _ _ | assumption | refine Below.drew ?_ | refine Below.alloc ?_ (by first | (simp; done) | (simp; omega)) _ | refine Below.setCell ?_ (by first | (simp; done) | (simp; omega)) _))) (HS.out.up (by repeat (first | exact Below.refl _ _ | assumption | refine Below.drew ?_ | refine Below.alloc ?_ (by first | (simp; done) | (simp; omega)) _ | refine Below.setCell ?_ (by first | (simp; done) | (simp; omega)) _)))).mono ?_
  rintro e W ⟨rfl, b1⟩
  have D : Below w.heap.size w W := by
    refine Below.trans ?_ (b1.mono (by first | omega | (simp; done) | (simp; omega)))
    exact (by repeat (first | exact Below.refl _ _ | assumption | refine Below.drew ?_ | refine Below.alloc ?_ (by first | (simp; done) | (simp; omega)) _ | refine Below.setCell ?_ (by first | (simp; done) | (simp; omega)) _))
  have z : w.heap.size + 4 ≤ W.heap.size := by have := b1.size; simp at this; omega
  have r0 : Rw W w.heap.size 70 #[.slice cao l.length ccap, .slice iao inn.length icap] := Rw.up (by repeat (first | exact Rw.new _ _ _ (by first | rfl | (simp; done) | omega | (simp; omega)) | refine Rw.alloc ?_ _)) b1 (by first | omega | (simp; done) | (simp; omega))
  have r1 : Rw W (w.heap.size + 1) 62 (c.cs (.slice ao xs.length cap)) := Rw.up (by repeat (first | exact Rw.new _ _ _ (by first | rfl | (simp; done) | omega | (simp; omega)) | refine Rw.alloc ?_ _)) b1 (by first | omega | (simp; done) | (simp; omega))
  have r2 : Rw W (w.heap.size + 2) 62 (celZ.cs (.slice none 0 0)) := Rw.up (by repeat (first | exact Rw.new _ _ _ (by first | rfl | (simp; done) | omega | (simp; omega)) | refine Rw.alloc ?_ _)) b1 (by first | omega | (simp; done) | (simp; omega))
  have r3 : Rw W (w.heap.size + 3) 110 wntZ.cs := Rw.up (by repeat (first | exact Rw.new _ _ _ (by first | rfl | (simp; done) | omega | (simp; omega)) | refine Rw.alloc ?_ _)) b1 (by first | omega | (simp; done) | (simp; omega))
  have R0 := Lib.hid r0
  have R1 := Lib.hid r1
  have R2 := Lib.hid r2
  have R3 := Lib.hid r3
  have HD := Lib.hid D
  clear b1 HC r0 r1 r2 r3 D
  go_wp2
  go_cut [8] from 9 (fun p wc => ∃ g base ao' cap', p = .pointer (some ⟨g, 0, none⟩) ∧ Hid (Sp w wc g base c (.slice ao' xs.length cap') (.slice iao inn.length icap) wntZ xs (.slice cao l.length ccap)))
  case first =>
    refine region_still (S := fun w' => Rw w' (w.heap.size + 1) 62 (c.cs (.slice ao xs.length cap)) ∧ Rw w' w.heap.size 70 #[.slice cao l.length ccap, .slice iao inn.length icap]) 6 (by kernel_rfl) ⟨R1.out, R0.out⟩ (fun hHeld => ?_)
    refine Still.takeBy (i := 0) [] (by kernel_rfl) (by kernel_rfl) rfl (by kernel_rfl) (by kernel_rfl) (by kernel_rfl) (fun _ _ _ h => h) (yields_load rfl _ _ rfl _ (by first | rfl | simp [Act.eval, Act.put]) _ (fun w' hSw => Rw.loadAt hSw.1 Tryd.underlying62 rfl sizeCell)) hHeld ?r1
    simp only [Act.put, List.getElem_toArray, List.getElem_cons_zero, List.getElem_cons_succ, List.setIfInBounds_toArray, List.set_cons_zero, List.set_cons_succ]
    refine Still.takeBy (i := 2) [] (v := ?v2) (by kernel_rfl) (by kernel_rfl) rfl (by kernel_rfl) (by kernel_rfl) (by kernel_rfl) (fun _ _ _ h => h) (Or.inl ⟨by rfl, ?y2⟩) hHeld ?r2
    case y2 => (intro w' hSw; (try dsimp only at hSw); have q2 := hSw.2.cell (j := 1) (v := .slice iao inn.length icap) rfl; clear hSw; go_simp; try with_reducible rfl)
    simp only [Act.put, List.getElem_toArray, List.getElem_cons_zero, List.getElem_cons_succ, List.setIfInBounds_toArray, List.set_cons_zero, List.set_cons_succ]
    refine Still.takeBy (i := 3) [] (v := ?v3) (by kernel_rfl) (by kernel_rfl) rfl (by kernel_rfl) (by kernel_rfl) (by kernel_rfl) (fun _ _ _ h => h) (Or.inl ⟨by rfl, ?y3⟩) hHeld ?r3
    case y3 => (intro w' hSw; (try dsimp only at hSw); have q2 := hSw.2.cell (j := 1) (v := .slice iao inn.length icap) rfl; clear hSw; go_simp; try with_reducible rfl)
    simp only [Act.put, List.getElem_toArray, List.getElem_cons_zero, List.getElem_cons_succ, List.setIfInBounds_toArray, List.set_cons_zero, List.set_cons_succ]
    refine Still.all (rs := [1, 5]) (by kernel_rfl) (by simp) ?_
    refine Still.one (i := 1) rfl rfl (fun K hK => ?_) (Still.one (i := 5) rfl rfl (fun K hK => ?_) (by simp))
    · refine wp_call 89 _ _ rfl ent_copied #[.agg (c.cs (.slice ao xs.length cap))] (by first | rfl | simp [Act.eval, Act.put]) ((copied_any c xs (by omega) _ _ (HO.out.up HD.out.drew)).mono ?_)
      rintro e V ⟨v', rfl, o1, b1⟩
      refine ⟨_, rfl, hK _ _ (fun _ => ⟨hHeld.1.up b1 (by simp; omega), hHeld.2.up b1 (by simp; omega)⟩) (fun hh => ?_)⟩
      have hHeld := hh (by decide)
      clear hK K hh
      rw [Cel.v_cs]
      try simp only [Act.put, List.getElem_toArray, List.getElem_cons_zero, List.getElem_cons_succ, List.setIfInBounds_toArray, List.set_cons_zero, List.set_cons_succ]
      have o1l := own_lt o1
      have o1b := own_block o1
      have z1 := b1.size
      simp at z1 o1b
      obtain ⟨ao', cap', rfl⟩ := own_form o1
      refine Still.takeBy (i := 4) [] (by kernel_rfl) (by kernel_rfl) rfl (by kernel_rfl) (by kernel_rfl) (by kernel_rfl) (fun _ _ _ h => h) (yields_build rfl _ _ rfl #[(0, .agg (c.cs (.slice ao' xs.length cap'))), (1, .slice iao inn.length icap)] (by first | rfl | simp [Act.eval, Act.put]) _ (build_runner c (.slice ao' xs.length cap') iao inn.length icap)) hHeld ?r51
      simp only [Act.put, List.getElem_toArray, List.getElem_cons_zero, List.getElem_cons_succ, List.setIfInBounds_toArray, List.set_cons_zero, List.set_cons_succ]
      refine Still.all (rs := [5]) (by kernel_rfl) (by simp) (Still.one (i := 5) rfl rfl (fun K hK => ?_) (by simp))
      go_simp
      refine hK _ _ (fun _ => ⟨hHeld.1.alloc _, hHeld.2.alloc _⟩) (fun hh => ?_)
      have hHeld := hh (by decide)
      clear hK K hh
      try simp only [Act.put, List.getElem_toArray, List.getElem_cons_zero, List.getElem_cons_succ, List.setIfInBounds_toArray, List.set_cons_zero, List.set_cons_succ]
      refine Still.all (rs := [6]) (by kernel_rfl) (by simp) (Still.one (i := 6) rfl rfl (fun K hK => ?_) (by simp))
      refine wp_store_row 141 _ _ rfl V.heap.size (rcs c (.slice ao' xs.length cap') (.slice iao inn.length icap) wntZ) (by first | rfl | simp [Act.eval, Act.put]) (by first | rfl | simp [Act.eval, Act.put]) 141 (rcs celZ (.slice none 0 0) (.slice none 0 0) wntZ) (Rw.new V 141 _ rfl) sizeRunner rfl (rcs_one _ _ _ _ rfl rfl) ?_
      refine hK _ _ (fun h => absurd rfl h) (fun _ => ?_)
      clear hK K
      refine Still.over (by kernel_rfl) ?_ _
      have b2 : Below V.heap.size V (V.alloc (.cells (rcs celZ (.slice none 0 0) (.slice none 0 0) wntZ) 141)) := (Below.refl _ _).alloc (Nat.le_refl _) _
      clear hHeld
      go_wp2
      go_meet
      exact ⟨V.heap.size, W.heap.size, ao', cap', rfl, ⟨⟨Rw.row (Rw.new V 141 (rcs celZ (.slice none 0 0) (.slice none 0 0) wntZ) rfl) _, below_row ((HD.out.drew.trans (b1.mono (B' := w.heap.size) (by simp; omega))).trans (b2.mono (by omega))) (by omega) _, own_row (own_up o1 b2 o1l) _ (fun e => by have := o1l _ e; omega), by omega, by omega, fun k e => by have := o1l k e; omega, by simp; omega⟩, Rw.row_other ((Rw.up (w := W.drew) R0.out b1 (by simp; omega)).alloc _) _ (by omega), Rw.row_other ((Rw.up (w := W.drew) R2.out b1 (by simp; omega)).alloc _) _ (by omega), Rw.row_other ((Rw.up (w := W.drew) R3.out b1 (by simp; omega)).alloc _) _ (by omega), by omega, by omega⟩⟩
    · go_simp
      refine hK _ _ (fun _ => ⟨hHeld.1.alloc _, hHeld.2.alloc _⟩) (fun hh => ?_)
      have hHeld := hh (by decide)
      clear hK K hh
      try simp only [Act.put, List.getElem_toArray, List.getElem_cons_zero, List.getElem_cons_succ, List.setIfInBounds_toArray, List.set_cons_zero, List.set_cons_succ]
      refine Still.all (rs := [1]) (by kernel_rfl) (by simp) (Still.one (i := 1) rfl rfl (fun K hK => ?_) (by simp))
      refine wp_call 89 _ _ rfl ent_copied #[.agg (c.cs (.slice ao xs.length cap))] (by first | rfl | simp [Act.eval, Act.put]) ((copied_any c xs (by omega) _ _ (HO.out.up (HD.out.drew.alloc (by simp; omega) _))).mono ?_)
      rintro e V ⟨v', rfl, o1, b1⟩
      refine ⟨_, rfl, hK _ _ (fun _ => ⟨hHeld.1.up b1 (by simp; omega), hHeld.2.up b1 (by simp; omega)⟩) (fun hh => ?_)⟩
      have hHeld := hh (by decide)
      clear hK K hh
      rw [Cel.v_cs]
      try simp only [Act.put, List.getElem_toArray, List.getElem_cons_zero, List.getElem_cons_succ, List.setIfInBounds_toArray, List.set_cons_zero, List.set_cons_succ]
      have o1l := own_lt o1
      have o1b := own_block o1
      have z1 := b1.size
      simp at z1 o1b
      obtain ⟨ao', cap', rfl⟩ := own_form o1
      refine Still.takeBy (i := 4) [] (by kernel_rfl) (by kernel_rfl) rfl (by kernel_rfl) (by kernel_rfl) (by kernel_rfl) (fun _ _ _ h => h) (yields_build rfl _ _ rfl #[(0, .agg (c.cs (.slice ao' xs.length cap'))), (1, .slice iao inn.length icap)] (by first | rfl | simp [Act.eval, Act.put]) _ (build_runner c (.slice ao' xs.length cap') iao inn.length icap)) hHeld ?r81
      simp only [Act.put, List.getElem_toArray, List.getElem_cons_zero, List.getElem_cons_succ, List.setIfInBounds_toArray, List.set_cons_zero, List.set_cons_succ]
      refine Still.all (rs := [6]) (by kernel_rfl) (by simp) (Still.one (i := 6) rfl rfl (fun K hK => ?_) (by simp))
      have rz : Rw V W.heap.size 141 (rcs celZ (.slice none 0 0) (.slice none 0 0) wntZ) := Rw.up (w := W.drew.alloc _) (Rw.new W.drew 141 _ rfl) b1 (by simp)
      refine wp_store_row 141 _ _ rfl W.heap.size (rcs c (.slice ao' xs.length cap') (.slice iao inn.length icap) wntZ) (by first | rfl | simp [Act.eval, Act.put]) (by first | rfl | simp [Act.eval, Act.put]) 141 (rcs celZ (.slice none 0 0) (.slice none 0 0) wntZ) rz sizeRunner rfl (rcs_one _ _ _ _ rfl rfl) ?_
      refine hK _ _ (fun h => absurd rfl h) (fun _ => ?_)
      clear hK K
      refine Still.over (by kernel_rfl) ?_ _
      clear hHeld
      go_wp2
      go_meet
      exact ⟨W.heap.size, (W.heap.size + 1), ao', cap', rfl, ⟨⟨Rw.row rz _, below_row ((HD.out.drew.alloc (by simp; omega) _).trans (b1.mono (by simp; omega))) (by omega) _, own_row (by simpa using o1) _ (fun e => by have := o1b _ e; omega), by omega, by omega, fun k e => by have := o1b k e; omega, by simp; omega⟩, Rw.row_other (Rw.up (w := W.drew.alloc _) (Rw.alloc (w := W.drew) R0.out _) b1 (by simp; omega)) _ (by omega), Rw.row_other (Rw.up (w := W.drew.alloc _) (Rw.alloc (w := W.drew) R2.out _) b1 (by simp; omega)) _ (by omega), Rw.row_other (Rw.up (w := W.drew.alloc _) (Rw.alloc (w := W.drew) R3.out _) b1 (by simp; omega)) _ (by omega), by omega, by omega⟩⟩
  case rest =>
    obtain ⟨g, base, ao', cap', rfl, H⟩ := hcut
    have k15 : wc.cell? ⟨g, 15, none⟩ = some (.int .i64 c.en) := H.out.rn.r.cell rfl
    have p0 : wc.cell? ⟨w.heap.size, 0, none⟩ = some (.slice cao l.length ccap) := H.out.r0.cell rfl
    obtain ⟨iv, hiv⟩ : ∃ iv, iv = Value.slice iao inn.length icap := ⟨_, rfl⟩
    rw [← hiv] at H HI
    clear R0 R1 R2 R3 HD hiv
    by_cases hen : c.en = 0
    · have HST : Hid (stepC l inn xs c = runC l inn xs c wntZ) := by
        show stepC l inn xs c = _
        unfold stepC
        rw [if_pos hen]
      rw [hen] at k15
      go_wp2_with fail
      refine (step_any l hfe (w.heap.size + 4) wc wc g base c (.slice ao' xs.length cap') iv (.slice cao l.length ccap) wntZ xs inn hfi.1 hfi.2.1 hfi.2.2.1 hfi.2.2.2.1 hfi.2.2.2.2.2.2 (HS.out.up H.out.rn.d) (HI.out.up H.out.rn.d) ⟨H.out.rn.r, Below.refl _ _, H.out.rn.own, H.out.g4, H.out.b4, H.out.rn.no, H.out.rn.bs⟩).mono ?_
      rintro e V ⟨rfl, o', hR⟩
      generalize hrun : runC l inn xs c wntZ = r at hR HST
      obtain ⟨c', xs', x'⟩ := r
      simp only at hR
      obtain ⟨ao2, cap2, rfl⟩ := own_form hR.own
      have H2 : Hid (Sp w V g base c' (.slice ao2 xs'.length cap2) iv x' xs' (.slice cao l.length ccap)) :=
        ⟨⟨hR.r, H.out.rn.d.trans (hR.d.mono (by omega)), hR.own, H.out.rn.g0, H.out.rn.b0, hR.no, hR.bs⟩, H.out.r0.up hR.d (by omega), H.out.r2.up hR.d (by omega), H.out.r3.up hR.d (by omega), H.out.g4, H.out.b4⟩
      clear hR hrun H k15 p0
      go_wp2
      have hg4 := H2.out.g4
      refine region_still (S := fun w' => Rw w' g 141 (rcs c' (.slice ao2 xs'.length cap2) iv x')) 6 (by kernel_rfl) H2.out.rn.r (fun hHeld => ?_)
      refine Still.takeBy (i := 0) [] (v := ?v201) (by kernel_rfl) (by kernel_rfl) rfl (by kernel_rfl) (by kernel_rfl) (by kernel_rfl) (fun _ _ _ h => h) (Or.inl ⟨by rfl, ?y201⟩) hHeld ?r201
      case y201 => (intro w' hSw; (try dsimp only at hSw); go_simp; try with_reducible rfl)
      simp only [Act.put, List.getElem_toArray, List.getElem_cons_zero, List.getElem_cons_succ, List.setIfInBounds_toArray, List.set_cons_zero, List.set_cons_succ]
      refine Still.takeBy (i := 1) [] (by kernel_rfl) (by kernel_rfl) rfl (by kernel_rfl) (by kernel_rfl) (by kernel_rfl) (fun _ _ _ h => h) (yields_load rfl _ _ rfl _ (by first | rfl | simp [Act.eval, Act.put]) _ (fun w' hSw => load_cell hSw)) hHeld ?r202
      simp only [Act.put, List.getElem_toArray, List.getElem_cons_zero, List.getElem_cons_succ, List.setIfInBounds_toArray, List.set_cons_zero, List.set_cons_succ]
      refine Still.takeBy (i := 2) [] (v := ?v203) (by kernel_rfl) (by kernel_rfl) rfl (by kernel_rfl) (by kernel_rfl) (by kernel_rfl) (fun _ _ _ h => h) (Or.inl ⟨by rfl, ?y203⟩) hHeld ?r203
      case y203 => (intro w' hSw; (try dsimp only at hSw); go_simp; try with_reducible rfl)
      simp only [Act.put, List.getElem_toArray, List.getElem_cons_zero, List.getElem_cons_succ, List.setIfInBounds_toArray, List.set_cons_zero, List.set_cons_succ]
      refine Still.takeBy (i := 3) [] (by kernel_rfl) (by kernel_rfl) rfl (by kernel_rfl) (by kernel_rfl) (by kernel_rfl) (fun _ _ _ h => h) (yields_load rfl _ _ rfl _ (by first | rfl | simp [Act.eval, Act.put]) _ (fun w' hSw => load_want hSw)) hHeld ?r204
      simp only [Act.put, List.getElem_toArray, List.getElem_cons_zero, List.getElem_cons_succ, List.setIfInBounds_toArray, List.set_cons_zero, List.set_cons_succ]
      refine Still.all (rs := [4]) (by kernel_rfl) (by simp) (Still.one (i := 4) rfl rfl (fun K hK => ?_) (by simp))
      refine wp_store_row 62 _ _ rfl (w.heap.size + 2) (Cel.cs c' (.slice ao2 xs'.length cap2)) (by first | rfl | simp [Act.eval, Act.put]) (by first | rfl | simp [Act.eval, Act.put]) 62 _ H2.out.r2 sizeCell rfl (Cel.cs_one _ _ rfl) ?_
      refine hK _ _ (fun _ => hHeld.row_other _ (by omega)) (fun _ => ?_)
      clear hK K hHeld
      try simp only [Act.put, List.getElem_toArray, List.getElem_cons_zero, List.getElem_cons_succ, List.setIfInBounds_toArray, List.set_cons_zero, List.set_cons_succ]
      have hHeld : Rw (World.setRow (World.drew V) (w.heap.size + 2) (Cel.cs c' (.slice ao2 xs'.length cap2))) g 141 (rcs c' (.slice ao2 xs'.length cap2) iv x') := Rw.row_other (w := World.drew V) H2.out.rn.r _ (by omega)
      refine Still.all (rs := [5]) (by kernel_rfl) (by simp) (Still.one (i := 5) rfl rfl (fun K hK => ?_) (by simp))
      refine wp_store_row 110 _ _ rfl (w.heap.size + 3) (Wnt.cs x') (by first | rfl | simp [Act.eval, Act.put]) (by first | rfl | simp [Act.eval, Act.put]) 110 _ (Rw.row_other (w := World.drew V) H2.out.r3 _ (by omega)) sizeWant rfl (Wnt.cs_one _) ?_
      refine hK _ _ (fun _ => Rw.row_other hHeld _ (by omega)) (fun _ => ?_)
      clear hK K
      try simp only [Act.put, List.getElem_toArray, List.getElem_cons_zero, List.getElem_cons_succ, List.setIfInBounds_toArray, List.set_cons_zero, List.set_cons_succ]
      refine Still.all (rs := [6]) (by kernel_rfl) (by simp) (Still.one (i := 6) rfl rfl (fun K hK => ?_) (by simp))
      go_simp
      refine hK _ _ (fun h => absurd rfl h) (fun _ => ?_)
      clear hK K
      refine Still.over (by kernel_rfl) ?_ _
      clear hHeld
      go_wp2
      refine bodyPost_ret (results_row2_tmp Tryd.results62 _ _ (w.heap.size + 2) (w.heap.size + 3) _ _ _ rfl rfl rfl (run_loadVar_row _ _ 62 _ (Cel.cs c' (.slice ao2 xs'.length cap2)) (0, 0) _ (Rw.row_other (Rw.row (w := World.drew V) H2.out.r2 _) _ (by omega)) Tryd.underlying62 rfl sizeCell) (run_loadVar_row _ _ 110 _ (Wnt.cs x') (0, 0) _ (Rw.row (Rw.row_other (w := World.drew V) H2.out.r3 _ (by omega)) _) Tryd.underlying110 rfl sizeWant)) rfl ⟨_, by rw [HST.out]; rfl, by rw [HST.out]; exact own_low (own_row (own_row (w := World.drew V) H2.out.rn.own _ (fun e => by have := own_block H2.out.rn.own _ e; have := H2.out.b4; omega)) _ (fun e => by have := own_block H2.out.rn.own _ e; have := H2.out.b4; omega)) (by have := H2.out.b4; omega), below_row (below_row H2.out.rn.d.drew (by omega) _) (by omega) _⟩
    · have hen' : (c.en == 0) = false := by simpa using hen
      have HST : Hid (stepC l inn xs c = (c, xs, wntZ)) := by
        show stepC l inn xs c = _
        unfold stepC
        rw [if_neg hen]
      clear hen p0
      go_wp2
      have hg4 := H.out.g4
      refine region_still (S := fun w' => Rw w' g 141 (rcs c (.slice ao' xs.length cap') iv wntZ)) 6 (by kernel_rfl) H.out.rn.r (fun hHeld => ?_)
      refine Still.takeBy (i := 0) [] (v := ?v301) (by kernel_rfl) (by kernel_rfl) rfl (by kernel_rfl) (by kernel_rfl) (by kernel_rfl) (fun _ _ _ h => h) (Or.inl ⟨by rfl, ?y301⟩) hHeld ?r301
      case y301 => (intro w' hSw; (try dsimp only at hSw); go_simp; try with_reducible rfl)
      simp only [Act.put, List.getElem_toArray, List.getElem_cons_zero, List.getElem_cons_succ, List.setIfInBounds_toArray, List.set_cons_zero, List.set_cons_succ]
      refine Still.takeBy (i := 1) [] (by kernel_rfl) (by kernel_rfl) rfl (by kernel_rfl) (by kernel_rfl) (by kernel_rfl) (fun _ _ _ h => h) (yields_load rfl _ _ rfl _ (by first | rfl | simp [Act.eval, Act.put]) _ (fun w' hSw => load_cell hSw)) hHeld ?r302
      simp only [Act.put, List.getElem_toArray, List.getElem_cons_zero, List.getElem_cons_succ, List.setIfInBounds_toArray, List.set_cons_zero, List.set_cons_succ]
      refine Still.takeBy (i := 2) [] (v := ?v303) (by kernel_rfl) (by kernel_rfl) rfl (by kernel_rfl) (by kernel_rfl) (by kernel_rfl) (fun _ _ _ h => h) (Or.inl ⟨by rfl, ?y303⟩) hHeld ?r303
      case y303 => (intro w' hSw; (try dsimp only at hSw); go_simp; try with_reducible rfl)
      simp only [Act.put, List.getElem_toArray, List.getElem_cons_zero, List.getElem_cons_succ, List.setIfInBounds_toArray, List.set_cons_zero, List.set_cons_succ]
      refine Still.takeBy (i := 3) [] (by kernel_rfl) (by kernel_rfl) rfl (by kernel_rfl) (by kernel_rfl) (by kernel_rfl) (fun _ _ _ h => h) (yields_load rfl _ _ rfl _ (by first | rfl | simp [Act.eval, Act.put]) _ (fun w' hSw => load_want hSw)) hHeld ?r304
      simp only [Act.put, List.getElem_toArray, List.getElem_cons_zero, List.getElem_cons_succ, List.setIfInBounds_toArray, List.set_cons_zero, List.set_cons_succ]
      refine Still.all (rs := [4]) (by kernel_rfl) (by simp) (Still.one (i := 4) rfl rfl (fun K hK => ?_) (by simp))
      refine wp_store_row 62 _ _ rfl (w.heap.size + 2) (Cel.cs c (.slice ao' xs.length cap')) (by first | rfl | simp [Act.eval, Act.put]) (by first | rfl | simp [Act.eval, Act.put]) 62 _ H.out.r2 sizeCell rfl (Cel.cs_one _ _ rfl) ?_
      refine hK _ _ (fun _ => hHeld.row_other _ (by omega)) (fun _ => ?_)
      clear hK K hHeld
      try simp only [Act.put, List.getElem_toArray, List.getElem_cons_zero, List.getElem_cons_succ, List.setIfInBounds_toArray, List.set_cons_zero, List.set_cons_succ]
      have hHeld : Rw (World.setRow (World.drew wc) (w.heap.size + 2) (Cel.cs c (.slice ao' xs.length cap'))) g 141 (rcs c (.slice ao' xs.length cap') iv wntZ) := Rw.row_other (w := World.drew wc) H.out.rn.r _ (by omega)
      refine Still.all (rs := [5]) (by kernel_rfl) (by simp) (Still.one (i := 5) rfl rfl (fun K hK => ?_) (by simp))
      refine wp_store_row 110 _ _ rfl (w.heap.size + 3) (Wnt.cs wntZ) (by first | rfl | simp [Act.eval, Act.put]) (by first | rfl | simp [Act.eval, Act.put]) 110 _ (Rw.row_other (w := World.drew wc) H.out.r3 _ (by omega)) sizeWant rfl (Wnt.cs_one _) ?_
      refine hK _ _ (fun _ => Rw.row_other hHeld _ (by omega)) (fun _ => ?_)
      clear hK K
      try simp only [Act.put, List.getElem_toArray, List.getElem_cons_zero, List.getElem_cons_succ, List.setIfInBounds_toArray, List.set_cons_zero, List.set_cons_succ]
      refine Still.all (rs := [6]) (by kernel_rfl) (by simp) (Still.one (i := 6) rfl rfl (fun K hK => ?_) (by simp))
      go_simp
      refine hK _ _ (fun h => absurd rfl h) (fun _ => ?_)
      clear hK K
      refine Still.over (by kernel_rfl) ?_ _
      clear hHeld
      go_wp2
      refine bodyPost_ret (results_row2_tmp Tryd.results62 _ _ (w.heap.size + 2) (w.heap.size + 3) _ _ _ rfl rfl rfl (run_loadVar_row _ _ 62 _ (Cel.cs c (.slice ao' xs.length cap')) (0, 0) _ (Rw.row_other (Rw.row (w := World.drew wc) H.out.r2 _) _ (by omega)) Tryd.underlying62 rfl sizeCell) (run_loadVar_row _ _ 110 _ (Wnt.cs wntZ) (0, 0) _ (Rw.row (Rw.row_other (w := World.drew wc) H.out.r3 _ (by omega)) _) Tryd.underlying110 rfl sizeWant)) rfl ⟨_, by rw [HST.out]; rfl, by rw [HST.out]; exact own_low (own_row (own_row (w := World.drew wc) H.out.rn.own _ (fun e => by have := own_block H.out.rn.own _ e; have := H.out.b4; omega)) _ (fun e => by have := own_block H.out.rn.own _ e; have := H.out.b4; omega)) (by have := H.out.b4; omega), below_row (below_row H.out.rn.d.drew (by omega) _) (by omega) _⟩
end Go.Proofs.YtnnnljfdjdehaaaDoor

namespace Go.Proofs.YtnnnljfdjdehaaaDoor
set_option linter.unusedSimpArgs false
set_option linter.unusedVariables false
open Go.RowKit Go.Sort Go.Shelf

attribute [local go_sem] Oper.semAt_some

/-- What the ticks come to, from e on. -/
def sumT : Int → List Slt → Int
  | e, [] => e
  | e, t :: r => sumT (e + t.tk) r
theorem sumT_snoc : ∀ (l : List Slt) (e : Int) (t : Slt), sumT e (l ++ [t]) = sumT e l + t.tk
  | [], e, t => rfl
  | x :: r, e, t => by rw [List.cons_append, sumT, sumT, sumT_snoc r]
/-- Whose turn it is, and the first tick behind it. -/
def turnsL : Int → List Slt → List (Int × Int)
  | _, [] => []
  | e, t :: r => (t.pt, e + t.tk) :: turnsL (e + t.tk) r
theorem turnsL_snoc : ∀ (l : List Slt) (e : Int) (t : Slt), turnsL e (l ++ [t]) = turnsL e l ++ [(t.pt, sumT e l + t.tk)]
  | [], e, t => rfl
  | x :: r, e, t => by rw [List.cons_append, turnsL, turnsL_snoc r, turnsL, sumT]; rfl
theorem turnsL_len : ∀ (l : List Slt) (e : Int), (turnsL e l).length = l.length
  | [], e => rfl
  | x :: r, e => by rw [turnsL, List.length_cons, turnsL_len r]; rfl
/-- Slots of a right system. -/
def SlotsOk (ts : List Slt) : Prop := ts.length ≤ 6 ∧ ∀ j (h : j < ts.length), 1 ≤ ts[j].tk ∧ ts[j].tk ≤ 8
theorem sumT_bd {ts : List Slt} (h : SlotsOk ts) : ∀ k, k ≤ ts.length → (k : Int) ≤ sumT 0 (ts.take k) ∧ sumT 0 (ts.take k) ≤ 8 * k
  | 0, _ => by simp [sumT]
  | k + 1, hk => by
    have ih := sumT_bd h k (by omega)
    have ht := h.2 k (by omega)
    rw [List.take_succ_eq_append_getElem (by omega), sumT_snoc]
    omega

set_option maxRecDepth 100000 in
set_option maxHeartbeats 2000000 in
theorem turns1_in (F : Fence) (n : Nat) (hf : F.fn 95) (hro : F.round = none) (hn : 1 ≤ n) (l Bs n₀ b off cap : Nat) (ts : List Slt) (hts : SlotsOk ts) (hb : b < n₀) (J Jx : List (Int × Int) → World → Prop) (W : World) (hW : n₀ ≤ W.heap.size) (hJ : AbidesFrom W.heap.size J)
    (hY : ∀ pre x W, J pre W → pre.length < ts.length → YieldAt F (n - 1) Tryd.prog l #[.int .i64 x.1, .int .i64 x.2] W fun e W' =>
      (e = .returned (.bool true) ∧ J (pre ++ [x]) W' ∧ Below n₀ W W') ∨ (e = .returned (.bool false) ∧ Jx (pre ++ [x]) W'))
    (hBs : W.cell? ⟨Bs, 0, none⟩ = some (.slice (some ⟨b, off, none⟩) ts.length cap)) (hc : ∀ j u, (rowC slC ts)[j]? = some u → W.cell? ⟨b, off + j, none⟩ = some u) (h0 : J [] W) :
    CallsIn F n Tryd.prog 95 #[.func (.yield l) #[] #[], .pointer (some ⟨Bs, 0, none⟩)] W fun e W' => (∃ v, e = .returned v) ∧
      ((∃ ys, ys = turnsL 0 ts ∧ J ys W') ∨ (∃ pre, (∃ k, k ≤ ts.length ∧ pre = turnsL 0 (ts.take k)) ∧ Jx pre W')) := by
  have HC := Lib.hid hc
  have HJ := Lib.hid hJ
  have HT := Lib.hid hts
  have HY := Lib.hid hY
  have hl6 := hts.1
  clear hc hJ hts hY
  refine callsIn_of_wp Tryd.func95 rfl hf ?_ hro
  simp only [Tryd.ntmps95, List.size_toArray, List.length_cons, List.length_nil, Nat.reduceAdd, Nat.reduceSub, Array.replicate_succ, Array.replicate_zero, List.push_toArray, List.append_toArray, List.nil_append, List.cons_append]
  gi_wp2
  gi_loopw [3, 8] (fun e i wr => ∃ k : Nat, k ≤ ts.length ∧ i = .int .i64 k ∧ e = .int .i64 (sumT 0 (ts.take k)) ∧ J (turnsL 0 (ts.take k)) wr ∧ Below n₀ W wr)
    (fun _ i _ => ts.length - (intOf i).toNat)
  case atStart => exact ⟨0, Nat.zero_le _, rfl, rfl, h0, Below.refl _ _⟩
  case round =>
    obtain ⟨k, hk, rfl, rfl, hJs, hnx⟩ := hrel
    have hbd := sumT_bd HT.out k hk
    by_cases hlt : k < ts.length
    · have htk := HT.out.2 k hlt
      have hli : (k : Int) < ts.length := by omega
      have hJ1 := HJ.out _ _ (wr.alloc (.cells #[.int .i64 ts[k].pt, .int .i64 ts[k].tk] 79)) none hJs (World.grownBy_alloc _ _ _) (fun r e => by cases e)
      obtain ⟨fn, tmps, assign, body, hy, hR⟩ := HY.out _ (ts[k].pt, sumT 0 (ts.take k) + ts[k].tk) _ hJ1 (by rw [turnsL_len, List.length_take]; omega)
      dsimp only at hy
      obtain ⟨c0, c1⟩ := slot_cells HC.out k hlt
      have c0 := bcl hnx hb c0
      have c1 := bcl hnx hb c1
      have HSN : Hid (turnsL 0 (ts.take (k + 1)) = turnsL 0 (ts.take k) ++ [(ts[k].pt, sumT 0 (ts.take k) + ts[k].tk)]) := by
        show _ = _
        rw [List.take_succ_eq_append_getElem hlt, turnsL_snoc]
      have HSM : Hid (sumT 0 (ts.take (k + 1)) = sumT 0 (ts.take k) + ts[k].tk) := by
        show _ = _
        rw [List.take_succ_eq_append_getElem hlt, sumT_snoc]
      have hsz := hnx.size
      gi_wp2
      refine hR.mono ?_
      rintro e W3 (⟨rfl, hJ3, hk3⟩ | ⟨rfl, hJx3⟩)
      · gi_wp2
        go_roundw
        case rel => exact ⟨k + 1, by omega, by go_num, by rw [HSM.out], by rw [HSN.out]; exact hJ3, (hnx.alloc (by omega) _).trans hk3⟩
        case measure => simp [intOf]; omega
      · gi_wp2
        refine bodyPost_ret (results_none rfl _ _ _) rfl ?_
        exact ⟨⟨_, rfl⟩, .inr ⟨_, ⟨k + 1, by omega, HSN.out.symm⟩, hJx3⟩⟩
    · obtain rfl : k = ts.length := by omega
      rw [List.take_length] at hJs
      gi_wp2
      go_end0
      exact ⟨⟨_, rfl⟩, .inl ⟨_, rfl, hJs⟩⟩

set_option maxHeartbeats 1000000 in
theorem turns_in (F : Fence) (n : Nat) (hf : F.fn 65) (hro : F.round = none) (a : Option Addr) (len cap : Nat) (w : World) :
    CallsIn F n Tryd.prog 65 #[.slice a len cap] w fun e w' => e = .returned (.func (.func 95) #[] #[.pointer (some ⟨w.heap.size, 0, none⟩)]) ∧ w' = w.alloc (.cells #[.slice a len cap] 24) := by
  refine callsIn_of_wp Tryd.func65 rfl hf ?_ hro
  simp only [Tryd.ntmps65, List.size_toArray, List.length_cons, List.length_nil, Nat.reduceAdd, Nat.reduceSub, Array.replicate_succ, Array.replicate_zero, List.push_toArray, List.append_toArray, List.nil_append, List.cons_append]
  gi_wp2
  go_ret
  exact ⟨rfl, rfl⟩

theorem turns_stops (F : Fence) (n : Nat) (hf : F.fn 95) (hro : F.round = none) (hn : 1 ≤ n) (Bs n₀ b off cap : Nat) (ts : List Slt) (hts : SlotsOk ts) (w : World) (hBs : Bs < w.heap.size) (hn₀ : n₀ ≤ w.heap.size) (hb : b < n₀)
    (hc : w.cell? ⟨Bs, 0, none⟩ = some (.slice (some ⟨b, off, none⟩) ts.length cap)) (hI : ∀ j u, (rowC slC ts)[j]? = some u → w.cell? ⟨b, off + j, none⟩ = some u) :
    SeqStopsK F n Tryd.prog 95 #[.pointer (some ⟨Bs, 0, none⟩)] (fun x : Int × Int => #[Value.int .i64 x.1, Value.int .i64 x.2]) (Below n₀) (fun ys => ys = turnsL 0 ts)
      (fun pre => ∃ k, k ≤ ts.length ∧ pre = turnsL 0 (ts.take k)) ts.length w := fun l J Jx W hW hJ _ hY h0 => by
  have hc' := (hW.cell (p := ⟨Bs, 0, none⟩) hBs).trans hc
  exact turns1_in F n hf hro hn l Bs n₀ b off cap ts hts hb J Jx W (Nat.le_trans hn₀ hW.size) hJ hY hc' (fun j u hj => bcl hW (by omega) (hI j u hj)) h0
end Go.Proofs.YtnnnljfdjdehaaaDoor

namespace Go.Proofs.YtnnnljfdjdehaaaDoor
set_option linter.unusedSimpArgs false
set_option linter.unusedVariables false
open Go.RowKit Go.Sort Go.Shelf

attribute [local go_sem] Oper.semAt_some

theorem turnsL_app : ∀ (l m : List Slt) (e : Int), turnsL e (l ++ m) = turnsL e l ++ turnsL (sumT e l) m
  | [], m, e => rfl
  | x :: r, m, e => by rw [List.cons_append, turnsL, turnsL_app r, turnsL, sumT]; rfl
/-- The last one's end. -/
def lastE (e : Int) : List (Int × Int) → Int
  | [] => e
  | x :: r => lastE x.2 r
theorem lastE_snoc : ∀ (l : List (Int × Int)) (e : Int) (x : Int × Int), lastE e (l ++ [x]) = x.2
  | [], e, x => rfl
  | y :: r, e, x => by rw [List.cons_append, lastE, lastE_snoc r]
theorem lastE_turns : ∀ (l : List Slt) (e : Int), lastE e (turnsL e l) = sumT e l
  | [], e => rfl
  | x :: r, e => by rw [turnsL, lastE, sumT, lastE_turns r]
/-- The last one. -/
def lastP (w : Int) : List (Int × Int) → Int
  | [] => w
  | x :: r => lastP x.1 r
theorem lastP_snoc : ∀ (l : List (Int × Int)) (e : Int) (x : Int × Int), lastP e (l ++ [x]) = x.1
  | [], e, x => rfl
  | y :: r, e, x => by rw [List.cons_append, lastP, lastP_snoc r]
/-- Who has a tick: the first one whose end lies behind it. -/
def ownL (tick : Int) : Int → List (Int × Int) → Int
  | who, [] => who
  | _, x :: r => if tick < x.2 then x.1 else ownL tick x.1 r
theorem ownL_all (tick : Int) : ∀ (l : List (Int × Int)) (who : Int), (∀ p ∈ l, p.2 ≤ tick) → ownL tick who l = lastP who l
  | [], _, _ => rfl
  | x :: r, who, h => by
    rw [ownL, if_neg (by have := h x (by simp); omega), lastP]
    exact ownL_all tick r x.1 (fun p hp => h p (by simp [hp]))
theorem ownL_stop (tick : Int) : ∀ (l : List (Int × Int)) (who : Int) (x : Int × Int) (r : List (Int × Int)), (∀ p ∈ l, p.2 ≤ tick) → tick < x.2 → ownL tick who (l ++ x :: r) = x.1
  | [], _, x, r, _, hx => by rw [List.nil_append, ownL, if_pos hx]
  | y :: l, who, x, r, h, hx => by
    rw [List.cons_append, ownL, if_neg (by have := h y (by simp); omega)]
    exact ownL_stop tick l y.1 x r (fun p hp => h p (by simp [hp])) hx

set_option maxRecDepth 100000 in
set_option maxHeartbeats 2000000 in
theorem frame_in (F : Fence) (n : Nat) (h3 : F.fn 44) (h5 : F.fn 65) (h7 : F.fn 95) (hro : F.round = none) (hn : 3 ≤ n) (b off cap : Nat) (ts : List Slt) (hts : SlotsOk ts) (w : World) (hb : b < w.heap.size)
    (hI : ∀ j u, (rowC slC ts)[j]? = some u → w.cell? ⟨b, off + j, none⟩ = some u) :
    CallsIn F n Tryd.prog 44 #[.slice (some ⟨b, off, none⟩) ts.length cap] w fun e W' => e = .returned (.int .i64 (sumT 0 ts)) ∧ Below w.heap.size w W' := by
  have h1 : 1 ≤ n := by omega
  refine callsIn_of_wp_marks Tryd.func44 rfl h3 ?_ hro
  simp only [Tryd.ntmps44, List.size_toArray, List.length_cons, List.length_nil, Nat.reduceAdd, Nat.reduceSub, Array.replicate_succ, Array.replicate_zero, List.push_toArray, List.append_toArray, List.nil_append, List.cons_append]
  gi_wp2_with (gi_at_call 65; refine (turns_in F (n - 1) h5 hro _ _ _ _).mono ?_; rintro e w' ⟨rfl, rfl⟩)
  have bS := Boxed.new w 3 (.int .i64 0)
  have bN := Boxed.new (w.alloc (.cells #[.int .i64 0] 3)) 24 (.slice (some ⟨b, off, none⟩) ts.length cap)
  rw [World.size_alloc] at bN
  have hB0 : Below w.heap.size w ((w.alloc (.cells #[.int .i64 0] 3)).alloc (.cells #[.slice (some ⟨b, off, none⟩) ts.length cap] 24)) := ((Below.refl _ w).alloc (Nat.le_refl _) _).alloc (by simp) _
  refine wpIn_rangeFunc_ownG hro h1 (gf := 95) (lb := #[.pointer (some ⟨w.heap.size + 1, 0, none⟩)]) rfl h7 (enters_of Tryd.func95 (by kernel_rfl) rfl)
    (turns_stops F (n - 1) h7 hro (by omega) (w.heap.size + 1) w.heap.size b off cap ts hts _ (by simp) (by simp; omega) hb bN.cell (fun j u hj => bcl hB0 hb (hI j u hj))) belowK_t (belowK_b (by simp; omega)) (Below.refl _ _) (fun _ => rfl)
    (fun pre W => (W.cell? ⟨w.heap.size, 0, none⟩ = some (.int .i64 (lastE 0 pre)) ∧ W.frozen? ⟨w.heap.size, 0, none⟩ = false) ∧ Below w.heap.size w W)
    (fun _ _ _ => False)
    (OwnFrom.and (Own.from (fun s A B row hs hg hr => ⟨cell_kept hs.1 hg hr, (frozen_kept hs.1 hg hr).trans hs.2⟩) _) (ownFrom_below (Nat.le_refl _) (by simp; omega)))
    (fun _ _ _ _ _ hs _ _ => hs)
    ⟨⟨(bS.alloc _).cell, (bS.alloc _).frozen⟩, hB0⟩
    (fun x => { tmps := #[.slice (some ⟨b, off, none⟩) ts.length cap, undef, .int .i64 0, .pointer (some ⟨w.heap.size, 0, none⟩), undef, .int .i64 x.2, .slice (some ⟨b, off, none⟩) ts.length cap, .func (.func 95) #[] #[.pointer (some ⟨w.heap.size + 1, 0, none⟩)], .int .i64 x.1, .int .i64 x.2, undef, undef], defers := [] }) ?assign ?body ?done ?stop
  case assign =>
    intro l x W K hK
    gi_wp2
    exact hK
  case body =>
    rintro l pre x W ⟨⟨hc, hf⟩, hB⟩ _
    gi_wp2
    exact ⟨(KeepsOthers.setCell _ _ _).from _, (Below.refl w.heap.size W).setCell (p := ⟨w.heap.size, 0, none⟩) (Nat.le_refl _) _, ⟨by rw [lastE_snoc]; exact World.cell?_setCell_same' _ _ _ (by rw [hc]; rfl), by rw [World.frozen?_setCell]; exact hf⟩, hB.setCell (p := ⟨w.heap.size, 0, none⟩) (Nat.le_refl _) _⟩
  case done =>
    rintro D ys W hD rfl ⟨⟨hc, _⟩, hB⟩ hK
    rw [lastE_turns] at hc
    gi_wp2
    refine ⟨by simp, .inl ⟨_, _, rfl, run_takeDeferred hK, ?_⟩⟩
    exact ⟨_, results_tmp rfl _ _ _, rfl, hB.trans (belowK_b (w := w) (Nat.le_refl _) W D _ _ (by simp at hD; omega) hK rfl rfl)⟩
  case stop =>
    rintro D c pre W _ _ h _
    exact h.elim

set_option maxRecDepth 100000 in
set_option maxHeartbeats 2000000 in
theorem owner_in (F : Fence) (n : Nat) (h3 : F.fn 43) (h5 : F.fn 65) (h7 : F.fn 95) (hro : F.round = none) (hn : 3 ≤ n) (b off cap : Nat) (ts : List Slt) (hts : SlotsOk ts) (tick : Int) (w : World) (hb : b < w.heap.size)
    (hI : ∀ j u, (rowC slC ts)[j]? = some u → w.cell? ⟨b, off + j, none⟩ = some u) :
    CallsIn F n Tryd.prog 43 #[.slice (some ⟨b, off, none⟩) ts.length cap, .int .i64 tick] w fun e W' => e = .returned (.int .i64 (ownL tick 0 (turnsL 0 ts))) ∧ Below w.heap.size w W' := by
  have h1 : 1 ≤ n := by omega
  refine callsIn_of_wp_marks Tryd.func43 rfl h3 ?_ hro
  simp only [Tryd.ntmps43, List.size_toArray, List.length_cons, List.length_nil, Nat.reduceAdd, Nat.reduceSub, Array.replicate_succ, Array.replicate_zero, List.push_toArray, List.append_toArray, List.nil_append, List.cons_append]
  gi_wp2_with (gi_at_call 65; refine (turns_in F (n - 1) h5 hro _ _ _ _).mono ?_; rintro e w' ⟨rfl, rfl⟩)
  have bT := Boxed.new w 3 (.int .i64 tick)
  have bS := Boxed.new (w.alloc (.cells #[.int .i64 tick] 3)) 3 (.int .i64 0)
  have bN := Boxed.new ((w.alloc (.cells #[.int .i64 tick] 3)).alloc (.cells #[.int .i64 0] 3)) 24 (.slice (some ⟨b, off, none⟩) ts.length cap)
  rw [World.size_alloc] at bS
  rw [World.size_alloc, World.size_alloc] at bN
  have hB0 : Below w.heap.size w (((w.alloc (.cells #[.int .i64 tick] 3)).alloc (.cells #[.int .i64 0] 3)).alloc (.cells #[.slice (some ⟨b, off, none⟩) ts.length cap] 24)) := (((Below.refl _ w).alloc (Nat.le_refl _) _).alloc (by simp) _).alloc (by simp; omega) _
  refine wpIn_rangeFunc_ownG hro h1 (gf := 95) (lb := #[.pointer (some ⟨w.heap.size + 1 + 1, 0, none⟩)]) rfl h7 (enters_of Tryd.func95 (by kernel_rfl) rfl)
    (turns_stops F (n - 1) h7 hro (by omega) (w.heap.size + 1 + 1) w.heap.size b off cap ts hts _ (by simp) (by simp; omega) hb bN.cell (fun j u hj => bcl hB0 hb (hI j u hj))) belowK_t (belowK_b (by simp; omega)) (Below.refl _ _) (fun _ => rfl)
    (fun pre W => ((∀ p ∈ pre, p.2 ≤ tick) ∧ W.cell? ⟨w.heap.size, 0, none⟩ = some (.int .i64 tick) ∧ W.cell? ⟨w.heap.size + 1, 0, none⟩ = some (.int .i64 (lastP 0 pre)) ∧ W.frozen? ⟨w.heap.size + 1, 0, none⟩ = false) ∧ Below w.heap.size w W)
    (fun c pre W => (c = .exit 0 ∧ ∃ ini last, pre = ini ++ [last] ∧ (∀ p ∈ ini, p.2 ≤ tick) ∧ tick < last.2 ∧ W.cell? ⟨w.heap.size + 1, 0, none⟩ = some (.int .i64 last.1)) ∧ Below w.heap.size w W)
    (OwnFrom.and (Own.from (fun s A B row hs hg hr => ⟨hs.1, cell_kept hs.2.1 hg hr, cell_kept hs.2.2.1 hg hr, (frozen_kept hs.2.2.1 hg hr).trans hs.2.2.2⟩) _) (ownFrom_below (Nat.le_refl _) (by simp; omega)))
    (fun c => OwnFrom.and (Own.from (fun s A B row hs hg hr => by obtain ⟨hc, ini, last, e1, e2, e3, e4⟩ := hs; exact ⟨hc, ini, last, e1, e2, e3, cell_kept e4 hg hr⟩) _) (ownFrom_below (Nat.le_refl _) (by simp; omega)))
    ⟨⟨by simp, ((bT.alloc _).alloc _).cell, (bS.alloc _).cell, (bS.alloc _).frozen⟩, hB0⟩
    (fun x => { tmps := #[.slice (some ⟨b, off, none⟩) ts.length cap, .int .i64 tick, undef, .pointer (some ⟨w.heap.size, 0, none⟩), .int .i64 0, .pointer (some ⟨w.heap.size + 1, 0, none⟩), .int .i64 x.1, .int .i64 x.2, .slice (some ⟨b, off, none⟩) ts.length cap, .func (.func 95) #[] #[.pointer (some ⟨w.heap.size + 1 + 1, 0, none⟩)], .int .i64 x.1, .int .i64 x.2, undef, undef, undef, undef, undef], defers := [] }) ?assign ?body ?done ?stop
  case assign =>
    intro l x W K hK
    gi_wp2
    exact hK
  case body =>
    rintro l pre x W ⟨⟨hp, hct, hcr, hfr⟩, hB⟩ _
    have hct' : (W.setCell ⟨w.heap.size + 1, 0, none⟩ (.int .i64 x.1)).cell? ⟨w.heap.size, 0, none⟩ = some (.int .i64 tick) := cl_set (Or.inl (by omega)) hct
    gi_wp2
    · have hx : tick < x.2 := by assumption
      exact ⟨(KeepsOthers.setCell _ _ _).from _, ⟨rfl, pre, x, rfl, hp, hx, World.cell?_setCell_same' _ _ _ (by rw [hcr]; rfl)⟩, hB.setCell (p := ⟨w.heap.size + 1, 0, none⟩) (by simp) _⟩
    · have hx : x.2 ≤ tick := by first | assumption | omega
      exact ⟨(KeepsOthers.setCell _ _ _).from _, (Below.refl w.heap.size W).setCell (p := ⟨w.heap.size + 1, 0, none⟩) (by simp) _, ⟨fun p hp' => (List.mem_append.1 hp').elim (hp p) (fun e => by simp at e; subst e; exact hx), hct', by rw [lastP_snoc]; exact World.cell?_setCell_same' _ _ _ (by rw [hcr]; rfl), by rw [World.frozen?_setCell]; exact hfr⟩, hB.setCell (p := ⟨w.heap.size + 1, 0, none⟩) (by simp) _⟩
  case done =>
    rintro D ys W hD rfl ⟨⟨hp, hct, hcr, hfr⟩, hB⟩ hK
    rw [← ownL_all tick _ 0 hp] at hcr
    gi_wp2
    refine ⟨by simp, .inl ⟨_, _, rfl, run_takeDeferred hK, ?_⟩⟩
    exact ⟨_, results_tmp rfl _ _ _, rfl, hB.trans (belowK_b (w := w) (Nat.le_refl _) W D _ _ (by simp at hD; omega) hK rfl rfl)⟩
  case stop =>
    rintro D c pre W hD ⟨k, hk, rfl⟩ ⟨⟨rfl, ini, last, e1, e2, e3, hcr⟩, hB⟩ hK
    have he : last.1 = ownL tick 0 (turnsL 0 ts) := by
      have h := turnsL_app (ts.take k) (ts.drop k) 0
      rw [List.take_append_drop, e1, List.append_assoc] at h
      rw [h]
      exact (ownL_stop tick ini 0 last _ e2 e3).symm
    rw [he] at hcr
    gi_wp2
    refine ⟨by simp, .inl ⟨_, _, rfl, run_takeDeferred hK, ?_⟩⟩
    exact ⟨_, results_tmp rfl _ _ _, rfl, hB.trans (belowK_b (w := w) (Nat.le_refl _) W D _ _ (by simp at hD; omega) hK rfl rfl)⟩

theorem frame_any (ts : List Slt) (v : Value) (w : World) (hts : SlotsOk ts) (h1 : 1 ≤ ts.length) (hS : Sl w 2 v ts.length (rowC slC ts)) : Calls Tryd.prog 44 #[v] w fun e w' => e = .returned (.int .i64 (sumT 0 ts)) ∧ Below w.heap.size w w' := by
  obtain ⟨b, off, cap, rfl, hcap, hb, hc⟩ := hS.open (by omega)
  exact (callsIn_wide (n := 3)).1 (frame_in Fence.wide 3 trivial trivial trivial rfl (Nat.le_refl _) b off cap ts hts w hb hc)
theorem owner_any (ts : List Slt) (v : Value) (tick : Int) (w : World) (hts : SlotsOk ts) (h1 : 1 ≤ ts.length) (hS : Sl w 2 v ts.length (rowC slC ts)) : Calls Tryd.prog 43 #[v, .int .i64 tick] w fun e w' => e = .returned (.int .i64 (ownL tick 0 (turnsL 0 ts))) ∧ Below w.heap.size w w' := by
  obtain ⟨b, off, cap, rfl, hcap, hb, hc⟩ := hS.open (by omega)
  exact (callsIn_wide (n := 3)).1 (owner_in Fence.wide 3 trivial trivial trivial rfl (Nat.le_refl _) b off cap ts hts tick w hb hc)
end Go.Proofs.YtnnnljfdjdehaaaDoor

namespace Go.Proofs.YtnnnljfdjdehaaaDoor
set_option linter.unusedSimpArgs false
set_option linter.unusedVariables false
open Go.RowKit Go.Sort

/-- Does an instruction name a channel that is not its own? -/
def insBad (l : List Chn) (me : Int) (i : Ins) : Bool := (i.op == 12 && putBad l me i.n) || (i.op == 13 && getBad l me i.n)
theorem chanL_mem {l : List Ins} {op : Int} {m : Nat} {c : Int} : c ∈ chanL l op m ↔ ∃ n : Nat, c = n ∧ n < m ∧ ∃ i ∈ l, i.op = op ∧ i.n = c := by
  unfold chanL hasC
  constructor
  · intro h
    obtain ⟨n, hn, e⟩ := List.mem_map.1 h
    obtain ⟨h1, h2⟩ := List.mem_filter.1 hn
    obtain ⟨i, hi, hq⟩ := List.any_eq_true.1 h2
    simp at hq h1
    exact ⟨n, e.symm, h1, i, hi, hq.1, by rw [hq.2]; exact e⟩
  · rintro ⟨n, e, hn, i, hi, h1, h2⟩
    refine List.mem_map.2 ⟨n, List.mem_filter.2 ⟨by simpa using hn, List.any_eq_true.2 ⟨i, hi, ?_⟩⟩, e.symm⟩
    simp [h1, h2, e]
theorem nameBad_ins (l : List Chn) (me : Int) (p : Prt) (h : chkC p.code = 0) : nameBad l me p = p.code.any (insBad l me) := by
  have hz : ∀ i ∈ p.code, i.chk = 0 := fun i hi => by
    obtain ⟨j, hj, rfl⟩ := List.getElem_of_mem hi
    exact (chkC_zero h).2.2 j hj
  rw [Bool.eq_iff_iff]
  unfold nameBad
  rw [Bool.or_eq_true, List.any_eq_true, List.any_eq_true, List.any_eq_true]
  constructor
  · rintro (⟨c, hc, hb⟩ | ⟨c, hc, hb⟩)
    · obtain ⟨n, rfl, hn, i, hi, h1, h2⟩ := chanL_mem.1 hc
      exact ⟨i, hi, by unfold insBad; rw [h1, h2, hb]; rfl⟩
    · obtain ⟨n, rfl, hn, i, hi, h1, h2⟩ := chanL_mem.1 hc
      exact ⟨i, hi, by unfold insBad; rw [h1, h2, hb]; rfl⟩
  · rintro ⟨i, hi, hb⟩
    unfold insBad at hb
    rw [Bool.or_eq_true, Bool.and_eq_true, Bool.and_eq_true] at hb
    rcases hb with ⟨h1, h2⟩ | ⟨h1, h2⟩
    · have h1 : i.op = 12 := by simpa using h1
      have := chk_chan (hz i hi) (Or.inl h1)
      exact Or.inl ⟨i.n, chanL_mem.2 ⟨i.n.toNat, by omega, by omega, i, hi, h1, rfl⟩, h2⟩
    · have h1 : i.op = 13 := by simpa using h1
      have := chk_chan (hz i hi) (Or.inr h1)
      exact Or.inr ⟨i.n, chanL_mem.2 ⟨i.n.toNat, by omega, by omega, i, hi, h1, rfl⟩, h2⟩

theorem chkS_counts {S : SysD} (h : countsB S = false) : chkS S = 2 := by unfold chkS; rw [if_pos h]
theorem chkS_code {S : SysD} (h : countsB S = true) {k : Nat} (hk : k < S.parts.length) (hz : ∀ j (hj : j < S.parts.length), j < k → chkC S.parts[j].code = 0) {z : Int} (hc : chkC S.parts[k].code = z) (h0 : z ≠ 0) : chkS S = z := by
  have := firstP_at S.parts k hk hz (by rw [hc]; exact h0)
  unfold chkS
  rw [if_neg (by simp [h]), this, hc, if_pos h0]
theorem chkS_kind {S : SysD} (h : countsB S = true) (hz : ∀ j (hj : j < S.parts.length), chkC S.parts[j].code = 0) (hk : S.chans.any kindBad = true) : chkS S = 4 := by
  unfold chkS
  rw [if_neg (by simp [h]), firstP_all S.parts hz, if_neg (by simp), if_pos hk]
theorem chkS_places {S : SysD} (h : countsB S = true) (hz : ∀ j (hj : j < S.parts.length), chkC S.parts[j].code = 0) (hk : S.chans.any kindBad = false) (hp : placesB S = false) : chkS S = 3 := by
  unfold chkS
  rw [if_neg (by simp [h]), firstP_all S.parts hz, if_neg (by simp), if_neg (by simp [hk]), if_pos hp]
theorem chkS_names {S : SysD} (h : countsB S = true) (hz : ∀ j (hj : j < S.parts.length), chkC S.parts[j].code = 0) (hk : S.chans.any kindBad = false) (hp : placesB S = true) (hn : namesB S = false) : chkS S = 1 := by
  unfold chkS
  rw [if_neg (by simp [h]), firstP_all S.parts hz, if_neg (by simp), if_neg (by simp [hk]), if_neg (by simp [hp]), if_pos hn]
theorem chkS_ok {S : SysD} (h : countsB S = true) (hz : ∀ j (hj : j < S.parts.length), chkC S.parts[j].code = 0) (hk : S.chans.any kindBad = false) (hp : placesB S = true) (hn : namesB S = true) : chkS S = 0 := by
  unfold chkS
  rw [if_neg (by simp [h]), firstP_all S.parts hz, if_neg (by simp), if_neg (by simp [hk]), if_neg (by simp [hp]), if_neg (by simp [hn])]
theorem countsB_mk {S : SysD} (h : 1 ≤ S.parts.length ∧ S.parts.length ≤ 4 ∧ S.chans.length ≤ 6 ∧ 1 ≤ S.slots.length ∧ S.slots.length ≤ 6) (hi : ∀ j (hj : j < S.parts.length), S.parts[j].inn.length ≤ 12) : countsB S = true := by
  unfold countsB
  rw [Bool.and_eq_true]
  refine ⟨by simpa using h, ?_⟩
  rw [Bool.not_eq_true', List.any_eq_false]
  intro p hp
  obtain ⟨j, hj, rfl⟩ := List.getElem_of_mem hp
  have := hi j hj
  simp; omega
theorem countsB_no1 {S : SysD} (h : ¬ (1 ≤ S.parts.length ∧ S.parts.length ≤ 4 ∧ S.chans.length ≤ 6 ∧ 1 ≤ S.slots.length ∧ S.slots.length ≤ 6)) : countsB S = false := by
  unfold countsB
  rw [Bool.and_eq_false_iff]
  exact Or.inl (by simpa using h)
theorem countsB_no2 {S : SysD} {j : Nat} (hj : j < S.parts.length) (h : 12 < S.parts[j].inn.length) : countsB S = false := by
  unfold countsB
  rw [Bool.and_eq_false_iff]
  refine Or.inr ?_
  rw [Bool.not_eq_false']
  exact any_mem hj (by simpa using h)
theorem countsB_is {S : SysD} (h : countsB S = true) : (1 ≤ S.parts.length ∧ S.parts.length ≤ 4 ∧ S.chans.length ≤ 6 ∧ 1 ≤ S.slots.length ∧ S.slots.length ≤ 6) ∧ ∀ j (hj : j < S.parts.length), S.parts[j].inn.length ≤ 12 := by
  unfold countsB at h
  rw [Bool.and_eq_true] at h
  refine ⟨by simpa using h.1, fun j hj => ?_⟩
  have h2 := h.2
  rw [Bool.not_eq_true', List.any_eq_false] at h2
  have := h2 _ (List.getElem_mem hj)
  simp at this; omega

theorem placesB_no1 {S : SysD} (h : S.chans.any (placeBad S.parts.length) = true) : placesB S = false := by unfold placesB; rw [h]; rfl
theorem placesB_no2 {S : SysD} (h : S.slots.any (slotBad S.parts.length) = true) : placesB S = false := by unfold placesB; rw [h]; simp
theorem placesB_yes {S : SysD} (h1 : S.chans.any (placeBad S.parts.length) = false) (h2 : S.slots.any (slotBad S.parts.length) = false) : placesB S = true := by unfold placesB; rw [h1, h2]; rfl
theorem namesB_no {S : SysD} {k : Nat} (hk : k < S.parts.length) (hz : chkC S.parts[k].code = 0) (h : S.parts[k].code.any (insBad S.chans (k : Int)) = true) : namesB S = false :=
  namesFrom_at S.chans S.parts 0 k hk (by rw [Nat.zero_add, nameBad_ins _ _ _ hz]; exact h)
theorem namesB_yes {S : SysD} (hz : ∀ j (hj : j < S.parts.length), chkC S.parts[j].code = 0) (h : ∀ k (hk : k < S.parts.length), S.parts[k].code.any (insBad S.chans (k : Int)) = false) : namesB S = true :=
  namesFrom_all S.chans S.parts 0 (fun j hj => by rw [Nat.zero_add, nameBad_ins _ _ _ (hz j hj)]; exact h j hj)
theorem putBad_lt {l : List Chn} {me : Int} {m : Nat} (h : m < l.length) : putBad l me (m : Int) = (l[m].fr != me) := by
  unfold putBad
  rw [show ((m : Int)).toNat = m from rfl, List.getElem?_eq_getElem h]
theorem putBad_ge {l : List Chn} {me : Int} {m : Nat} (h : ¬ m < l.length) : putBad l me (m : Int) = true := by
  unfold putBad
  rw [show ((m : Int)).toNat = m from rfl, List.getElem?_eq_none (by omega)]
theorem getBad_lt {l : List Chn} {me : Int} {m : Nat} (h : m < l.length) : getBad l me (m : Int) = (l[m].tt != me) := by
  unfold getBad
  rw [show ((m : Int)).toNat = m from rfl, List.getElem?_eq_getElem h]
theorem getBad_ge {l : List Chn} {me : Int} {m : Nat} (h : ¬ m < l.length) : getBad l me (m : Int) = true := by
  unfold getBad
  rw [show ((m : Int)).toNat = m from rfl, List.getElem?_eq_none (by omega)]

set_option maxHeartbeats 1000000 in
theorem kindRef_any (kd : Int) (w : World) : Calls Tryd.prog 32 #[.int .i64 kd] w fun e w' => e = .returned (.bool (kd == 1 || kd == 2)) ∧ w' = w := by
  generalize h1 : (kd == 1) = q1
  generalize h2 : (kd == 2) = q2
  cases q1 <;> cases q2
  all_goals
    go_enter Tryd.func32, Tryd.ntmps32
    go_wp2
    go_ret
    exact ⟨rfl, rfl⟩
end Go.Proofs.YtnnnljfdjdehaaaDoor

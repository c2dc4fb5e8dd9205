/- cell.Step. -/
import Derived.Test.YtjhjaafoikadgaaDoorJf
import Derived.Deep.MidRow
import Derived.Deep.CutRange
namespace Go.Proofs.YtjhjaafoikadgaaDoor
set_option linter.unusedSimpArgs false
set_option linter.unusedVariables false
open Go.RowKit Go.Sort

theorem ent_copied : Enters 85 := enters Tryd.func85 (by kernel_rfl) (by kernel_rfl)
theorem build_runner (c : Cel) (o : Value) (a : Option Addr) (n k : Nat) (w : World) : (Instr.build 127 #[(0, .agg (c.cs o)), (1, .slice a n k)]).run Tryd.prog w = .ok (.agg (rcs c o (.slice a n k) wntZ)) w := run_build w _ _ _ (by kernel_rfl)
def Wnt.cs (x : Wnt) : Array Value := #[.int .i64 x.k, .int .i64 x.ch, .int .i64 x.reg, .int .i64 x.flag, .int .i64 x.val]
theorem Wnt.v_cs (x : Wnt) : x.v = .agg x.cs := rfl
theorem sizeRunner : (Tryd.prog.info? 127).map (·.size) = some 22 := by kernel_rfl
theorem load_cell {W : World} {g : Nat} {c : Cel} {o i : Value} {x : Wnt} (h : Rw W g 127 (rcs c o i x)) : (Instr.loadAt 54 (.pointer (some ⟨g, 0, none⟩))).run Tryd.prog W = .ok (.agg (c.cs o)) W := by
  refine run_loadAt_mid W g 0 54 (c.cs o).toList _ (fun j v hj => ?_) Tryd.underlying54 rfl sizeCell
  rw [Nat.zero_add]
  refine h.cell ?_
  have hj' : j < 16 := by have := (List.getElem?_eq_some_iff.1 hj).1; simpa [Cel.cs] using this
  have : j = 0 ∨ j = 1 ∨ j = 2 ∨ j = 3 ∨ j = 4 ∨ j = 5 ∨ j = 6 ∨ j = 7 ∨ j = 8 ∨ j = 9 ∨ j = 10 ∨ j = 11 ∨ j = 12 ∨ j = 13 ∨ j = 14 ∨ j = 15 := by omega
  rcases this with rfl | rfl | rfl | rfl | rfl | rfl | rfl | rfl | rfl | rfl | rfl | rfl | rfl | rfl | rfl | rfl <;> exact hj
theorem load_want {W : World} {g : Nat} {c : Cel} {o i : Value} {x : Wnt} (h : Rw W g 127 (rcs c o i x)) : (Instr.loadAt 83 (.pointer (some ⟨g, 17, none⟩))).run Tryd.prog W = .ok (.agg x.cs) W := by
  refine run_loadAt_mid W g 17 83 x.cs.toList _ (fun j v hj => ?_) Tryd.underlying83 rfl sizeWant
  refine h.cell ?_
  have hj' : j < 5 := by have := (List.getElem?_eq_some_iff.1 hj).1; simpa [Wnt.cs] using this
  have : j = 0 ∨ j = 1 ∨ j = 2 ∨ j = 3 ∨ j = 4 := by omega
  rcases this with rfl | rfl | rfl | rfl | rfl <;> exact hj
theorem Wnt.cs_one (x : Wnt) : x.cs.all (·.oneCell') = true := by
  simp [Wnt.cs]
  simp [Value.oneCell']
theorem rcs_one (c : Cel) (o i : Value) (x : Wnt) (h : o.oneCell' = true) (h' : i.oneCell' = true) : (rcs c o i x).all (·.oneCell') = true := by
  simp [rcs, h, h']
  simp [Value.oneCell']
/-- The step of a cell: what it has behind it, what it has told, what it wants. -/
def stepC (l : List Ins) (inn xs : List Int) (c : Cel) : Cel × List Int × Wnt := if c.en = 0 then runC l inn xs c wntZ else (c, xs, wntZ)

set_option maxRecDepth 100000 in
set_option maxHeartbeats 4000000 in
theorem cellStep_bad (l : List Ins) (v : Value) (iao : Option Addr) (i icap : Nat) (c : Cel) (ao : Option Addr) (n cap : Nat) (d : Int) (hd : chkC l = d) (f : Bool) (hf : c.fine n = f) (e0 : Int) (he0 : stepE d i f c.read = e0) (hne : e0 ≠ 0) (w : World) (he : Env w) (hS : Sl w 4 v l.length (codeC l)) :
    Calls Tryd.prog 62 #[partV v (.slice iao i icap), c.v (.slice ao n cap)] w fun e w' => e = .returned (.tuple #[celZ.v (.slice none 0 0), wntZ.v, .int .i64 e0]) ∧ Below w.heap.size w w' := by
  have hne' : (e0 != 0) = true := by simpa using hne
  have HC := Lib.hid fun w he hS => he0 ▸ checkStep_any l v iao i icap c ao n cap d hd f hf w he hS
  have HE := Lib.hid he
  have HS := Lib.hid hS
  clear hf he0 hne hd he hS
  rw [Cel.v_cs] at HC
  rw [Cel.v_cs]
  unfold partV at HC
  unfold partV
  go_enter Tryd.func62, Tryd.ntmps62
  go_wp2_with (refine wpList_load_row rfl 54 (.tmp 3) rfl (w.heap.size + 1) rfl 54 (c.cs (.slice ao n cap)) (0, 0) _ (by repeat (first | exact Rw.new _ _ _ (by first | rfl | (simp; done) | omega | (simp; omega)) | refine Rw.alloc ?_ _)) Tryd.underlying54 rfl sizeCell ?_)
  refine (HC.out _ (HE.out.up (by repeat (first | exact Below.refl _ _ | assumption | refine Below.drew ?_ | refine Below.alloc ?_ (by first | (simp; done) | (simp; omega)) _ | refine Below.setCell ?_ (by first | (simp; done) | (simp; omega)) _))) (HS.out.up (by repeat (first | exact Below.refl _ _ | assumption | refine Below.drew ?_ | refine Below.alloc ?_ (by first | (simp; done) | (simp; omega)) _ | refine Below.setCell ?_ (by first | (simp; done) | (simp; omega)) _)))).mono ?_
  rintro e w1 ⟨rfl, b1⟩
  have D : Below w.heap.size w w1 := by
    refine Below.trans ?_ (b1.mono (by first | omega | (simp; done) | (simp; omega)))
    exact (by repeat (first | exact Below.refl _ _ | assumption | refine Below.drew ?_ | refine Below.alloc ?_ (by first | (simp; done) | (simp; omega)) _ | refine Below.setCell ?_ (by first | (simp; done) | (simp; omega)) _))
  have z : w.heap.size + 4 ≤ w1.heap.size := by have := b1.size; simp at this; omega
  have r2 : Rw w1 (w.heap.size + 2) 54 (celZ.cs (.slice none 0 0)) := Rw.up (by repeat (first | exact Rw.new _ _ _ (by first | rfl | (simp; done) | omega | (simp; omega)) | refine Rw.alloc ?_ _)) b1 (by first | omega | (simp; done) | (simp; omega))
  have r3 : Rw w1 (w.heap.size + 3) 83 wntZ.cs := Rw.up (by repeat (first | exact Rw.new _ _ _ (by first | rfl | (simp; done) | omega | (simp; omega)) | refine Rw.alloc ?_ _)) b1 (by first | omega | (simp; done) | (simp; omega))
  have R2 := Lib.hid r2
  have R3 := Lib.hid (r3.row_other (g' := w.heap.size + 2) (celZ.cs (.slice none 0 0)) (by omega))
  clear b1 HC r2 r3
  go_wp2_with (first | (refine wpList_store_row rfl 54 (.tmp 4) (.tmp 14) rfl (w.heap.size + 2) (celZ.cs (.slice none 0 0)) rfl rfl 54 _ R2.out sizeCell rfl (celZ.cs_one _ rfl) ?_) | (refine wpList_store_row rfl 83 (.tmp 5) (.tmp 15) rfl (w.heap.size + 3) wntZ.cs rfl rfl 83 _ R3.out sizeWant rfl wntZ.cs_one ?_))
  refine bodyPost_ret (results_row2_tmp Tryd.results62 _ _ (w.heap.size + 2) (w.heap.size + 3) _ _ _ rfl rfl rfl (run_loadVar_row _ _ 54 _ (celZ.cs (.slice none 0 0)) (0, 0) _ ((R2.out.row _).row_other _ (by omega)) Tryd.underlying54 rfl sizeCell) (run_loadVar_row _ _ 83 _ wntZ.cs (0, 0) _ (R3.out.row _) Tryd.underlying83 rfl sizeWant)) rfl ⟨rfl, below_row (below_row D (by omega) _) (by omega) _⟩

/-- Where a cell's step stands once its runner is laid: in block g. -/
structure Sp (w W : World) (g base : Nat) (c : Cel) (o i : Value) (x : Wnt) (xs : List Int) (v : Value) : Prop where
  rn : Rn w.heap.size w W g base c o i x xs
  r0 : Rw W w.heap.size 68 #[v, i]
  r2 : Rw W (w.heap.size + 2) 54 (celZ.cs (.slice none 0 0))
  r3 : Rw W (w.heap.size + 3) 83 wntZ.cs
  g4 : w.heap.size + 4 ≤ g
  b4 : w.heap.size + 4 ≤ base

set_option maxRecDepth 100000 in
set_option maxHeartbeats 8000000 in
theorem cellStep_ok (l : List Ins) (inn xs : List Int) (v iv ov : Value) (c : Cel) (hl : chkC l = 0) (hi : inn.length ≤ 12) (hf : c.fine xs.length = true) (hr : c.read ≤ inn.length) (w : World) (he : Env w) (hC : Sl w 4 v l.length (codeC l)) (hI : Sl w 1 iv inn.length (ints inn)) (hO : Sl w 1 ov xs.length (ints xs)) :
    Calls Tryd.prog 62 #[partV v iv, c.v ov] w fun e w' => ∃ o', e = .returned (.tuple #[(stepC l inn xs c).1.v o', (stepC l inn xs c).2.2.v, .int .i64 0]) ∧ w'.ownsRow w.heap.size 3 1 o' (stepC l inn xs c).2.1.length (ints (stepC l inn xs c).2.1) ∧ Below w.heap.size w w' := by
  obtain ⟨iao, icap, rfl⟩ := hI.form
  obtain ⟨ao, cap, rfl⟩ := hO.form
  obtain ⟨cao, ccap, rfl⟩ := hC.form
  have hfi := (fine_iff c _).1 hf
  have hE : stepE (chkC l) inn.length true c.read = 0 := by
    unfold stepE
    rw [hl, if_neg (by simp), if_neg (by omega), if_neg (by simp), if_neg (by omega)]
  have hfe : firstE l = 0 := by
    unfold chkC at hl
    split at hl
    · omega
    · exact hl
  have HC := Lib.hid fun w he hS => hE ▸ checkStep_any l (.slice cao l.length ccap) iao inn.length icap c ao xs.length cap (chkC l) rfl true hf w he hS
  have HE := Lib.hid he
  have HS := Lib.hid hC
  have HI := Lib.hid hI
  have HO := Lib.hid hO
  clear hE hf hl he hC hI hO
  rw [Cel.v_cs] at HC
  rw [Cel.v_cs]
  unfold partV at HC
  unfold partV
  go_enter Tryd.func62, Tryd.ntmps62
  go_wp2_with (refine wpList_load_row rfl 54 (.tmp 3) rfl (w.heap.size + 1) rfl 54 (c.cs (.slice ao xs.length cap)) (0, 0) _ (by repeat (first | exact Rw.new _ _ _ (by first | rfl | (simp; done) | omega | (simp; omega)) | refine Rw.alloc ?_ _)) Tryd.underlying54 rfl sizeCell ?_)
  refine (HC.out _ (HE.out.up (by repeat (first | exact Below.refl _ _ | assumption | refine Below.drew ?_ | refine Below.alloc ?_ (by first | (simp; done) | (simp; omega)) _ | refine Below.setCell ?_ (by first | (simp; done) | (simp; omega)) _))) (HS.out.up (by repeat (first | exact Below.refl _ _ | assumption | refine Below.drew ?_ | refine Below.alloc ?_ (by first | (simp; done) | (simp; omega)) _ | refine Below.setCell ?_ (by first | (simp; done) | (simp; omega)) _)))).mono ?_
  rintro e W ⟨rfl, b1⟩
  have D : Below w.heap.size w W := by
    refine Below.trans ?_ (b1.mono (by first | omega | (simp; done) | (simp; omega)))
    exact (by repeat (first | exact Below.refl _ _ | assumption | refine Below.drew ?_ | refine Below.alloc ?_ (by first | (simp; done) | (simp; omega)) _ | refine Below.setCell ?_ (by first | (simp; done) | (simp; omega)) _))
  have z : w.heap.size + 4 ≤ W.heap.size := by have := b1.size; simp at this; omega
  have r0 : Rw W w.heap.size 68 #[.slice cao l.length ccap, .slice iao inn.length icap] := Rw.up (by repeat (first | exact Rw.new _ _ _ (by first | rfl | (simp; done) | omega | (simp; omega)) | refine Rw.alloc ?_ _)) b1 (by first | omega | (simp; done) | (simp; omega))
  have r1 : Rw W (w.heap.size + 1) 54 (c.cs (.slice ao xs.length cap)) := Rw.up (by repeat (first | exact Rw.new _ _ _ (by first | rfl | (simp; done) | omega | (simp; omega)) | refine Rw.alloc ?_ _)) b1 (by first | omega | (simp; done) | (simp; omega))
  have r2 : Rw W (w.heap.size + 2) 54 (celZ.cs (.slice none 0 0)) := Rw.up (by repeat (first | exact Rw.new _ _ _ (by first | rfl | (simp; done) | omega | (simp; omega)) | refine Rw.alloc ?_ _)) b1 (by first | omega | (simp; done) | (simp; omega))
  have r3 : Rw W (w.heap.size + 3) 83 wntZ.cs := Rw.up (by repeat (first | exact Rw.new _ _ _ (by first | rfl | (simp; done) | omega | (simp; omega)) | refine Rw.alloc ?_ _)) b1 (by first | omega | (simp; done) | (simp; omega))
  have R0 := Lib.hid r0
  have R1 := Lib.hid r1
  have R2 := Lib.hid r2
  have R3 := Lib.hid r3
  have HD := Lib.hid D
  clear b1 HC r0 r1 r2 r3 D
  go_wp2
  go_cut [8] from 9 (fun p wc => ∃ g base ao' cap', p = .pointer (some ⟨g, 0, none⟩) ∧ Hid (Sp w wc g base c (.slice ao' xs.length cap') (.slice iao inn.length icap) wntZ xs (.slice cao l.length ccap)))
  case first =>
    refine region_still (S := fun w' => Rw w' (w.heap.size + 1) 54 (c.cs (.slice ao xs.length cap)) ∧ Rw w' w.heap.size 68 #[.slice cao l.length ccap, .slice iao inn.length icap]) 6 (by kernel_rfl) ⟨R1.out, R0.out⟩ (fun hHeld => ?_)
    refine Still.takeBy (i := 0) [] (by kernel_rfl) (by kernel_rfl) rfl (by kernel_rfl) (by kernel_rfl) (by kernel_rfl) (fun _ _ _ h => h) (yields_load rfl _ _ rfl _ (by first | rfl | simp [Act.eval, Act.put]) _ (fun w' hSw => Rw.loadAt hSw.1 Tryd.underlying54 rfl sizeCell)) hHeld ?r1
    simp only [Act.put, List.getElem_toArray, List.getElem_cons_zero, List.getElem_cons_succ, List.setIfInBounds_toArray, List.set_cons_zero, List.set_cons_succ]
    refine Still.takeBy (i := 2) [] (v := ?v2) (by kernel_rfl) (by kernel_rfl) rfl (by kernel_rfl) (by kernel_rfl) (by kernel_rfl) (fun _ _ _ h => h) (Or.inl ⟨by rfl, ?y2⟩) hHeld ?r2
    case y2 => (intro w' hSw; (try dsimp only at hSw); have q2 := hSw.2.cell (j := 1) (v := .slice iao inn.length icap) rfl; clear hSw; go_simp; try with_reducible rfl)
    simp only [Act.put, List.getElem_toArray, List.getElem_cons_zero, List.getElem_cons_succ, List.setIfInBounds_toArray, List.set_cons_zero, List.set_cons_succ]
    refine Still.takeBy (i := 3) [] (v := ?v3) (by kernel_rfl) (by kernel_rfl) rfl (by kernel_rfl) (by kernel_rfl) (by kernel_rfl) (fun _ _ _ h => h) (Or.inl ⟨by rfl, ?y3⟩) hHeld ?r3
    case y3 => (intro w' hSw; (try dsimp only at hSw); have q2 := hSw.2.cell (j := 1) (v := .slice iao inn.length icap) rfl; clear hSw; go_simp; try with_reducible rfl)
    simp only [Act.put, List.getElem_toArray, List.getElem_cons_zero, List.getElem_cons_succ, List.setIfInBounds_toArray, List.set_cons_zero, List.set_cons_succ]
    refine Still.all (rs := [1, 5]) (by kernel_rfl) (by simp) ?_
    refine Still.one (i := 1) rfl rfl (fun K hK => ?_) (Still.one (i := 5) rfl rfl (fun K hK => ?_) (by simp))
    · refine wp_call 85 _ _ rfl ent_copied #[.agg (c.cs (.slice ao xs.length cap))] (by first | rfl | simp [Act.eval, Act.put]) ((copied_any c xs (by omega) _ _ (HO.out.up HD.out.drew)).mono ?_)
      rintro e V ⟨v', rfl, o1, b1⟩
      refine ⟨_, rfl, hK _ _ (fun _ => ⟨hHeld.1.up b1 (by simp; omega), hHeld.2.up b1 (by simp; omega)⟩) (fun hh => ?_)⟩
      have hHeld := hh (by decide)
      clear hK K hh
      rw [Cel.v_cs]
      try simp only [Act.put, List.getElem_toArray, List.getElem_cons_zero, List.getElem_cons_succ, List.setIfInBounds_toArray, List.set_cons_zero, List.set_cons_succ]
      have o1l := own_lt o1
      have o1b := own_block o1
      have z1 := b1.size
      simp at z1 o1b
      obtain ⟨ao', cap', rfl⟩ := own_form o1
      refine Still.takeBy (i := 4) [] (by kernel_rfl) (by kernel_rfl) rfl (by kernel_rfl) (by kernel_rfl) (by kernel_rfl) (fun _ _ _ h => h) (yields_build rfl _ _ rfl #[(0, .agg (c.cs (.slice ao' xs.length cap'))), (1, .slice iao inn.length icap)] (by first | rfl | simp [Act.eval, Act.put]) _ (build_runner c (.slice ao' xs.length cap') iao inn.length icap)) hHeld ?r51
      simp only [Act.put, List.getElem_toArray, List.getElem_cons_zero, List.getElem_cons_succ, List.setIfInBounds_toArray, List.set_cons_zero, List.set_cons_succ]
      refine Still.all (rs := [5]) (by kernel_rfl) (by simp) (Still.one (i := 5) rfl rfl (fun K hK => ?_) (by simp))
      go_simp
      refine hK _ _ (fun _ => ⟨hHeld.1.alloc _, hHeld.2.alloc _⟩) (fun hh => ?_)
      have hHeld := hh (by decide)
      clear hK K hh
      try simp only [Act.put, List.getElem_toArray, List.getElem_cons_zero, List.getElem_cons_succ, List.setIfInBounds_toArray, List.set_cons_zero, List.set_cons_succ]
      refine Still.all (rs := [6]) (by kernel_rfl) (by simp) (Still.one (i := 6) rfl rfl (fun K hK => ?_) (by simp))
      refine wp_store_row 127 _ _ rfl V.heap.size (rcs c (.slice ao' xs.length cap') (.slice iao inn.length icap) wntZ) (by first | rfl | simp [Act.eval, Act.put]) (by first | rfl | simp [Act.eval, Act.put]) 127 (rcs celZ (.slice none 0 0) (.slice none 0 0) wntZ) (Rw.new V 127 _ rfl) sizeRunner rfl (rcs_one _ _ _ _ rfl rfl) ?_
      refine hK _ _ (fun h => absurd rfl h) (fun _ => ?_)
      clear hK K
      refine Still.over (by kernel_rfl) ?_ _
      have b2 : Below V.heap.size V (V.alloc (.cells (rcs celZ (.slice none 0 0) (.slice none 0 0) wntZ) 127)) := (Below.refl _ _).alloc (Nat.le_refl _) _
      clear hHeld
      go_wp2
      go_meet
      exact ⟨V.heap.size, W.heap.size, ao', cap', rfl, ⟨⟨Rw.row (Rw.new V 127 (rcs celZ (.slice none 0 0) (.slice none 0 0) wntZ) rfl) _, below_row ((HD.out.drew.trans (b1.mono (B' := w.heap.size) (by simp; omega))).trans (b2.mono (by omega))) (by omega) _, own_row (own_up o1 b2 o1l) _ (fun e => by have := o1l _ e; omega), by omega, by omega, fun k e => by have := o1l k e; omega, by simp; omega⟩, Rw.row_other ((Rw.up (w := W.drew) R0.out b1 (by simp; omega)).alloc _) _ (by omega), Rw.row_other ((Rw.up (w := W.drew) R2.out b1 (by simp; omega)).alloc _) _ (by omega), Rw.row_other ((Rw.up (w := W.drew) R3.out b1 (by simp; omega)).alloc _) _ (by omega), by omega, by omega⟩⟩
    · go_simp
      refine hK _ _ (fun _ => ⟨hHeld.1.alloc _, hHeld.2.alloc _⟩) (fun hh => ?_)
      have hHeld := hh (by decide)
      clear hK K hh
      try simp only [Act.put, List.getElem_toArray, List.getElem_cons_zero, List.getElem_cons_succ, List.setIfInBounds_toArray, List.set_cons_zero, List.set_cons_succ]
      refine Still.all (rs := [1]) (by kernel_rfl) (by simp) (Still.one (i := 1) rfl rfl (fun K hK => ?_) (by simp))
      refine wp_call 85 _ _ rfl ent_copied #[.agg (c.cs (.slice ao xs.length cap))] (by first | rfl | simp [Act.eval, Act.put]) ((copied_any c xs (by omega) _ _ (HO.out.up (HD.out.drew.alloc (by simp; omega) _))).mono ?_)
      rintro e V ⟨v', rfl, o1, b1⟩
      refine ⟨_, rfl, hK _ _ (fun _ => ⟨hHeld.1.up b1 (by simp; omega), hHeld.2.up b1 (by simp; omega)⟩) (fun hh => ?_)⟩
      have hHeld := hh (by decide)
      clear hK K hh
      rw [Cel.v_cs]
      try simp only [Act.put, List.getElem_toArray, List.getElem_cons_zero, List.getElem_cons_succ, List.setIfInBounds_toArray, List.set_cons_zero, List.set_cons_succ]
      have o1l := own_lt o1
      have o1b := own_block o1
      have z1 := b1.size
      simp at z1 o1b
      obtain ⟨ao', cap', rfl⟩ := own_form o1
      refine Still.takeBy (i := 4) [] (by kernel_rfl) (by kernel_rfl) rfl (by kernel_rfl) (by kernel_rfl) (by kernel_rfl) (fun _ _ _ h => h) (yields_build rfl _ _ rfl #[(0, .agg (c.cs (.slice ao' xs.length cap'))), (1, .slice iao inn.length icap)] (by first | rfl | simp [Act.eval, Act.put]) _ (build_runner c (.slice ao' xs.length cap') iao inn.length icap)) hHeld ?r81
      simp only [Act.put, List.getElem_toArray, List.getElem_cons_zero, List.getElem_cons_succ, List.setIfInBounds_toArray, List.set_cons_zero, List.set_cons_succ]
      refine Still.all (rs := [6]) (by kernel_rfl) (by simp) (Still.one (i := 6) rfl rfl (fun K hK => ?_) (by simp))
      have rz : Rw V W.heap.size 127 (rcs celZ (.slice none 0 0) (.slice none 0 0) wntZ) := Rw.up (w := W.drew.alloc _) (Rw.new W.drew 127 _ rfl) b1 (by simp)
      refine wp_store_row 127 _ _ rfl W.heap.size (rcs c (.slice ao' xs.length cap') (.slice iao inn.length icap) wntZ) (by first | rfl | simp [Act.eval, Act.put]) (by first | rfl | simp [Act.eval, Act.put]) 127 (rcs celZ (.slice none 0 0) (.slice none 0 0) wntZ) rz sizeRunner rfl (rcs_one _ _ _ _ rfl rfl) ?_
      refine hK _ _ (fun h => absurd rfl h) (fun _ => ?_)
      clear hK K
      refine Still.over (by kernel_rfl) ?_ _
      clear hHeld
      go_wp2
      go_meet
      exact ⟨W.heap.size, (W.heap.size + 1), ao', cap', rfl, ⟨⟨Rw.row rz _, below_row ((HD.out.drew.alloc (by simp; omega) _).trans (b1.mono (by simp; omega))) (by omega) _, own_row (by simpa using o1) _ (fun e => by have := o1b _ e; omega), by omega, by omega, fun k e => by have := o1b k e; omega, by simp; omega⟩, Rw.row_other (Rw.up (w := W.drew.alloc _) (Rw.alloc (w := W.drew) R0.out _) b1 (by simp; omega)) _ (by omega), Rw.row_other (Rw.up (w := W.drew.alloc _) (Rw.alloc (w := W.drew) R2.out _) b1 (by simp; omega)) _ (by omega), Rw.row_other (Rw.up (w := W.drew.alloc _) (Rw.alloc (w := W.drew) R3.out _) b1 (by simp; omega)) _ (by omega), by omega, by omega⟩⟩
  case rest =>
    obtain ⟨g, base, ao', cap', rfl, H⟩ := hcut
    have k15 : wc.cell? ⟨g, 15, none⟩ = some (.int .i64 c.en) := H.out.rn.r.cell rfl
    have p0 : wc.cell? ⟨w.heap.size, 0, none⟩ = some (.slice cao l.length ccap) := H.out.r0.cell rfl
    obtain ⟨iv, hiv⟩ : ∃ iv, iv = Value.slice iao inn.length icap := ⟨_, rfl⟩
    rw [← hiv] at H HI
    clear R0 R1 R2 R3 HD hiv
    by_cases hen : c.en = 0
    · have HST : Hid (stepC l inn xs c = runC l inn xs c wntZ) := by
        show stepC l inn xs c = _
        unfold stepC
        rw [if_pos hen]
      rw [hen] at k15
      go_wp2_with fail
      refine (step_any l hfe (w.heap.size + 4) wc wc g base c (.slice ao' xs.length cap') iv (.slice cao l.length ccap) wntZ xs inn hfi.1 hfi.2.1 hfi.2.2.1 hfi.2.2.2.1 hfi.2.2.2.2.2.2 (HS.out.up H.out.rn.d) (HI.out.up H.out.rn.d) ⟨H.out.rn.r, Below.refl _ _, H.out.rn.own, H.out.g4, H.out.b4, H.out.rn.no, H.out.rn.bs⟩).mono ?_
      rintro e V ⟨rfl, o', hR⟩
      generalize hrun : runC l inn xs c wntZ = r at hR HST
      obtain ⟨c', xs', x'⟩ := r
      simp only at hR
      obtain ⟨ao2, cap2, rfl⟩ := own_form hR.own
      have H2 : Hid (Sp w V g base c' (.slice ao2 xs'.length cap2) iv x' xs' (.slice cao l.length ccap)) :=
        ⟨⟨hR.r, H.out.rn.d.trans (hR.d.mono (by omega)), hR.own, H.out.rn.g0, H.out.rn.b0, hR.no, hR.bs⟩, H.out.r0.up hR.d (by omega), H.out.r2.up hR.d (by omega), H.out.r3.up hR.d (by omega), H.out.g4, H.out.b4⟩
      clear hR hrun H k15 p0
      go_wp2
      have hg4 := H2.out.g4
      refine region_still (S := fun w' => Rw w' g 127 (rcs c' (.slice ao2 xs'.length cap2) iv x')) 6 (by kernel_rfl) H2.out.rn.r (fun hHeld => ?_)
      refine Still.takeBy (i := 0) [] (v := ?v201) (by kernel_rfl) (by kernel_rfl) rfl (by kernel_rfl) (by kernel_rfl) (by kernel_rfl) (fun _ _ _ h => h) (Or.inl ⟨by rfl, ?y201⟩) hHeld ?r201
      case y201 => (intro w' hSw; (try dsimp only at hSw); go_simp; try with_reducible rfl)
      simp only [Act.put, List.getElem_toArray, List.getElem_cons_zero, List.getElem_cons_succ, List.setIfInBounds_toArray, List.set_cons_zero, List.set_cons_succ]
      refine Still.takeBy (i := 1) [] (by kernel_rfl) (by kernel_rfl) rfl (by kernel_rfl) (by kernel_rfl) (by kernel_rfl) (fun _ _ _ h => h) (yields_load rfl _ _ rfl _ (by first | rfl | simp [Act.eval, Act.put]) _ (fun w' hSw => load_cell hSw)) hHeld ?r202
      simp only [Act.put, List.getElem_toArray, List.getElem_cons_zero, List.getElem_cons_succ, List.setIfInBounds_toArray, List.set_cons_zero, List.set_cons_succ]
      refine Still.takeBy (i := 2) [] (v := ?v203) (by kernel_rfl) (by kernel_rfl) rfl (by kernel_rfl) (by kernel_rfl) (by kernel_rfl) (fun _ _ _ h => h) (Or.inl ⟨by rfl, ?y203⟩) hHeld ?r203
      case y203 => (intro w' hSw; (try dsimp only at hSw); go_simp; try with_reducible rfl)
      simp only [Act.put, List.getElem_toArray, List.getElem_cons_zero, List.getElem_cons_succ, List.setIfInBounds_toArray, List.set_cons_zero, List.set_cons_succ]
      refine Still.takeBy (i := 3) [] (by kernel_rfl) (by kernel_rfl) rfl (by kernel_rfl) (by kernel_rfl) (by kernel_rfl) (fun _ _ _ h => h) (yields_load rfl _ _ rfl _ (by first | rfl | simp [Act.eval, Act.put]) _ (fun w' hSw => load_want hSw)) hHeld ?r204
      simp only [Act.put, List.getElem_toArray, List.getElem_cons_zero, List.getElem_cons_succ, List.setIfInBounds_toArray, List.set_cons_zero, List.set_cons_succ]
      refine Still.all (rs := [4]) (by kernel_rfl) (by simp) (Still.one (i := 4) rfl rfl (fun K hK => ?_) (by simp))
      refine wp_store_row 54 _ _ rfl (w.heap.size + 2) (Cel.cs c' (.slice ao2 xs'.length cap2)) (by first | rfl | simp [Act.eval, Act.put]) (by first | rfl | simp [Act.eval, Act.put]) 54 _ H2.out.r2 sizeCell rfl (Cel.cs_one _ _ rfl) ?_
      refine hK _ _ (fun _ => hHeld.row_other _ (by omega)) (fun _ => ?_)
      clear hK K hHeld
      try simp only [Act.put, List.getElem_toArray, List.getElem_cons_zero, List.getElem_cons_succ, List.setIfInBounds_toArray, List.set_cons_zero, List.set_cons_succ]
      have hHeld : Rw (World.setRow (World.drew V) (w.heap.size + 2) (Cel.cs c' (.slice ao2 xs'.length cap2))) g 127 (rcs c' (.slice ao2 xs'.length cap2) iv x') := Rw.row_other (w := World.drew V) H2.out.rn.r _ (by omega)
      refine Still.all (rs := [5]) (by kernel_rfl) (by simp) (Still.one (i := 5) rfl rfl (fun K hK => ?_) (by simp))
      refine wp_store_row 83 _ _ rfl (w.heap.size + 3) (Wnt.cs x') (by first | rfl | simp [Act.eval, Act.put]) (by first | rfl | simp [Act.eval, Act.put]) 83 _ (Rw.row_other (w := World.drew V) H2.out.r3 _ (by omega)) sizeWant rfl (Wnt.cs_one _) ?_
      refine hK _ _ (fun _ => Rw.row_other hHeld _ (by omega)) (fun _ => ?_)
      clear hK K
      try simp only [Act.put, List.getElem_toArray, List.getElem_cons_zero, List.getElem_cons_succ, List.setIfInBounds_toArray, List.set_cons_zero, List.set_cons_succ]
      refine Still.all (rs := [6]) (by kernel_rfl) (by simp) (Still.one (i := 6) rfl rfl (fun K hK => ?_) (by simp))
      go_simp
      refine hK _ _ (fun h => absurd rfl h) (fun _ => ?_)
      clear hK K
      refine Still.over (by kernel_rfl) ?_ _
      clear hHeld
      go_wp2
      refine bodyPost_ret (results_row2_tmp Tryd.results62 _ _ (w.heap.size + 2) (w.heap.size + 3) _ _ _ rfl rfl rfl (run_loadVar_row _ _ 54 _ (Cel.cs c' (.slice ao2 xs'.length cap2)) (0, 0) _ (Rw.row_other (Rw.row (w := World.drew V) H2.out.r2 _) _ (by omega)) Tryd.underlying54 rfl sizeCell) (run_loadVar_row _ _ 83 _ (Wnt.cs x') (0, 0) _ (Rw.row (Rw.row_other (w := World.drew V) H2.out.r3 _ (by omega)) _) Tryd.underlying83 rfl sizeWant)) rfl ⟨_, by rw [HST.out]; rfl, by rw [HST.out]; exact own_low (own_row (own_row (w := World.drew V) H2.out.rn.own _ (fun e => by have := own_block H2.out.rn.own _ e; have := H2.out.b4; omega)) _ (fun e => by have := own_block H2.out.rn.own _ e; have := H2.out.b4; omega)) (by have := H2.out.b4; omega), below_row (below_row H2.out.rn.d.drew (by omega) _) (by omega) _⟩
    · have hen' : (c.en == 0) = false := by simpa using hen
      have HST : Hid (stepC l inn xs c = (c, xs, wntZ)) := by
        show stepC l inn xs c = _
        unfold stepC
        rw [if_neg hen]
      clear hen p0
      go_wp2
      have hg4 := H.out.g4
      refine region_still (S := fun w' => Rw w' g 127 (rcs c (.slice ao' xs.length cap') iv wntZ)) 6 (by kernel_rfl) H.out.rn.r (fun hHeld => ?_)
      refine Still.takeBy (i := 0) [] (v := ?v301) (by kernel_rfl) (by kernel_rfl) rfl (by kernel_rfl) (by kernel_rfl) (by kernel_rfl) (fun _ _ _ h => h) (Or.inl ⟨by rfl, ?y301⟩) hHeld ?r301
      case y301 => (intro w' hSw; (try dsimp only at hSw); go_simp; try with_reducible rfl)
      simp only [Act.put, List.getElem_toArray, List.getElem_cons_zero, List.getElem_cons_succ, List.setIfInBounds_toArray, List.set_cons_zero, List.set_cons_succ]
      refine Still.takeBy (i := 1) [] (by kernel_rfl) (by kernel_rfl) rfl (by kernel_rfl) (by kernel_rfl) (by kernel_rfl) (fun _ _ _ h => h) (yields_load rfl _ _ rfl _ (by first | rfl | simp [Act.eval, Act.put]) _ (fun w' hSw => load_cell hSw)) hHeld ?r302
      simp only [Act.put, List.getElem_toArray, List.getElem_cons_zero, List.getElem_cons_succ, List.setIfInBounds_toArray, List.set_cons_zero, List.set_cons_succ]
      refine Still.takeBy (i := 2) [] (v := ?v303) (by kernel_rfl) (by kernel_rfl) rfl (by kernel_rfl) (by kernel_rfl) (by kernel_rfl) (fun _ _ _ h => h) (Or.inl ⟨by rfl, ?y303⟩) hHeld ?r303
      case y303 => (intro w' hSw; (try dsimp only at hSw); go_simp; try with_reducible rfl)
      simp only [Act.put, List.getElem_toArray, List.getElem_cons_zero, List.getElem_cons_succ, List.setIfInBounds_toArray, List.set_cons_zero, List.set_cons_succ]
      refine Still.takeBy (i := 3) [] (by kernel_rfl) (by kernel_rfl) rfl (by kernel_rfl) (by kernel_rfl) (by kernel_rfl) (fun _ _ _ h => h) (yields_load rfl _ _ rfl _ (by first | rfl | simp [Act.eval, Act.put]) _ (fun w' hSw => load_want hSw)) hHeld ?r304
      simp only [Act.put, List.getElem_toArray, List.getElem_cons_zero, List.getElem_cons_succ, List.setIfInBounds_toArray, List.set_cons_zero, List.set_cons_succ]
      refine Still.all (rs := [4]) (by kernel_rfl) (by simp) (Still.one (i := 4) rfl rfl (fun K hK => ?_) (by simp))
      refine wp_store_row 54 _ _ rfl (w.heap.size + 2) (Cel.cs c (.slice ao' xs.length cap')) (by first | rfl | simp [Act.eval, Act.put]) (by first | rfl | simp [Act.eval, Act.put]) 54 _ H.out.r2 sizeCell rfl (Cel.cs_one _ _ rfl) ?_
      refine hK _ _ (fun _ => hHeld.row_other _ (by omega)) (fun _ => ?_)
      clear hK K hHeld
      try simp only [Act.put, List.getElem_toArray, List.getElem_cons_zero, List.getElem_cons_succ, List.setIfInBounds_toArray, List.set_cons_zero, List.set_cons_succ]
      have hHeld : Rw (World.setRow (World.drew wc) (w.heap.size + 2) (Cel.cs c (.slice ao' xs.length cap'))) g 127 (rcs c (.slice ao' xs.length cap') iv wntZ) := Rw.row_other (w := World.drew wc) H.out.rn.r _ (by omega)
      refine Still.all (rs := [5]) (by kernel_rfl) (by simp) (Still.one (i := 5) rfl rfl (fun K hK => ?_) (by simp))
      refine wp_store_row 83 _ _ rfl (w.heap.size + 3) (Wnt.cs wntZ) (by first | rfl | simp [Act.eval, Act.put]) (by first | rfl | simp [Act.eval, Act.put]) 83 _ (Rw.row_other (w := World.drew wc) H.out.r3 _ (by omega)) sizeWant rfl (Wnt.cs_one _) ?_
      refine hK _ _ (fun _ => Rw.row_other hHeld _ (by omega)) (fun _ => ?_)
      clear hK K
      try simp only [Act.put, List.getElem_toArray, List.getElem_cons_zero, List.getElem_cons_succ, List.setIfInBounds_toArray, List.set_cons_zero, List.set_cons_succ]
      refine Still.all (rs := [6]) (by kernel_rfl) (by simp) (Still.one (i := 6) rfl rfl (fun K hK => ?_) (by simp))
      go_simp
      refine hK _ _ (fun h => absurd rfl h) (fun _ => ?_)
      clear hK K
      refine Still.over (by kernel_rfl) ?_ _
      clear hHeld
      go_wp2
      refine bodyPost_ret (results_row2_tmp Tryd.results62 _ _ (w.heap.size + 2) (w.heap.size + 3) _ _ _ rfl rfl rfl (run_loadVar_row _ _ 54 _ (Cel.cs c (.slice ao' xs.length cap')) (0, 0) _ (Rw.row_other (Rw.row (w := World.drew wc) H.out.r2 _) _ (by omega)) Tryd.underlying54 rfl sizeCell) (run_loadVar_row _ _ 83 _ (Wnt.cs wntZ) (0, 0) _ (Rw.row (Rw.row_other (w := World.drew wc) H.out.r3 _ (by omega)) _) Tryd.underlying83 rfl sizeWant)) rfl ⟨_, by rw [HST.out]; rfl, by rw [HST.out]; exact own_low (own_row (own_row (w := World.drew wc) H.out.rn.own _ (fun e => by have := own_block H.out.rn.own _ e; have := H.out.b4; omega)) _ (fun e => by have := own_block H.out.rn.own _ e; have := H.out.b4; omega)) (by have := H.out.b4; omega), below_row (below_row H.out.rn.d.drew (by omega) _) (by omega) _⟩
end Go.Proofs.YtjhjaafoikadgaaDoor

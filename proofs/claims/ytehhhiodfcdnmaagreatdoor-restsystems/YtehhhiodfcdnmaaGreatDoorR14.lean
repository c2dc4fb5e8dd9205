/- cell.Step. -/
import Derived.Test.YtehhhiodfcdnmaaGreatDoorR13
import Derived.Deep.MidRow
import Derived.Deep.CutRange
import Derived.RangeFuncNested
import Derived.RangeFuncBound
import Derived.RangeFuncCalls
import Derived.RangeFuncLeaves
import Derived.RangeFuncBox
import Derived.Shelf.Abstract
import Derived.Shelf.RegionOpen
import Derived.WalkKit
import Derived.OwnWalkIn
import Derived.TacticsInMore
import Derived.LoopNIn
import Derived.LoopIn
import Derived.Test.YtehhhiodfcdnmaaGreatDoorR2
namespace Go.Proofs.YtehhhiodfcdnmaaGreatDoor
set_option linter.unusedSimpArgs false
set_option linter.unusedVariables false
set_option maxRecDepth 100000
set_option maxHeartbeats 8000000
open Go.RowKit Go.Sort
theorem ent_copied : Enters 140 := enters Tryz.func140 kr kr
theorem build_runner (c : Cel) (o : Value) (a : Option Addr) (n k : Nat) (w : World) : (Instr.build 185 #[(0, .agg (c.cs o)), (1, .slice a n k)]).run Tryz.prog w = .ok (.agg (rcs c o (.slice a n k) wntZ)) w := run_build w _ _ _ kr
def Wnt.cs (x : Wnt) : Array Value := #[.int .i64 x.k, .int .i64 x.ch, .int .i64 x.reg, .int .i64 x.flag, .int .i64 x.val]
theorem Wnt.v_cs (x : Wnt) : x.v = .agg x.cs := rfl
theorem sizeRunner : (Tryz.prog.info? 185).map (·.size) = some 22 := by kernel_rfl
theorem load_cell {W : World} {g : Nat} {c : Cel} {o i : Value} {x : Wnt} (h : Rw W g 185 (rcs c o i x)) : (Instr.loadAt 35 (.pointer (some ⟨g, 0, none⟩))).run Tryz.prog W = .ok (.agg (c.cs o)) W := by
 refine run_loadAt_mid W g 0 35 (c.cs o).toList _ (fun j v hj => ?_) Tryz.underlying35 rfl sizeCell
 rw [Nat.zero_add]
 refine h.cell ?_
 have hj' : j < 16 := by have := (List.getElem?_eq_some_iff.1 hj).1; simpa [Cel.cs] using this
 have : j = 0 ∨ j = 1 ∨ j = 2 ∨ j = 3 ∨ j = 4 ∨ j = 5 ∨ j = 6 ∨ j = 7 ∨ j = 8 ∨ j = 9 ∨ j = 10 ∨ j = 11 ∨ j = 12 ∨ j = 13 ∨ j = 14 ∨ j = 15 := by omega
 rcases this with rfl | rfl | rfl | rfl | rfl | rfl | rfl | rfl | rfl | rfl | rfl | rfl | rfl | rfl | rfl | rfl <;> exact hj
theorem load_want {W : World} {g : Nat} {c : Cel} {o i : Value} {x : Wnt} (h : Rw W g 185 (rcs c o i x)) : (Instr.loadAt 124 (.pointer (some ⟨g, 17, none⟩))).run Tryz.prog W = .ok (.agg x.cs) W := by
 refine run_loadAt_mid W g 17 124 x.cs.toList _ (fun j v hj => ?_) Tryz.underlying124 rfl sizeWant
 refine h.cell ?_
 have hj' : j < 5 := by have := (List.getElem?_eq_some_iff.1 hj).1; simpa [Wnt.cs] using this
 have : j = 0 ∨ j = 1 ∨ j = 2 ∨ j = 3 ∨ j = 4 := by omega
 rcases this with rfl | rfl | rfl | rfl | rfl <;> exact hj
theorem Wnt.cs_one (x : Wnt) : x.cs.all (·.oneCell') = true := by
 simp [Wnt.cs]
 simp [Value.oneCell']
theorem rcs_one (c : Cel) (o i : Value) (x : Wnt) (h : o.oneCell' = true) (h' : i.oneCell' = true) : (rcs c o i x).all (·.oneCell') = true := by
 simp [rcs, h, h']
 simp [Value.oneCell']
def stepC (l : List Ins) (inn xs : List Int) (c : Cel) : Cel × List Int × Wnt := if c.en = 0 then runC l inn xs c wntZ else (c, xs, wntZ)
structure Sp (w W : World) (g base : Nat) (c : Cel) (o i : Value) (x : Wnt) (xs : List Int) (v : Value) : Prop where
 rn : Rn w.heap.size w W g base c o i x xs
 r0 : Rw W w.heap.size 49 #[v, i]
 r2 : Rw W (w.heap.size + 2) 35 (celZ.cs (.slice none 0 0))
 r3 : Rw W (w.heap.size + 3) 124 wntZ.cs
 g4 : w.heap.size + 4 ≤ g
 b4 : w.heap.size + 4 ≤ base
theorem cellStep_ok (l : List Ins) (inn xs : List Int) (v iv ov : Value) (c : Cel) (hl : chkC l = 0) (hi : inn.length ≤ 12) (hf : c.fine xs.length = true) (hr : c.read ≤ inn.length) (w : World) (he : Env w) (hC : Sl w 4 v l.length (codeC l)) (hI : Sl w 1 iv inn.length (ints inn)) (hO : Sl w 1 ov xs.length (ints xs)) :
  Calls Tryz.prog 109 #[partV v iv, c.v ov] w fun e w' => ∃ o', e = .returned (.tuple #[(stepC l inn xs c).1.v o', (stepC l inn xs c).2.2.v, .int .i64 0]) ∧ w'.ownsRow w.heap.size 3 1 o' (stepC l inn xs c).2.1.length (ints (stepC l inn xs c).2.1) ∧ Below w.heap.size w w' := by
 obtain ⟨iao, icap, rfl⟩ := hI.form
 obtain ⟨ao, cap, rfl⟩ := hO.form
 obtain ⟨cao, ccap, rfl⟩ := hC.form
 have hfi := (fine_iff c _).1 hf
 have hE : stepE (chkC l) inn.length true c.read = 0 := by
  unfold stepE
  rw [hl, if_neg (by simp), if_neg om, if_neg (by simp), if_neg om]
 have hfe : firstE l = 0 := by
  unfold chkC at hl
  split at hl
  ·omega
  ·exact hl
 have HC := hd fun w he hS => hE ▸ checkStep_any l (.slice cao l.length ccap) iao inn.length icap c ao xs.length cap (chkC l) rfl true hf w he hS
 have HE := hd he
 have HS := hd hC
 have HI := hd hI
 have HO := hd hO
 clear hE hf hl he hC hI hO
 rw [Cel.v_cs] at HC
 rw [Cel.v_cs]
 unfold partV at HC
 unfold partV
 go_enter Tryz.func109, Tryz.ntmps109
 go_wp2_with (refine wpList_load_row rfl 35 (.tmp 3) rfl (w.heap.size + 1) rfl 35 (c.cs (.slice ao xs.length cap)) (0, 0) _ rn0 Tryz.underlying35 rfl sizeCell ?_)
 refine (HC.out _ (HE.out.up up0) (HS.out.up up0)).mono ?_
 rintro e W ⟨rfl, b1⟩
 have D : Below w.heap.size w W := by
  refine Below.trans ?_ (b1.mono o3)
  exact up0
 have z : w.heap.size + 4 ≤ W.heap.size := by have := b1.size; simp at this; omega
 have r0 : Rw W w.heap.size 49 #[.slice cao l.length ccap, .slice iao inn.length icap] := Rw.up rn0 b1 o3
 have r1 : Rw W (w.heap.size + 1) 35 (c.cs (.slice ao xs.length cap)) := Rw.up rn0 b1 o3
 have r2 : Rw W (w.heap.size + 2) 35 (celZ.cs (.slice none 0 0)) := Rw.up rn0 b1 o3
 have r3 : Rw W (w.heap.size + 3) 124 wntZ.cs := Rw.up rn0 b1 o3
 have R0 := hd r0
 have R1 := hd r1
 have R2 := hd r2
 have R3 := hd r3
 have HD := hd D
 clear b1 HC r0 r1 r2 r3 D
 go_wp2
 go_cut [8] from 9 (fun p wc => ∃ g base ao' cap', p = .pointer (some ⟨g, 0, none⟩) ∧ Hid (Sp w wc g base c (.slice ao' xs.length cap') (.slice iao inn.length icap) wntZ xs (.slice cao l.length ccap)))
 case first =>
  refine region_still (S := fun w' => Rw w' (w.heap.size + 1) 35 (c.cs (.slice ao xs.length cap)) ∧ Rw w' w.heap.size 49 #[.slice cao l.length ccap, .slice iao inn.length icap]) 6 kr ⟨R1.out, R0.out⟩ (fun hHeld => ?_)
  refine Still.y 0 [] rfl (yields_load rfl _ _ rfl _ ev _ (fun w' hSw => Rw.loadAt hSw.1 Tryz.underlying35 rfl sizeCell)) hHeld ?_
  have hq := fun w' (hSw : (fun w' => Rw w' (w.heap.size + 1) 35 (c.cs (.slice ao xs.length cap)) ∧ Rw w' w.heap.size 49 #[.slice cao l.length ccap, .slice iao inn.length icap]) w') => hSw.2.cell (j := 1) (v := .slice iao inn.length icap) rfl
  refine Still.u 2 [] hHeld hq ?_
  refine Still.u 3 [] hHeld hq ?_
  refine Still.all (rs := [1, 5]) kr (by simp) ?_
  refine Still.one (i := 1) rfl rfl (fun K hK => ?_) (Still.one (i := 5) rfl rfl (fun K hK => ?_) (by simp))
  ·refine wp_call 140 _ _ rfl ent_copied #[.agg (c.cs (.slice ao xs.length cap))] ev ((copied_any c xs om _ _ (HO.out.up HD.out.drew)).mono ?_)
   rintro e V ⟨v', rfl, o1, b1⟩
   refine ⟨_, rfl, hK _ _ (fun _ => ⟨hHeld.1.up b1 so, hHeld.2.up b1 so⟩) (fun hh => ?_)⟩
   have hHeld := hh (by decide)
   clear hK K hh
   rw [Cel.v_cs]
   try simp only [Act.put, l1, l2, l3, l4, l5, l6]
   have o1l := own_lt o1
   have o1b := own_block o1
   have z1 := b1.size
   simp at z1 o1b
   obtain ⟨ao', cap', rfl⟩ := own_form o1
   refine Still.y 4 [] rfl (yields_build rfl _ _ rfl #[(0, .agg (c.cs (.slice ao' xs.length cap'))), (1, .slice iao inn.length icap)] ev _ (build_runner c (.slice ao' xs.length cap') iao inn.length icap)) hHeld ?_
   refine Still.o 5 rfl rfl (fun K hK => ?_)
   go_simp
   refine hK _ _ (fun _ => ⟨hHeld.1.alloc _, hHeld.2.alloc _⟩) (fun hh => ?_)
   have hHeld := hh (by decide)
   clear hK K hh
   try simp only [Act.put, l1, l2, l3, l4, l5, l6]
   refine Still.o 6 rfl rfl (fun K hK => ?_)
   refine wp_store_row 185 _ _ rfl V.heap.size (rcs c (.slice ao' xs.length cap') (.slice iao inn.length icap) wntZ) ev ev 185 (rcs celZ (.slice none 0 0) (.slice none 0 0) wntZ) (Rw.new V 185 _ rfl) sizeRunner rfl (rcs_one _ _ _ _ rfl rfl) ?_
   refine hK _ _ ab (fun _ => Still.vv ?_)
   clear hK K
   have b2 : Below V.heap.size V (V.alloc (.cells (rcs celZ (.slice none 0 0) (.slice none 0 0) wntZ) 185)) := (Below.refl _ _).alloc (Nat.le_refl _) _
   clear hHeld
   go_wp2
   go_meet
   exact ⟨V.heap.size, W.heap.size, ao', cap', rfl, ⟨⟨Rw.row (Rw.new V 185 (rcs celZ (.slice none 0 0) (.slice none 0 0) wntZ) rfl) _, below_row ((HD.out.drew.trans (b1.mono (B' := w.heap.size) so)).trans (b2.mono om)) om _, own_row (own_up o1 b2 o1l) _ (fun e => by have := o1l _ e; omega), by omega, by omega, fun k e => by have := o1l k e; omega, by simp; omega⟩, Rw.row_other ((Rw.up (w := W.drew) R0.out b1 so).alloc _) _ om, Rw.row_other ((Rw.up (w := W.drew) R2.out b1 so).alloc _) _ om, Rw.row_other ((Rw.up (w := W.drew) R3.out b1 so).alloc _) _ om, by omega, by omega⟩⟩
  ·go_simp
   refine hK _ _ (fun _ => ⟨hHeld.1.alloc _, hHeld.2.alloc _⟩) (fun hh => ?_)
   have hHeld := hh (by decide)
   clear hK K hh
   try simp only [Act.put, l1, l2, l3, l4, l5, l6]
   refine Still.o 1 rfl rfl (fun K hK => ?_)
   refine wp_call 140 _ _ rfl ent_copied #[.agg (c.cs (.slice ao xs.length cap))] ev ((copied_any c xs om _ _ (HO.out.up (HD.out.drew.alloc so _))).mono ?_)
   rintro e V ⟨v', rfl, o1, b1⟩
   refine ⟨_, rfl, hK _ _ (fun _ => ⟨hHeld.1.up b1 so, hHeld.2.up b1 so⟩) (fun hh => ?_)⟩
   have hHeld := hh (by decide)
   clear hK K hh
   rw [Cel.v_cs]
   try simp only [Act.put, l1, l2, l3, l4, l5, l6]
   have o1l := own_lt o1
   have o1b := own_block o1
   have z1 := b1.size
   simp at z1 o1b
   obtain ⟨ao', cap', rfl⟩ := own_form o1
   refine Still.y 4 [] rfl (yields_build rfl _ _ rfl #[(0, .agg (c.cs (.slice ao' xs.length cap'))), (1, .slice iao inn.length icap)] ev _ (build_runner c (.slice ao' xs.length cap') iao inn.length icap)) hHeld ?_
   refine Still.o 6 rfl rfl (fun K hK => ?_)
   have rz : Rw V W.heap.size 185 (rcs celZ (.slice none 0 0) (.slice none 0 0) wntZ) := Rw.up (w := W.drew.alloc _) (Rw.new W.drew 185 _ rfl) b1 (by simp)
   refine wp_store_row 185 _ _ rfl W.heap.size (rcs c (.slice ao' xs.length cap') (.slice iao inn.length icap) wntZ) ev ev 185 (rcs celZ (.slice none 0 0) (.slice none 0 0) wntZ) rz sizeRunner rfl (rcs_one _ _ _ _ rfl rfl) ?_
   refine hK _ _ ab (fun _ => Still.vv ?_)
   clear hK K
   clear hHeld
   go_wp2
   go_meet
   exact ⟨W.heap.size, (W.heap.size + 1), ao', cap', rfl, ⟨⟨Rw.row rz _, below_row ((HD.out.drew.alloc so _).trans (b1.mono so)) om _, own_row (by simpa using o1) _ (fun e => by have := o1b _ e; omega), by omega, by omega, fun k e => by have := o1b k e; omega, by simp; omega⟩, Rw.row_other (Rw.up (w := W.drew.alloc _) (Rw.alloc (w := W.drew) R0.out _) b1 so) _ om, Rw.row_other (Rw.up (w := W.drew.alloc _) (Rw.alloc (w := W.drew) R2.out _) b1 so) _ om, Rw.row_other (Rw.up (w := W.drew.alloc _) (Rw.alloc (w := W.drew) R3.out _) b1 so) _ om, by omega, by omega⟩⟩
 case rest =>
  obtain ⟨g, base, ao', cap', rfl, H⟩ := hcut
  have k15 : wc.cell? ⟨g, 15, none⟩ = some (.int .i64 c.en) := H.out.rn.r.cell rfl
  have p0 : wc.cell? ⟨w.heap.size, 0, none⟩ = some (.slice cao l.length ccap) := H.out.r0.cell rfl
  obtain ⟨iv, hiv⟩ : ∃ iv, iv = Value.slice iao inn.length icap := ⟨_, rfl⟩
  rw [← hiv] at H HI
  clear R0 R1 R2 R3 HD hiv
  by_cases hen : c.en = 0
  ·have HST : Hid (stepC l inn xs c = runC l inn xs c wntZ) := by
    show stepC l inn xs c = _
    unfold stepC
    rw [if_pos hen]
   rw [hen] at k15
   go_wp2_with fail
   refine (step_any l hfe (w.heap.size + 4) wc wc g base c (.slice ao' xs.length cap') iv (.slice cao l.length ccap) wntZ xs inn hfi.1 hfi.2.1 hfi.2.2.1 hfi.2.2.2.1 hfi.2.2.2.2.2.2 (HS.out.up H.out.rn.d) (HI.out.up H.out.rn.d) ⟨H.out.rn.r, Below.refl _ _, H.out.rn.own, H.out.g4, H.out.b4, H.out.rn.no, H.out.rn.bs⟩).mono ?_
   rintro e V ⟨rfl, o', hR⟩
   generalize hrun : runC l inn xs c wntZ = r at hR HST
   obtain ⟨c', xs', x'⟩ := r
   simp only at hR
   obtain ⟨ao2, cap2, rfl⟩ := own_form hR.own
   have H2 : Hid (Sp w V g base c' (.slice ao2 xs'.length cap2) iv x' xs' (.slice cao l.length ccap)) :=
    ⟨⟨hR.r, H.out.rn.d.trans (hR.d.mono om), hR.own, H.out.rn.g0, H.out.rn.b0, hR.no, hR.bs⟩, H.out.r0.up hR.d om, H.out.r2.up hR.d om, H.out.r3.up hR.d om, H.out.g4, H.out.b4⟩
   clear hR hrun H k15 p0
   go_wp2
   have hg4 := H2.out.g4
   refine region_still (S := fun w' => Rw w' g 185 (rcs c' (.slice ao2 xs'.length cap2) iv x')) 6 kr H2.out.rn.r (fun hHeld => ?_)
   refine Still.t 0 [] hHeld ?_
   refine Still.y 1 [] rfl (yields_load rfl _ _ rfl _ ev _ (fun w' hSw => load_cell hSw)) hHeld ?_
   refine Still.t 2 [] hHeld ?_
   refine Still.y 3 [] rfl (yields_load rfl _ _ rfl _ ev _ (fun w' hSw => load_want hSw)) hHeld ?_
   refine Still.o 4 rfl rfl (fun K hK => ?_)
   refine wp_store_row 35 _ _ rfl (w.heap.size + 2) (Cel.cs c' (.slice ao2 xs'.length cap2)) ev ev 35 _ H2.out.r2 sizeCell rfl (Cel.cs_one _ _ rfl) ?_
   refine hK _ _ (fun _ => hHeld.row_other _ om) (fun _ => ?_)
   clear hK K hHeld
   try simp only [Act.put, l1, l2, l3, l4, l5, l6]
   have hHeld : Rw (World.setRow (World.drew V) (w.heap.size + 2) (Cel.cs c' (.slice ao2 xs'.length cap2))) g 185 (rcs c' (.slice ao2 xs'.length cap2) iv x') := Rw.row_other (w := World.drew V) H2.out.rn.r _ om
   refine Still.o 5 rfl rfl (fun K hK => ?_)
   refine wp_store_row 124 _ _ rfl (w.heap.size + 3) (Wnt.cs x') ev ev 124 _ (Rw.row_other (w := World.drew V) H2.out.r3 _ om) sizeWant rfl (Wnt.cs_one _) ?_
   refine hK _ _ (fun _ => Rw.row_other hHeld _ om) (fun _ => ?_)
   clear hK K
   try simp only [Act.put, l1, l2, l3, l4, l5, l6]
   refine Still.o 6 rfl rfl (fun K hK => ?_)
   go_simp
   refine hK _ _ ab (fun _ => Still.vv ?_)
   clear hK K
   clear hHeld
   go_wp2
   refine bodyPost_ret (results_row2_tmp Tryz.results109 _ _ (w.heap.size + 2) (w.heap.size + 3) _ _ _ rfl rfl rfl (run_loadVar_row _ _ 35 _ (Cel.cs c' (.slice ao2 xs'.length cap2)) (0, 0) _ (Rw.row_other (Rw.row (w := World.drew V) H2.out.r2 _) _ om) Tryz.underlying35 rfl sizeCell) (run_loadVar_row _ _ 124 _ (Wnt.cs x') (0, 0) _ (Rw.row (Rw.row_other (w := World.drew V) H2.out.r3 _ om) _) Tryz.underlying124 rfl sizeWant)) rfl ⟨_, by rw [HST.out]; rfl, by rw [HST.out]; exact own_low (own_row (own_row (w := World.drew V) H2.out.rn.own _ (fun e => by have := own_block H2.out.rn.own _ e; have := H2.out.b4; omega)) _ (fun e => by have := own_block H2.out.rn.own _ e; have := H2.out.b4; omega)) (by have := H2.out.b4; omega), below_row (below_row H2.out.rn.d.drew om _) om _⟩
  ·have hen' : (c.en == 0) = false := by simpa using hen
   have HST : Hid (stepC l inn xs c = (c, xs, wntZ)) := by
    show stepC l inn xs c = _
    unfold stepC
    rw [if_neg hen]
   clear hen p0
   go_wp2
   have hg4 := H.out.g4
   refine region_still (S := fun w' => Rw w' g 185 (rcs c (.slice ao' xs.length cap') iv wntZ)) 6 kr H.out.rn.r (fun hHeld => ?_)
   refine Still.t 0 [] hHeld ?_
   refine Still.y 1 [] rfl (yields_load rfl _ _ rfl _ ev _ (fun w' hSw => load_cell hSw)) hHeld ?_
   refine Still.t 2 [] hHeld ?_
   refine Still.y 3 [] rfl (yields_load rfl _ _ rfl _ ev _ (fun w' hSw => load_want hSw)) hHeld ?_
   refine Still.o 4 rfl rfl (fun K hK => ?_)
   refine wp_store_row 35 _ _ rfl (w.heap.size + 2) (Cel.cs c (.slice ao' xs.length cap')) ev ev 35 _ H.out.r2 sizeCell rfl (Cel.cs_one _ _ rfl) ?_
   refine hK _ _ (fun _ => hHeld.row_other _ om) (fun _ => ?_)
   clear hK K hHeld
   try simp only [Act.put, l1, l2, l3, l4, l5, l6]
   have hHeld : Rw (World.setRow (World.drew wc) (w.heap.size + 2) (Cel.cs c (.slice ao' xs.length cap'))) g 185 (rcs c (.slice ao' xs.length cap') iv wntZ) := Rw.row_other (w := World.drew wc) H.out.rn.r _ om
   refine Still.o 5 rfl rfl (fun K hK => ?_)
   refine wp_store_row 124 _ _ rfl (w.heap.size + 3) (Wnt.cs wntZ) ev ev 124 _ (Rw.row_other (w := World.drew wc) H.out.r3 _ om) sizeWant rfl (Wnt.cs_one _) ?_
   refine hK _ _ (fun _ => Rw.row_other hHeld _ om) (fun _ => ?_)
   clear hK K
   try simp only [Act.put, l1, l2, l3, l4, l5, l6]
   refine Still.o 6 rfl rfl (fun K hK => ?_)
   go_simp
   refine hK _ _ ab (fun _ => Still.vv ?_)
   clear hK K
   clear hHeld
   go_wp2
   refine bodyPost_ret (results_row2_tmp Tryz.results109 _ _ (w.heap.size + 2) (w.heap.size + 3) _ _ _ rfl rfl rfl (run_loadVar_row _ _ 35 _ (Cel.cs c (.slice ao' xs.length cap')) (0, 0) _ (Rw.row_other (Rw.row (w := World.drew wc) H.out.r2 _) _ om) Tryz.underlying35 rfl sizeCell) (run_loadVar_row _ _ 124 _ (Wnt.cs wntZ) (0, 0) _ (Rw.row (Rw.row_other (w := World.drew wc) H.out.r3 _ om) _) Tryz.underlying124 rfl sizeWant)) rfl ⟨_, by rw [HST.out]; rfl, by rw [HST.out]; exact own_low (own_row (own_row (w := World.drew wc) H.out.rn.own _ (fun e => by have := own_block H.out.rn.own _ e; have := H.out.b4; omega)) _ (fun e => by have := own_block H.out.rn.own _ e; have := H.out.b4; omega)) (by have := H.out.b4; omega), below_row (below_row H.out.rn.d.drew om _) om _⟩
open Go.RowKit Go.Sort Go.Shelf
attribute [local go_sem] Oper.semAt_some
def sumT : Int → List Slt → Int
 | e, [] => e
 | e, t :: r => sumT (e + t.tk) r
theorem sumT_snoc : ∀ (l : List Slt) (e : Int) (t : Slt), sumT e (l ++ [t]) = sumT e l + t.tk
 | [], e, t => rfl
 | x :: r, e, t => by rw [List.cons_append, sumT, sumT, sumT_snoc r]
def turnsL : Int → List Slt → List (Int × Int)
 | _, [] => []
 | e, t :: r => (t.pt, e + t.tk) :: turnsL (e + t.tk) r
theorem turnsL_snoc : ∀ (l : List Slt) (e : Int) (t : Slt), turnsL e (l ++ [t]) = turnsL e l ++ [(t.pt, sumT e l + t.tk)]
 | [], e, t => rfl
 | x :: r, e, t => by rw [List.cons_append, turnsL, turnsL_snoc r, turnsL, sumT]; rfl
theorem turnsL_len : ∀ (l : List Slt) (e : Int), (turnsL e l).length = l.length
 | [], e => rfl
 | x :: r, e => by rw [turnsL, List.length_cons, turnsL_len r]; rfl
def SlotsOk (ts : List Slt) : Prop := ts.length ≤ 6 ∧ ∀ j (h : j < ts.length), 1 ≤ ts[j].tk ∧ ts[j].tk ≤ 8
theorem sumT_bd {ts : List Slt} (h : SlotsOk ts) : ∀ k, k ≤ ts.length → (k : Int) ≤ sumT 0 (ts.take k) ∧ sumT 0 (ts.take k) ≤ 8 * k
 | 0, _ => by simp [sumT]
 | k + 1, hk => by
  have ih := sumT_bd h k om
  have ht := h.2 k om
  rw [List.take_succ_eq_append_getElem om, sumT_snoc]
  omega
theorem turns1_in (F : Fence) (n : Nat) (hf : F.fn 172) (hro : F.round = none) (hn : 1 ≤ n) (l Bs n₀ b off cap : Nat) (ts : List Slt) (hts : SlotsOk ts) (hb : b < n₀) (J Jx : List (Int × Int) → World → Prop) (W : World) (hW : n₀ ≤ W.heap.size) (hJ : AbidesFrom W.heap.size J)
  (hY : ∀ pre x W, J pre W → pre.length < ts.length → YieldAt F (n - 1) Tryz.prog l #[.int .i64 x.1, .int .i64 x.2] W fun e W' =>
   (e = .returned (.bool true) ∧ J (pre ++ [x]) W' ∧ Below n₀ W W') ∨ (e = .returned (.bool false) ∧ Jx (pre ++ [x]) W'))
  (hBs : W.cell? ⟨Bs, 0, none⟩ = some (.slice (some ⟨b, off, none⟩) ts.length cap)) (hc : ∀ j u, (rowC slC ts)[j]? = some u → W.cell? ⟨b, off + j, none⟩ = some u) (h0 : J [] W) :
  CallsIn F n Tryz.prog 172 #[.func (.yield l) #[] #[], .pointer (some ⟨Bs, 0, none⟩)] W fun e W' => (∃ v, e = .returned v) ∧
   ((∃ ys, ys = turnsL 0 ts ∧ J ys W') ∨ (∃ pre, (∃ k, k ≤ ts.length ∧ pre = turnsL 0 (ts.take k)) ∧ Jx pre W')) := by
 have HC := hd hc
 have HJ := hd hJ
 have HT := hd hts
 have HY := hd hY
 have hl6 := hts.1
 clear hc hJ hts hY
 refine callsIn_of_wp Tryz.func172 rfl hf ?_ hro
 simp only [Tryz.ntmps172, List.size_toArray, List.length_cons, List.length_nil, Nat.reduceAdd, Nat.reduceSub, Array.replicate_succ, Array.replicate_zero, List.push_toArray, List.append_toArray, List.nil_append, List.cons_append]
 gi_wp2
 gi_loopw [3, 8] (fun e i wr => ∃ k : Nat, k ≤ ts.length ∧ i = .int .i64 k ∧ e = .int .i64 (sumT 0 (ts.take k)) ∧ J (turnsL 0 (ts.take k)) wr ∧ Below n₀ W wr)
  (fun _ i _ => ts.length - (intOf i).toNat)
 case atStart => exact ⟨0, Nat.zero_le _, rfl, rfl, h0, Below.refl _ _⟩
 case round =>
  obtain ⟨k, hk, rfl, rfl, hJs, hnx⟩ := hrel
  have hbd := sumT_bd HT.out k hk
  by_cases hlt : k < ts.length
  ·have htk := HT.out.2 k hlt
   have hli : (k : Int) < ts.length := by omega
   have hJ1 := HJ.out _ _ (wr.alloc (.cells #[.int .i64 ts[k].pt, .int .i64 ts[k].tk] 105)) none hJs (World.grownBy_alloc _ _ _) (fun r e => by cases e)
   obtain ⟨fn, tmps, assign, body, hy, hR⟩ := HY.out _ (ts[k].pt, sumT 0 (ts.take k) + ts[k].tk) _ hJ1 (by rw [turnsL_len, List.length_take]; omega)
   dsimp only at hy
   obtain ⟨c0, c1⟩ := slot_cells HC.out k hlt
   have c0 := bcl hnx hb c0
   have c1 := bcl hnx hb c1
   have HSN : Hid (turnsL 0 (ts.take (k + 1)) = turnsL 0 (ts.take k) ++ [(ts[k].pt, sumT 0 (ts.take k) + ts[k].tk)]) := by
    show _ = _
    rw [List.take_succ_eq_append_getElem hlt, turnsL_snoc]
   have HSM : Hid (sumT 0 (ts.take (k + 1)) = sumT 0 (ts.take k) + ts[k].tk) := by
    show _ = _
    rw [List.take_succ_eq_append_getElem hlt, sumT_snoc]
   have hsz := hnx.size
   gi_wp2
   refine hR.mono ?_
   rintro e W3 (⟨rfl, hJ3, hk3⟩ | ⟨rfl, hJx3⟩)
   ·gi_wp2
    go_roundw
    case rel => exact ⟨k + 1, by omega, by go_num, by rw [HSM.out], by rw [HSN.out]; exact hJ3, (hnx.alloc om _).trans hk3⟩
    case measure => simp [intOf]; omega
   ·gi_wp2
    refine bodyPost_ret (results_none rfl _ _ _) rfl ?_
    exact ⟨⟨_, rfl⟩, .inr ⟨_, ⟨k + 1, by omega, HSN.out.symm⟩, hJx3⟩⟩
  ·obtain rfl : k = ts.length := by omega
   rw [List.take_length] at hJs
   gi_wp2
   go_end0
   exact ⟨⟨_, rfl⟩, .inl ⟨_, rfl, hJs⟩⟩
theorem turns_in (F : Fence) (n : Nat) (hf : F.fn 161) (hro : F.round = none) (a : Option Addr) (len cap : Nat) (w : World) :
  CallsIn F n Tryz.prog 161 #[.slice a len cap] w fun e w' => e = .returned (.func (.func 172) #[] #[.pointer (some ⟨w.heap.size, 0, none⟩)]) ∧ w' = w.alloc (.cells #[.slice a len cap] 24) := by
 refine callsIn_of_wp Tryz.func161 rfl hf ?_ hro
 simp only [Tryz.ntmps161, List.size_toArray, List.length_cons, List.length_nil, Nat.reduceAdd, Nat.reduceSub, Array.replicate_succ, Array.replicate_zero, List.push_toArray, List.append_toArray, List.nil_append, List.cons_append]
 gi_wp2
 go_ret
 exact ⟨rfl, rfl⟩
theorem turns_stops (F : Fence) (n : Nat) (hf : F.fn 172) (hro : F.round = none) (hn : 1 ≤ n) (Bs n₀ b off cap : Nat) (ts : List Slt) (hts : SlotsOk ts) (w : World) (hBs : Bs < w.heap.size) (hn₀ : n₀ ≤ w.heap.size) (hb : b < n₀)
  (hc : w.cell? ⟨Bs, 0, none⟩ = some (.slice (some ⟨b, off, none⟩) ts.length cap)) (hI : ∀ j u, (rowC slC ts)[j]? = some u → w.cell? ⟨b, off + j, none⟩ = some u) :
  SeqStopsK F n Tryz.prog 172 #[.pointer (some ⟨Bs, 0, none⟩)] (fun x : Int × Int => #[Value.int .i64 x.1, Value.int .i64 x.2]) (Below n₀) (fun ys => ys = turnsL 0 ts)
   (fun pre => ∃ k, k ≤ ts.length ∧ pre = turnsL 0 (ts.take k)) ts.length w := fun l J Jx W hW hJ _ hY h0 => by
 have hc' := (hW.cell (p := ⟨Bs, 0, none⟩) hBs).trans hc
 exact turns1_in F n hf hro hn l Bs n₀ b off cap ts hts hb J Jx W (Nat.le_trans hn₀ hW.size) hJ hY hc' (fun j u hj => bcl hW om (hI j u hj)) h0
attribute [local go_sem] Oper.semAt_some
theorem turnsL_app : ∀ (l m : List Slt) (e : Int), turnsL e (l ++ m) = turnsL e l ++ turnsL (sumT e l) m
 | [], m, e => rfl
 | x :: r, m, e => by rw [List.cons_append, turnsL, turnsL_app r, turnsL, sumT]; rfl
def lastE (e : Int) : List (Int × Int) → Int
 | [] => e
 | x :: r => lastE x.2 r
theorem lastE_snoc : ∀ (l : List (Int × Int)) (e : Int) (x : Int × Int), lastE e (l ++ [x]) = x.2
 | [], e, x => rfl
 | y :: r, e, x => by rw [List.cons_append, lastE, lastE_snoc r]
theorem lastE_turns : ∀ (l : List Slt) (e : Int), lastE e (turnsL e l) = sumT e l
 | [], e => rfl
 | x :: r, e => by rw [turnsL, lastE, sumT, lastE_turns r]
def lastP (w : Int) : List (Int × Int) → Int
 | [] => w
 | x :: r => lastP x.1 r
theorem lastP_snoc : ∀ (l : List (Int × Int)) (e : Int) (x : Int × Int), lastP e (l ++ [x]) = x.1
 | [], e, x => rfl
 | y :: r, e, x => by rw [List.cons_append, lastP, lastP_snoc r]
def ownL (tick : Int) : Int → List (Int × Int) → Int
 | who, [] => who
 | _, x :: r => if tick < x.2 then x.1 else ownL tick x.1 r
theorem ownL_all (tick : Int) : ∀ (l : List (Int × Int)) (who : Int), (∀ p ∈ l, p.2 ≤ tick) → ownL tick who l = lastP who l
 | [], _, _ => rfl
 | x :: r, who, h => by
  rw [ownL, if_neg (by have := h x (by simp); omega), lastP]
  exact ownL_all tick r x.1 (fun p hp => h p (by simp [hp]))
theorem ownL_stop (tick : Int) : ∀ (l : List (Int × Int)) (who : Int) (x : Int × Int) (r : List (Int × Int)), (∀ p ∈ l, p.2 ≤ tick) → tick < x.2 → ownL tick who (l ++ x :: r) = x.1
 | [], _, x, r, _, hx => by rw [List.nil_append, ownL, if_pos hx]
 | y :: l, who, x, r, h, hx => by
  rw [List.cons_append, ownL, if_neg (by have := h y (by simp); omega)]
  exact ownL_stop tick l y.1 x r (fun p hp => h p (by simp [hp])) hx
theorem frame_in (F : Fence) (n : Nat) (h3 : F.fn 138) (h5 : F.fn 161) (h7 : F.fn 172) (hro : F.round = none) (hn : 3 ≤ n) (b off cap : Nat) (ts : List Slt) (hts : SlotsOk ts) (w : World) (hb : b < w.heap.size)
  (hI : ∀ j u, (rowC slC ts)[j]? = some u → w.cell? ⟨b, off + j, none⟩ = some u) :
  CallsIn F n Tryz.prog 138 #[.slice (some ⟨b, off, none⟩) ts.length cap] w fun e W' => e = .returned (.int .i64 (sumT 0 ts)) ∧ Below w.heap.size w W' := by
 have h1 : 1 ≤ n := by omega
 refine callsIn_of_wp_marks Tryz.func138 rfl h3 ?_ hro
 simp only [Tryz.ntmps138, List.size_toArray, List.length_cons, List.length_nil, Nat.reduceAdd, Nat.reduceSub, Array.replicate_succ, Array.replicate_zero, List.push_toArray, List.append_toArray, List.nil_append, List.cons_append]
 gi_wp2_with (gi_at_call 161; refine (turns_in F (n - 1) h5 hro _ _ _ _).mono ?_; rintro e w' ⟨rfl, rfl⟩)
 have bS := Boxed.new w 3 (.int .i64 0)
 have bN := Boxed.new (w.alloc (.cells #[.int .i64 0] 3)) 24 (.slice (some ⟨b, off, none⟩) ts.length cap)
 rw [World.size_alloc] at bN
 have hB0 : Below w.heap.size w ((w.alloc (.cells #[.int .i64 0] 3)).alloc (.cells #[.slice (some ⟨b, off, none⟩) ts.length cap] 24)) := ((Below.refl _ w).alloc (Nat.le_refl _) _).alloc (by simp) _
 refine wpIn_rangeFunc_ownG hro h1 (gf := 172) (lb := #[.pointer (some ⟨w.heap.size + 1, 0, none⟩)]) rfl h7 (enters_of Tryz.func172 kr rfl)
  (turns_stops F (n - 1) h7 hro om (w.heap.size + 1) w.heap.size b off cap ts hts _ (by simp) so hb bN.cell (fun j u hj => bcl hB0 hb (hI j u hj))) belowK_t (belowK_b so) (Below.refl _ _) (fun _ => rfl)
  (fun pre W => (W.cell? ⟨w.heap.size, 0, none⟩ = some (.int .i64 (lastE 0 pre)) ∧ W.frozen? ⟨w.heap.size, 0, none⟩ = false) ∧ Below w.heap.size w W)
  (fun _ _ _ => False)
  (OwnFrom.and (Own.from (fun s A B row hs hg hr => ⟨cell_kept hs.1 hg hr, (frozen_kept hs.1 hg hr).trans hs.2⟩) _) (ownFrom_below (Nat.le_refl _) so))
  (fun _ _ _ _ _ hs _ _ => hs)
  ⟨⟨(bS.alloc _).cell, (bS.alloc _).frozen⟩, hB0⟩
  (fun x => { tmps := #[.slice (some ⟨b, off, none⟩) ts.length cap, undef, .int .i64 0, .pointer (some ⟨w.heap.size, 0, none⟩), undef, .int .i64 x.2, .slice (some ⟨b, off, none⟩) ts.length cap, .func (.func 172) #[] #[.pointer (some ⟨w.heap.size + 1, 0, none⟩)], .int .i64 x.1, .int .i64 x.2, undef, undef], defers := [] }) ?assign ?body ?done ?stop
 case assign =>
  intro l x W K hK
  gi_wp2
  exact hK
 case body =>
  rintro l pre x W ⟨⟨hc, hf⟩, hB⟩ _
  gi_wp2
  exact ⟨(KeepsOthers.setCell _ _ _).from _, (Below.refl w.heap.size W).setCell (p := ⟨w.heap.size, 0, none⟩) (Nat.le_refl _) _, ⟨by rw [lastE_snoc]; exact World.cell?_setCell_same' _ _ _ (by rw [hc]; rfl), by rw [World.frozen?_setCell]; exact hf⟩, hB.setCell (p := ⟨w.heap.size, 0, none⟩) (Nat.le_refl _) _⟩
 case done =>
  rintro D ys W hD rfl ⟨⟨hc, _⟩, hB⟩ hK
  rw [lastE_turns] at hc
  gi_wp2
  refine ⟨by simp, .inl ⟨_, _, rfl, run_takeDeferred hK, ?_⟩⟩
  exact ⟨_, results_tmp rfl _ _ _, rfl, hB.trans (belowK_b (w := w) (Nat.le_refl _) W D _ _ (by simp at hD; omega) hK rfl rfl)⟩
 case stop =>
  rintro D c pre W _ _ h _
  exact h.elim
theorem owner_in (F : Fence) (n : Nat) (h3 : F.fn 137) (h5 : F.fn 161) (h7 : F.fn 172) (hro : F.round = none) (hn : 3 ≤ n) (b off cap : Nat) (ts : List Slt) (hts : SlotsOk ts) (tick : Int) (w : World) (hb : b < w.heap.size)
  (hI : ∀ j u, (rowC slC ts)[j]? = some u → w.cell? ⟨b, off + j, none⟩ = some u) :
  CallsIn F n Tryz.prog 137 #[.slice (some ⟨b, off, none⟩) ts.length cap, .int .i64 tick] w fun e W' => e = .returned (.int .i64 (ownL tick 0 (turnsL 0 ts))) ∧ Below w.heap.size w W' := by
 have h1 : 1 ≤ n := by omega
 refine callsIn_of_wp_marks Tryz.func137 rfl h3 ?_ hro
 simp only [Tryz.ntmps137, List.size_toArray, List.length_cons, List.length_nil, Nat.reduceAdd, Nat.reduceSub, Array.replicate_succ, Array.replicate_zero, List.push_toArray, List.append_toArray, List.nil_append, List.cons_append]
 gi_wp2_with (gi_at_call 161; refine (turns_in F (n - 1) h5 hro _ _ _ _).mono ?_; rintro e w' ⟨rfl, rfl⟩)
 have bT := Boxed.new w 3 (.int .i64 tick)
 have bS := Boxed.new (w.alloc (.cells #[.int .i64 tick] 3)) 3 (.int .i64 0)
 have bN := Boxed.new ((w.alloc (.cells #[.int .i64 tick] 3)).alloc (.cells #[.int .i64 0] 3)) 24 (.slice (some ⟨b, off, none⟩) ts.length cap)
 rw [World.size_alloc] at bS
 rw [World.size_alloc, World.size_alloc] at bN
 have hB0 : Below w.heap.size w (((w.alloc (.cells #[.int .i64 tick] 3)).alloc (.cells #[.int .i64 0] 3)).alloc (.cells #[.slice (some ⟨b, off, none⟩) ts.length cap] 24)) := (((Below.refl _ w).alloc (Nat.le_refl _) _).alloc (by simp) _).alloc so _
 refine wpIn_rangeFunc_ownG hro h1 (gf := 172) (lb := #[.pointer (some ⟨w.heap.size + 1 + 1, 0, none⟩)]) rfl h7 (enters_of Tryz.func172 kr rfl)
  (turns_stops F (n - 1) h7 hro om (w.heap.size + 1 + 1) w.heap.size b off cap ts hts _ (by simp) so hb bN.cell (fun j u hj => bcl hB0 hb (hI j u hj))) belowK_t (belowK_b so) (Below.refl _ _) (fun _ => rfl)
  (fun pre W => ((∀ p ∈ pre, p.2 ≤ tick) ∧ W.cell? ⟨w.heap.size, 0, none⟩ = some (.int .i64 tick) ∧ W.cell? ⟨w.heap.size + 1, 0, none⟩ = some (.int .i64 (lastP 0 pre)) ∧ W.frozen? ⟨w.heap.size + 1, 0, none⟩ = false) ∧ Below w.heap.size w W)
  (fun c pre W => (c = .exit 0 ∧ ∃ ini last, pre = ini ++ [last] ∧ (∀ p ∈ ini, p.2 ≤ tick) ∧ tick < last.2 ∧ W.cell? ⟨w.heap.size + 1, 0, none⟩ = some (.int .i64 last.1)) ∧ Below w.heap.size w W)
  (OwnFrom.and (Own.from (fun s A B row hs hg hr => ⟨hs.1, cell_kept hs.2.1 hg hr, cell_kept hs.2.2.1 hg hr, (frozen_kept hs.2.2.1 hg hr).trans hs.2.2.2⟩) _) (ownFrom_below (Nat.le_refl _) so))
  (fun c => OwnFrom.and (Own.from (fun s A B row hs hg hr => by obtain ⟨hc, ini, last, e1, e2, e3, e4⟩ := hs; exact ⟨hc, ini, last, e1, e2, e3, cell_kept e4 hg hr⟩) _) (ownFrom_below (Nat.le_refl _) so))
  ⟨⟨by simp, ((bT.alloc _).alloc _).cell, (bS.alloc _).cell, (bS.alloc _).frozen⟩, hB0⟩
  (fun x => { tmps := #[.slice (some ⟨b, off, none⟩) ts.length cap, .int .i64 tick, undef, .pointer (some ⟨w.heap.size, 0, none⟩), .int .i64 0, .pointer (some ⟨w.heap.size + 1, 0, none⟩), .int .i64 x.1, .int .i64 x.2, .slice (some ⟨b, off, none⟩) ts.length cap, .func (.func 172) #[] #[.pointer (some ⟨w.heap.size + 1 + 1, 0, none⟩)], .int .i64 x.1, .int .i64 x.2, undef, undef, undef, undef, undef], defers := [] }) ?assign ?body ?done ?stop
 case assign =>
  intro l x W K hK
  gi_wp2
  exact hK
 case body =>
  rintro l pre x W ⟨⟨hp, hct, hcr, hfr⟩, hB⟩ _
  have hct' : (W.setCell ⟨w.heap.size + 1, 0, none⟩ (.int .i64 x.1)).cell? ⟨w.heap.size, 0, none⟩ = some (.int .i64 tick) := cl_set (Or.inl om) hct
  gi_wp2
  ·have hx : tick < x.2 := by assumption
   exact ⟨(KeepsOthers.setCell _ _ _).from _, ⟨rfl, pre, x, rfl, hp, hx, World.cell?_setCell_same' _ _ _ (by rw [hcr]; rfl)⟩, hB.setCell (p := ⟨w.heap.size + 1, 0, none⟩) (by simp) _⟩
  ·have hx : x.2 ≤ tick := by first | assumption | omega
   exact ⟨(KeepsOthers.setCell _ _ _).from _, (Below.refl w.heap.size W).setCell (p := ⟨w.heap.size + 1, 0, none⟩) (by simp) _, ⟨fun p hp' => (List.mem_append.1 hp').elim (hp p) (fun e => by simp at e; subst e; exact hx), hct', by rw [lastP_snoc]; exact World.cell?_setCell_same' _ _ _ (by rw [hcr]; rfl), by rw [World.frozen?_setCell]; exact hfr⟩, hB.setCell (p := ⟨w.heap.size + 1, 0, none⟩) (by simp) _⟩
 case done =>
  rintro D ys W hD rfl ⟨⟨hp, hct, hcr, hfr⟩, hB⟩ hK
  rw [← ownL_all tick _ 0 hp] at hcr
  gi_wp2
  refine ⟨by simp, .inl ⟨_, _, rfl, run_takeDeferred hK, ?_⟩⟩
  exact ⟨_, results_tmp rfl _ _ _, rfl, hB.trans (belowK_b (w := w) (Nat.le_refl _) W D _ _ (by simp at hD; omega) hK rfl rfl)⟩
 case stop =>
  rintro D c pre W hD ⟨k, hk, rfl⟩ ⟨⟨rfl, ini, last, e1, e2, e3, hcr⟩, hB⟩ hK
  have he : last.1 = ownL tick 0 (turnsL 0 ts) := by
   have h := turnsL_app (ts.take k) (ts.drop k) 0
   rw [List.take_append_drop, e1, List.append_assoc] at h
   rw [h]
   exact (ownL_stop tick ini 0 last _ e2 e3).symm
  rw [he] at hcr
  gi_wp2
  refine ⟨by simp, .inl ⟨_, _, rfl, run_takeDeferred hK, ?_⟩⟩
  exact ⟨_, results_tmp rfl _ _ _, rfl, hB.trans (belowK_b (w := w) (Nat.le_refl _) W D _ _ (by simp at hD; omega) hK rfl rfl)⟩
theorem frame_any (ts : List Slt) (v : Value) (w : World) (hts : SlotsOk ts) (h1 : 1 ≤ ts.length) (hS : Sl w 2 v ts.length (rowC slC ts)) : Calls Tryz.prog 138 #[v] w fun e w' => e = .returned (.int .i64 (sumT 0 ts)) ∧ Below w.heap.size w w' := by
 obtain ⟨b, off, cap, rfl, hcap, hb, hc⟩ := hS.open om
 exact (callsIn_wide (n := 3)).1 (frame_in Fence.wide 3 trivial trivial trivial rfl (Nat.le_refl _) b off cap ts hts w hb hc)
theorem owner_any (ts : List Slt) (v : Value) (tick : Int) (w : World) (hts : SlotsOk ts) (h1 : 1 ≤ ts.length) (hS : Sl w 2 v ts.length (rowC slC ts)) : Calls Tryz.prog 137 #[v, .int .i64 tick] w fun e w' => e = .returned (.int .i64 (ownL tick 0 (turnsL 0 ts))) ∧ Below w.heap.size w w' := by
 obtain ⟨b, off, cap, rfl, hcap, hb, hc⟩ := hS.open om
 exact (callsIn_wide (n := 3)).1 (owner_in Fence.wide 3 trivial trivial trivial rfl (Nat.le_refl _) b off cap ts hts tick w hb hc)
end Go.Proofs.YtehhhiodfcdnmaaGreatDoor

/- cell.Step. -/
import Derived.Test.YtbkdoohhdkahiaaGreatDoorJ18
import Derived.Deep.MidRow
import Derived.Deep.CutRange
import Derived.RangeFuncNested
import Derived.RangeFuncBound
import Derived.RangeFuncCalls
import Derived.RangeFuncLeaves
import Derived.RangeFuncBox
import Derived.Shelf.Abstract
import Derived.Shelf.RegionOpen
import Derived.WalkKit
import Derived.OwnWalkIn
import Derived.TacticsInMore
import Derived.LoopNIn
import Derived.LoopIn
import Derived.Test.YtbkdoohhdkahiaaGreatDoorJ3
import Derived.Test.YtbkdoohhdkahiaaGreatDoorJ7
import Derived.Deep.RegionWith
import Derived.Deep.RegionHeld3
namespace Go.Proofs.YtbkdoohhdkahiaaGreatDoor
set_option linter.unusedSimpArgs false
set_option linter.unusedVariables false
set_option maxRecDepth 100000
set_option maxHeartbeats 8000000
open Go.RowKit Go.Sort
variable {W : World} {g : Nat} {c : Cel} {i o : Value} {x : Wnt} {ts : List Slt} {S : SysD}
theorem xm5 : xav 152 := xa8 Tryz.func152 kr kr
theorem xje (c : Cel) (o : Value) (a : Option Addr) (n k : Nat) (w : World) : (Instr.build 223 #[(0, .agg (c.cs o)), (1, .slice a n k)]).run Tryz.prog w = .ok (.agg (rcs c o (.slice a n k) xa0)) w := run_build w _ _ _ kr
def Wnt.cs (x : Wnt) : Array Value := #[.int .i64 x.k, .int .i64 x.ch, .int .i64 x.reg, .int .i64 x.flag, .int .i64 x.val]
theorem Wnt.v_cs (x : Wnt) : x.v = .agg x.cs := rfl
theorem xme : (Tryz.prog.info? 223).map (·.size) = some 22 := by kernel_rfl
theorem xqb (h : Rw W g 223 (rcs c o i x)) : (Instr.loadAt 77 (.pointer (some ⟨g, 0, none⟩))).run Tryz.prog W = .ok (.agg (c.cs o)) W := by
 refine run_loadAt_mid W g 0 77 (c.cs o).toList _ (fun j v hj => ?_) Tryz.underlying77 rfl xac
 rw [Nat.zero_add]
 refine h.cell ?_
 have hj' : j < 16 := by have := (List.getElem?_eq_some_iff.1 hj).1; simpa [Cel.cs] using this
 have : j = 0 \/ j = 1 \/ j = 2 \/ j = 3 \/ j = 4 \/ j = 5 \/ j = 6 \/ j = 7 \/ j = 8 \/ j = 9 \/ j = 10 \/ j = 11 \/ j = 12 \/ j = 13 \/ j = 14 \/ j = 15 := by omega
 rcases this with rfl | rfl | rfl | rfl | rfl | rfl | rfl | rfl | rfl | rfl | rfl | rfl | rfl | rfl | rfl | rfl <;> exact hj
theorem xp2 (h : Rw W g 223 (rcs c o i x)) : (Instr.loadAt 167 (.pointer (some ⟨g, 17, none⟩))).run Tryz.prog W = .ok (.agg x.cs) W := by
 refine run_loadAt_mid W g 17 167 x.cs.toList _ (fun j v hj => ?_) Tryz.underlying167 rfl xag
 refine h.cell ?_
 have hj' : j < 5 := by have := (List.getElem?_eq_some_iff.1 hj).1; simpa [Wnt.cs] using this
 have : j = 0 \/ j = 1 \/ j = 2 \/ j = 3 \/ j = 4 := by omega
 rcases this with rfl | rfl | rfl | rfl | rfl <;> exact hj
theorem Wnt.cs_one (x : Wnt) : x.cs.all (·.oneCell') = true := by
 simp [Wnt.cs]
 simp [Value.oneCell']
theorem xyw (c : Cel) (o i : Value) (x : Wnt) (h : o.oneCell' = true) (h' : i.oneCell' = true) : (rcs c o i x).all (·.oneCell') = true := by
 simp [rcs, h, h']
 simp [Value.oneCell']
def xbh (l : List Ins) (inn xs : List Int) (c : Cel) : Cel × List Int × Wnt := if c.en = 0 then xmq l inn xs c xa0 else (c, xs, xa0)
structure Sp (w W : World) (g base : Nat) (c : Cel) (o i : Value) (x : Wnt) (xs : List Int) (v : Value) : Prop where
 rn : Rn w.heap.size w W g base c o i x xs
 r0 : Rw W w.heap.size 43 #[v, i]
 r2 : Rw W (w.heap.size + 2) 77 (xc6.cs (.slice none 0 0))
 r3 : Rw W (w.heap.size + 3) 167 xa0.cs
 g4 : w.heap.size + 4 <= g
 b4 : w.heap.size + 4 <= base
theorem xq1 (l : List Ins) (inn xs : List Int) (v iv ov : Value) (c : Cel) (hl : xd3 l = 0) (hi : inn.length <= 12) (hf : c.fine xs.length = true) (hr : c.read <= inn.length) (w : World) (he : Env w) (hC : Sl w 4 v l.length (xck l)) (hI : Sl w 1 iv inn.length (xar inn)) (hO : Sl w 1 ov xs.length (xar xs)) :
  Calls Tryz.prog 98 #[xrb v iv, c.v ov] w fun e w' => ∃ o', e = .returned (.tuple #[(xbh l inn xs c).1.v o', (xbh l inn xs c).2.2.v, .int .i64 0]) /\ w'.ownsRow w.heap.size 3 1 o' (xbh l inn xs c).2.1.length (xar (xbh l inn xs c).2.1) /\ Below w.heap.size w w' := by
 obtain ⟨iao, icap, rfl⟩ := hI.form
 obtain ⟨ao, cap, rfl⟩ := hO.form
 obtain ⟨cao, ccap, rfl⟩ := hC.form
 have hfi := (xbv c _).1 hf
 have hE : xr1 (xd3 l) inn.length true c.read = 0 := by
  unfold xr1
  rw [hl, if_neg (by simp), if_neg om, if_neg (by simp), if_neg om]
 have hfe : xdr l = 0 := by
  unfold xd3 at hl
  split at hl
  .omega
  .exact hl
 have HC := hd fun w he hS => hE ▸ xng l (.slice cao l.length ccap) iao inn.length icap c ao xs.length cap (xd3 l) rfl true hf w he hS
 have HE := hd he
 have HS := hd hC
 have HI := hd hI
 have HO := hd hO
 clear hE hf hl he hC hI hO
 rw [Cel.v_cs] at HC
 rw [Cel.v_cs]
 unfold xrb at HC
 unfold xrb
 go_enter Tryz.func98, Tryz.ntmps98
 go_wp2_with (refine wpList_load_row rfl 77 (.tmp 3) rfl (w.heap.size + 1) rfl 77 (c.cs (.slice ao xs.length cap)) (0, 0) _ rn0 Tryz.underlying77 rfl xac ?_)
 refine (HC.out _ (HE.out.up up0) (HS.out.up up0)).mono ?_
 rintro e W ⟨rfl, b1⟩
 have D : Below w.heap.size w W := by
  refine Below.trans ?_ (b1.mono o3)
  exact up0
 have z : w.heap.size + 4 <= W.heap.size := by have := b1.size; simp at this; omega
 have r0 : Rw W w.heap.size 43 #[.slice cao l.length ccap, .slice iao inn.length icap] := Rw.up rn0 b1 o3
 have r1 : Rw W (w.heap.size + 1) 77 (c.cs (.slice ao xs.length cap)) := Rw.up rn0 b1 o3
 have r2 : Rw W (w.heap.size + 2) 77 (xc6.cs (.slice none 0 0)) := Rw.up rn0 b1 o3
 have r3 : Rw W (w.heap.size + 3) 167 xa0.cs := Rw.up rn0 b1 o3
 have R0 := hd r0
 have R1 := hd r1
 have R2 := hd r2
 have R3 := hd r3
 have HD := hd D
 clear b1 HC r0 r1 r2 r3 D
 go_wp2
 go_cut [8] from 9 (fun p wc => ∃ g base ao' cap', p = .pointer (some ⟨g, 0, none⟩) /\ Hid (Sp w wc g base c (.slice ao' xs.length cap') (.slice iao inn.length icap) xa0 xs (.slice cao l.length ccap)))
 case first =>
  refine xad (S := fun w' => Rw w' (w.heap.size + 1) 77 (c.cs (.slice ao xs.length cap)) /\ Rw w' w.heap.size 43 #[.slice cao l.length ccap, .slice iao inn.length icap]) 6 kr ⟨R1.out, R0.out⟩ (fun hHeld => ?_)
  refine Still.y 0 [] rfl (xak rfl _ _ rfl _ ev _ (fun w' hSw => Rw.loadAt hSw.1 Tryz.underlying77 rfl xac)) hHeld ?_
  have hq := fun w' (hSw : (fun w' => Rw w' (w.heap.size + 1) 77 (c.cs (.slice ao xs.length cap)) /\ Rw w' w.heap.size 43 #[.slice cao l.length ccap, .slice iao inn.length icap]) w') => hSw.2.cell (j := 1) (v := .slice iao inn.length icap) rfl
  refine Still.u 2 [] hHeld hq ?_
  refine Still.u 3 [] hHeld hq ?_
  refine Still.all (rs := [1, 5]) kr (by simp) ?_
  refine Still.one (i := 1) rfl rfl (fun K hK => ?_) (Still.one (i := 5) rfl rfl (fun K hK => ?_) (by simp))
  .refine xap 152 _ _ rfl xm5 #[.agg (c.cs (.slice ao xs.length cap))] ev ((xis c xs om _ _ (HO.out.up HD.out.drew)).mono ?_)
   rintro e V ⟨v', rfl, o1, b1⟩
   refine ⟨_, rfl, hK _ _ (fun _ => ⟨hHeld.1.up b1 so, hHeld.2.up b1 so⟩) (fun hh => ?_)⟩
   have hHeld := hh (by decide)
   clear hK K hh
   rw [Cel.v_cs]
   try simp only [Act.put, l1, l2, l3, l4, l5, l6]
   have o1l := xbc o1
   have o1b := xab o1
   have z1 := b1.size
   simp at z1 o1b
   obtain ⟨ao', cap', rfl⟩ := xaq o1
   refine Still.y 4 [] rfl (xjl rfl _ _ rfl #[(0, .agg (c.cs (.slice ao' xs.length cap'))), (1, .slice iao inn.length icap)] ev _ (xje c (.slice ao' xs.length cap') iao inn.length icap)) hHeld ?_
   refine Still.o 5 rfl rfl (fun K hK => ?_)
   go_simp
   refine hK _ _ (fun _ => ⟨hHeld.1.alloc _, hHeld.2.alloc _⟩) (fun hh => ?_)
   have hHeld := hh (by decide)
   clear hK K hh
   try simp only [Act.put, l1, l2, l3, l4, l5, l6]
   refine Still.o 6 rfl rfl (fun K hK => ?_)
   refine wp_store_row 223 _ _ rfl V.heap.size (rcs c (.slice ao' xs.length cap') (.slice iao inn.length icap) xa0) ev ev 223 (rcs xc6 (.slice none 0 0) (.slice none 0 0) xa0) (Rw.new V 223 _ rfl) xme rfl (xyw _ _ _ _ rfl rfl) ?_
   refine hK _ _ ab (fun _ => Still.vv ?_)
   clear hK K
   have b2 : Below V.heap.size V (V.alloc (.cells (rcs xc6 (.slice none 0 0) (.slice none 0 0) xa0) 223)) := (Below.refl _ _).alloc (Nat.le_refl _) _
   clear hHeld
   go_wp2
   go_meet
   exact ⟨V.heap.size, W.heap.size, ao', cap', rfl, ⟨⟨Rw.row (Rw.new V 223 (rcs xc6 (.slice none 0 0) (.slice none 0 0) xa0) rfl) _, xaa ((HD.out.drew.trans (b1.mono (B' := w.heap.size) so)).trans (b2.mono om)) om _, xan (xde o1 b2 o1l) _ (fun e => by have := o1l _ e; omega), by omega, by omega, fun k e => by have := o1l k e; omega, by simp; omega⟩, Rw.row_other ((Rw.up (w := W.drew) R0.out b1 so).alloc _) _ om, Rw.row_other ((Rw.up (w := W.drew) R2.out b1 so).alloc _) _ om, Rw.row_other ((Rw.up (w := W.drew) R3.out b1 so).alloc _) _ om, by omega, by omega⟩⟩
  .go_simp
   refine hK _ _ (fun _ => ⟨hHeld.1.alloc _, hHeld.2.alloc _⟩) (fun hh => ?_)
   have hHeld := hh (by decide)
   clear hK K hh
   try simp only [Act.put, l1, l2, l3, l4, l5, l6]
   refine Still.o 1 rfl rfl (fun K hK => ?_)
   refine xap 152 _ _ rfl xm5 #[.agg (c.cs (.slice ao xs.length cap))] ev ((xis c xs om _ _ (HO.out.up (HD.out.drew.alloc so _))).mono ?_)
   rintro e V ⟨v', rfl, o1, b1⟩
   refine ⟨_, rfl, hK _ _ (fun _ => ⟨hHeld.1.up b1 so, hHeld.2.up b1 so⟩) (fun hh => ?_)⟩
   have hHeld := hh (by decide)
   clear hK K hh
   rw [Cel.v_cs]
   try simp only [Act.put, l1, l2, l3, l4, l5, l6]
   have o1l := xbc o1
   have o1b := xab o1
   have z1 := b1.size
   simp at z1 o1b
   obtain ⟨ao', cap', rfl⟩ := xaq o1
   refine Still.y 4 [] rfl (xjl rfl _ _ rfl #[(0, .agg (c.cs (.slice ao' xs.length cap'))), (1, .slice iao inn.length icap)] ev _ (xje c (.slice ao' xs.length cap') iao inn.length icap)) hHeld ?_
   refine Still.o 6 rfl rfl (fun K hK => ?_)
   have rz : Rw V W.heap.size 223 (rcs xc6 (.slice none 0 0) (.slice none 0 0) xa0) := Rw.up (w := W.drew.alloc _) (Rw.new W.drew 223 _ rfl) b1 (by simp)
   refine wp_store_row 223 _ _ rfl W.heap.size (rcs c (.slice ao' xs.length cap') (.slice iao inn.length icap) xa0) ev ev 223 (rcs xc6 (.slice none 0 0) (.slice none 0 0) xa0) rz xme rfl (xyw _ _ _ _ rfl rfl) ?_
   refine hK _ _ ab (fun _ => Still.vv ?_)
   clear hK K
   clear hHeld
   go_wp2
   go_meet
   exact ⟨W.heap.size, (W.heap.size + 1), ao', cap', rfl, ⟨⟨Rw.row rz _, xaa ((HD.out.drew.alloc so _).trans (b1.mono so)) om _, xan (by simpa using o1) _ (fun e => by have := o1b _ e; omega), by omega, by omega, fun k e => by have := o1b k e; omega, by simp; omega⟩, Rw.row_other (Rw.up (w := W.drew.alloc _) (Rw.alloc (w := W.drew) R0.out _) b1 so) _ om, Rw.row_other (Rw.up (w := W.drew.alloc _) (Rw.alloc (w := W.drew) R2.out _) b1 so) _ om, Rw.row_other (Rw.up (w := W.drew.alloc _) (Rw.alloc (w := W.drew) R3.out _) b1 so) _ om, by omega, by omega⟩⟩
 case rest =>
  obtain ⟨g, base, ao', cap', rfl, H⟩ := hcut
  have k15 : wc.cell? ⟨g, 15, none⟩ = some (.int .i64 c.en) := H.out.rn.r.cell rfl
  have p0 : wc.cell? ⟨w.heap.size, 0, none⟩ = some (.slice cao l.length ccap) := H.out.r0.cell rfl
  obtain ⟨iv, hiv⟩ : ∃ iv, iv = Value.slice iao inn.length icap := ⟨_, rfl⟩
  rw [<- hiv] at H HI
  clear R0 R1 R2 R3 HD hiv
  by_cases hen : c.en = 0
  .have HST : Hid (xbh l inn xs c = xmq l inn xs c xa0) := by
    show xbh l inn xs c = _
    unfold xbh
    rw [if_pos hen]
   rw [hen] at k15
   go_wp2_with fail
   refine (xzu l hfe (w.heap.size + 4) wc wc g base c (.slice ao' xs.length cap') iv (.slice cao l.length ccap) xa0 xs inn hfi.1 hfi.2.1 hfi.2.2.1 hfi.2.2.2.1 hfi.2.2.2.2.2.2 (HS.out.up H.out.rn.d) (HI.out.up H.out.rn.d) ⟨H.out.rn.r, Below.refl _ _, H.out.rn.own, H.out.g4, H.out.b4, H.out.rn.no, H.out.rn.bs⟩).mono ?_
   rintro e V ⟨rfl, o', hR⟩
   generalize hrun : xmq l inn xs c xa0 = r at hR HST
   obtain ⟨c', xs', x'⟩ := r
   simp only at hR
   obtain ⟨ao2, cap2, rfl⟩ := xaq hR.own
   have H2 : Hid (Sp w V g base c' (.slice ao2 xs'.length cap2) iv x' xs' (.slice cao l.length ccap)) :=
    ⟨⟨hR.r, H.out.rn.d.trans (hR.d.mono om), hR.own, H.out.rn.g0, H.out.rn.b0, hR.no, hR.bs⟩, H.out.r0.up hR.d om, H.out.r2.up hR.d om, H.out.r3.up hR.d om, H.out.g4, H.out.b4⟩
   clear hR hrun H k15 p0
   go_wp2
   have hg4 := H2.out.g4
   refine xad (S := fun w' => Rw w' g 223 (rcs c' (.slice ao2 xs'.length cap2) iv x')) 6 kr H2.out.rn.r (fun hHeld => ?_)
   refine Still.t 0 [] hHeld ?_
   refine Still.y 1 [] rfl (xak rfl _ _ rfl _ ev _ (fun w' hSw => xqb hSw)) hHeld ?_
   refine Still.t 2 [] hHeld ?_
   refine Still.y 3 [] rfl (xak rfl _ _ rfl _ ev _ (fun w' hSw => xp2 hSw)) hHeld ?_
   refine Still.o 4 rfl rfl (fun K hK => ?_)
   refine wp_store_row 77 _ _ rfl (w.heap.size + 2) (Cel.cs c' (.slice ao2 xs'.length cap2)) ev ev 77 _ H2.out.r2 xac rfl (Cel.cs_one _ _ rfl) ?_
   refine hK _ _ (fun _ => hHeld.row_other _ om) (fun _ => ?_)
   clear hK K hHeld
   try simp only [Act.put, l1, l2, l3, l4, l5, l6]
   have hHeld : Rw (World.setRow (World.drew V) (w.heap.size + 2) (Cel.cs c' (.slice ao2 xs'.length cap2))) g 223 (rcs c' (.slice ao2 xs'.length cap2) iv x') := Rw.row_other (w := World.drew V) H2.out.rn.r _ om
   refine Still.o 5 rfl rfl (fun K hK => ?_)
   refine wp_store_row 167 _ _ rfl (w.heap.size + 3) (Wnt.cs x') ev ev 167 _ (Rw.row_other (w := World.drew V) H2.out.r3 _ om) xag rfl (Wnt.cs_one _) ?_
   refine hK _ _ (fun _ => Rw.row_other hHeld _ om) (fun _ => ?_)
   clear hK K
   try simp only [Act.put, l1, l2, l3, l4, l5, l6]
   refine Still.o 6 rfl rfl (fun K hK => ?_)
   go_simp
   refine hK _ _ ab (fun _ => Still.vv ?_)
   clear hK K
   clear hHeld
   go_wp2
   refine bodyPost_ret (xfy Tryz.results98 _ _ (w.heap.size + 2) (w.heap.size + 3) _ _ _ rfl rfl rfl (run_loadVar_row _ _ 77 _ (Cel.cs c' (.slice ao2 xs'.length cap2)) (0, 0) _ (Rw.row_other (Rw.row (w := World.drew V) H2.out.r2 _) _ om) Tryz.underlying77 rfl xac) (run_loadVar_row _ _ 167 _ (Wnt.cs x') (0, 0) _ (Rw.row (Rw.row_other (w := World.drew V) H2.out.r3 _ om) _) Tryz.underlying167 rfl xag)) rfl ⟨_, by rw [HST.out]; rfl, by rw [HST.out]; exact xau (xan (xan (w := World.drew V) H2.out.rn.own _ (fun e => by have := xab H2.out.rn.own _ e; have := H2.out.b4; omega)) _ (fun e => by have := xab H2.out.rn.own _ e; have := H2.out.b4; omega)) (by have := H2.out.b4; omega), xaa (xaa H2.out.rn.d.drew om _) om _⟩
  .have hen' : (c.en == 0) = false := by simpa using hen
   have HST : Hid (xbh l inn xs c = (c, xs, xa0)) := by
    show xbh l inn xs c = _
    unfold xbh
    rw [if_neg hen]
   clear hen p0
   go_wp2
   have hg4 := H.out.g4
   refine xad (S := fun w' => Rw w' g 223 (rcs c (.slice ao' xs.length cap') iv xa0)) 6 kr H.out.rn.r (fun hHeld => ?_)
   refine Still.t 0 [] hHeld ?_
   refine Still.y 1 [] rfl (xak rfl _ _ rfl _ ev _ (fun w' hSw => xqb hSw)) hHeld ?_
   refine Still.t 2 [] hHeld ?_
   refine Still.y 3 [] rfl (xak rfl _ _ rfl _ ev _ (fun w' hSw => xp2 hSw)) hHeld ?_
   refine Still.o 4 rfl rfl (fun K hK => ?_)
   refine wp_store_row 77 _ _ rfl (w.heap.size + 2) (Cel.cs c (.slice ao' xs.length cap')) ev ev 77 _ H.out.r2 xac rfl (Cel.cs_one _ _ rfl) ?_
   refine hK _ _ (fun _ => hHeld.row_other _ om) (fun _ => ?_)
   clear hK K hHeld
   try simp only [Act.put, l1, l2, l3, l4, l5, l6]
   have hHeld : Rw (World.setRow (World.drew wc) (w.heap.size + 2) (Cel.cs c (.slice ao' xs.length cap'))) g 223 (rcs c (.slice ao' xs.length cap') iv xa0) := Rw.row_other (w := World.drew wc) H.out.rn.r _ om
   refine Still.o 5 rfl rfl (fun K hK => ?_)
   refine wp_store_row 167 _ _ rfl (w.heap.size + 3) (Wnt.cs xa0) ev ev 167 _ (Rw.row_other (w := World.drew wc) H.out.r3 _ om) xag rfl (Wnt.cs_one _) ?_
   refine hK _ _ (fun _ => Rw.row_other hHeld _ om) (fun _ => ?_)
   clear hK K
   try simp only [Act.put, l1, l2, l3, l4, l5, l6]
   refine Still.o 6 rfl rfl (fun K hK => ?_)
   go_simp
   refine hK _ _ ab (fun _ => Still.vv ?_)
   clear hK K
   clear hHeld
   go_wp2
   refine bodyPost_ret (xfy Tryz.results98 _ _ (w.heap.size + 2) (w.heap.size + 3) _ _ _ rfl rfl rfl (run_loadVar_row _ _ 77 _ (Cel.cs c (.slice ao' xs.length cap')) (0, 0) _ (Rw.row_other (Rw.row (w := World.drew wc) H.out.r2 _) _ om) Tryz.underlying77 rfl xac) (run_loadVar_row _ _ 167 _ (Wnt.cs xa0) (0, 0) _ (Rw.row (Rw.row_other (w := World.drew wc) H.out.r3 _ om) _) Tryz.underlying167 rfl xag)) rfl ⟨_, by rw [HST.out]; rfl, by rw [HST.out]; exact xau (xan (xan (w := World.drew wc) H.out.rn.own _ (fun e => by have := xab H.out.rn.own _ e; have := H.out.b4; omega)) _ (fun e => by have := xab H.out.rn.own _ e; have := H.out.b4; omega)) (by have := H.out.b4; omega), xaa (xaa H.out.rn.d.drew om _) om _⟩
open Go.RowKit Go.Sort Go.Shelf
attribute [local go_sem] Oper.semAt_some
def xfz : Int -> List Slt -> Int
 | e, [] => e
 | e, t :: r => xfz (e + t.tk) r
theorem xkd : ∀ (l : List Slt) (e : Int) (t : Slt), xfz e (l ++ [t]) = xfz e l + t.tk
 | [], e, t => rfl
 | x :: r, e, t => by rw [List.cons_append, xfz, xfz, xkd r]
def xb2 : Int -> List Slt -> List (Int × Int)
 | _, [] => []
 | e, t :: r => (t.pt, e + t.tk) :: xb2 (e + t.tk) r
theorem xkx : ∀ (l : List Slt) (e : Int) (t : Slt), xb2 e (l ++ [t]) = xb2 e l ++ [(t.pt, xfz e l + t.tk)]
 | [], e, t => rfl
 | x :: r, e, t => by rw [List.cons_append, xb2, xkx r, xb2, xfz]; rfl
theorem xmw : ∀ (l : List Slt) (e : Int), (xb2 e l).length = l.length
 | [], e => rfl
 | x :: r, e => by rw [xb2, List.length_cons, xmw r]; rfl
def SlotsOk (ts : List Slt) : Prop := ts.length <= 6 /\ ∀ j (h : j < ts.length), 1 <= ts[j].tk /\ ts[j].tk <= 8
theorem xsa (h : SlotsOk ts) : ∀ k, k <= ts.length -> (k : Int) <= xfz 0 (ts.take k) /\ xfz 0 (ts.take k) <= 8 * k
 | 0, _ => by simp [xfz]
 | k + 1, hk => by
  have ih := xsa h k om
  have ht := h.2 k om
  rw [List.take_succ_eq_append_getElem om, xkd]
  omega
theorem xzo (F : Fence) (n : Nat) (hf : F.fn 213) (hro : F.round = none) (hn : 1 <= n) (l Bs n₀ b off cap : Nat) (ts : List Slt) (hts : SlotsOk ts) (hb : b < n₀) (J Jx : List (Int × Int) -> World -> Prop) (W : World) (hW : n₀ <= W.heap.size) (hJ : AbidesFrom W.heap.size J)
  (hY : ∀ pre x W, J pre W -> pre.length < ts.length -> YieldAt F (n - 1) Tryz.prog l #[.int .i64 x.1, .int .i64 x.2] W fun e W' =>
   (e = .returned (.bool true) /\ J (pre ++ [x]) W' /\ Below n₀ W W') \/ (e = .returned (.bool false) /\ Jx (pre ++ [x]) W'))
  (hBs : W.cell? ⟨Bs, 0, none⟩ = some (.slice (some ⟨b, off, none⟩) ts.length cap)) (hc : ∀ j u, (xbe slC ts)[j]? = some u -> W.cell? ⟨b, off + j, none⟩ = some u) (h0 : J [] W) :
  CallsIn F n Tryz.prog 213 #[.func (.yield l) #[] #[], .pointer (some ⟨Bs, 0, none⟩)] W fun e W' => (∃ v, e = .returned v) /\
   ((∃ ys, ys = xb2 0 ts /\ J ys W') \/ (∃ pre, (∃ k, k <= ts.length /\ pre = xb2 0 (ts.take k)) /\ Jx pre W')) := by
 have HC := hd hc
 have HJ := hd hJ
 have HT := hd hts
 have HY := hd hY
 have hl6 := hts.1
 clear hc hJ hts hY
 refine callsIn_of_wp Tryz.func213 rfl hf ?_ hro
 simp only [Tryz.ntmps213, List.size_toArray, List.length_cons, List.length_nil, Nat.reduceAdd, Nat.reduceSub, Array.replicate_succ, Array.replicate_zero, List.push_toArray, List.append_toArray, List.nil_append, List.cons_append]
 gi_wp2
 gi_loopw [3, 8] (fun e i wr => ∃ k : Nat, k <= ts.length /\ i = .int .i64 k /\ e = .int .i64 (xfz 0 (ts.take k)) /\ J (xb2 0 (ts.take k)) wr /\ Below n₀ W wr)
  (fun _ i _ => ts.length - (intOf i).toNat)
 case atStart => exact ⟨0, Nat.zero_le _, rfl, rfl, h0, Below.refl _ _⟩
 case round =>
  obtain ⟨k, hk, rfl, rfl, hJs, hnx⟩ := hrel
  have hbd := xsa HT.out k hk
  by_cases hlt : k < ts.length
  .have htk := HT.out.2 k hlt
   have hli : (k : Int) < ts.length := by omega
   have hJ1 := HJ.out _ _ (wr.alloc (.cells #[.int .i64 ts[k].pt, .int .i64 ts[k].tk] 128)) none hJs (World.grownBy_alloc _ _ _) (fun r e => by cases e)
   obtain ⟨fn, tmps, assign, body, hy, hR⟩ := HY.out _ (ts[k].pt, xfz 0 (ts.take k) + ts[k].tk) _ hJ1 (by rw [xmw, List.length_take]; omega)
   dsimp only at hy
   obtain ⟨c0, c1⟩ := xd9 HC.out k hlt
   have c0 := bcl hnx hb c0
   have c1 := bcl hnx hb c1
   have HSN : Hid (xb2 0 (ts.take (k + 1)) = xb2 0 (ts.take k) ++ [(ts[k].pt, xfz 0 (ts.take k) + ts[k].tk)]) := by
    show _ = _
    rw [List.take_succ_eq_append_getElem hlt, xkx]
   have HSM : Hid (xfz 0 (ts.take (k + 1)) = xfz 0 (ts.take k) + ts[k].tk) := by
    show _ = _
    rw [List.take_succ_eq_append_getElem hlt, xkd]
   have hsz := hnx.size
   gi_wp2
   refine hR.mono ?_
   rintro e W3 (⟨rfl, hJ3, hk3⟩ | ⟨rfl, hJx3⟩)
   .gi_wp2
    go_roundw
    case rel => exact ⟨k + 1, by omega, by go_num, by rw [HSM.out], by rw [HSN.out]; exact hJ3, (hnx.alloc om _).trans hk3⟩
    case measure => simp [intOf]; omega
   .gi_wp2
    refine bodyPost_ret (results_none rfl _ _ _) rfl ?_
    exact ⟨⟨_, rfl⟩, .inr ⟨_, ⟨k + 1, by omega, HSN.out.symm⟩, hJx3⟩⟩
  .obtain rfl : k = ts.length := by omega
   rw [List.take_length] at hJs
   gi_wp2
   go_end0
   exact ⟨⟨_, rfl⟩, .inl ⟨_, rfl, hJs⟩⟩
theorem xta (F : Fence) (n : Nat) (hf : F.fn 182) (hro : F.round = none) (a : Option Addr) (len cap : Nat) (w : World) :
  CallsIn F n Tryz.prog 182 #[.slice a len cap] w fun e w' => e = .returned (.func (.func 213) #[] #[.pointer (some ⟨w.heap.size, 0, none⟩)]) /\ w' = w.alloc (.cells #[.slice a len cap] 37) := by
 refine callsIn_of_wp Tryz.func182 rfl hf ?_ hro
 simp only [Tryz.ntmps182, List.size_toArray, List.length_cons, List.length_nil, Nat.reduceAdd, Nat.reduceSub, Array.replicate_succ, Array.replicate_zero, List.push_toArray, List.append_toArray, List.nil_append, List.cons_append]
 gi_wp2
 go_ret
 exact ⟨rfl, rfl⟩
theorem xj6 (F : Fence) (n : Nat) (hf : F.fn 213) (hro : F.round = none) (hn : 1 <= n) (Bs n₀ b off cap : Nat) (ts : List Slt) (hts : SlotsOk ts) (w : World) (hBs : Bs < w.heap.size) (hn₀ : n₀ <= w.heap.size) (hb : b < n₀)
  (hc : w.cell? ⟨Bs, 0, none⟩ = some (.slice (some ⟨b, off, none⟩) ts.length cap)) (hI : ∀ j u, (xbe slC ts)[j]? = some u -> w.cell? ⟨b, off + j, none⟩ = some u) :
  SeqStopsK F n Tryz.prog 213 #[.pointer (some ⟨Bs, 0, none⟩)] (fun x : Int × Int => #[Value.int .i64 x.1, Value.int .i64 x.2]) (Below n₀) (fun ys => ys = xb2 0 ts)
   (fun pre => ∃ k, k <= ts.length /\ pre = xb2 0 (ts.take k)) ts.length w := fun l J Jx W hW hJ _ hY h0 => by
 have hc' := (hW.cell (p := ⟨Bs, 0, none⟩) hBs).trans hc
 exact xzo F n hf hro hn l Bs n₀ b off cap ts hts hb J Jx W (Nat.le_trans hn₀ hW.size) hJ hY hc' (fun j u hj => bcl hW om (hI j u hj)) h0
attribute [local go_sem] Oper.semAt_some
theorem xmo : ∀ (l m : List Slt) (e : Int), xb2 e (l ++ m) = xb2 e l ++ xb2 (xfz e l) m
 | [], m, e => rfl
 | x :: r, m, e => by rw [List.cons_append, xb2, xmo r, xb2, xfz]; rfl
def xvb (e : Int) : List (Int × Int) -> Int
 | [] => e
 | x :: r => xvb x.2 r
theorem xmj : ∀ (l : List (Int × Int)) (e : Int) (x : Int × Int), xvb e (l ++ [x]) = x.2
 | [], e, x => rfl
 | y :: r, e, x => by rw [List.cons_append, xvb, xmj r]
theorem xj9 : ∀ (l : List Slt) (e : Int), xvb e (xb2 e l) = xfz e l
 | [], e => rfl
 | x :: r, e => by rw [xb2, xvb, xfz, xj9 r]
def xvi (w : Int) : List (Int × Int) -> Int
 | [] => w
 | x :: r => xvi x.1 r
theorem xnb : ∀ (l : List (Int × Int)) (e : Int) (x : Int × Int), xvi e (l ++ [x]) = x.1
 | [], e, x => rfl
 | y :: r, e, x => by rw [List.cons_append, xvi, xnb r]
def xst (tick : Int) : Int -> List (Int × Int) -> Int
 | who, [] => who
 | _, x :: r => if tick < x.2 then x.1 else xst tick x.1 r
theorem xt4 (tick : Int) : ∀ (l : List (Int × Int)) (who : Int), (∀ p ∈ l, p.2 <= tick) -> xst tick who l = xvi who l
 | [], _, _ => rfl
 | x :: r, who, h => by
  rw [xst, if_neg (by have := h x (by simp); omega), xvi]
  exact xt4 tick r x.1 (fun p hp => h p (by simp [hp]))
theorem xo1 (tick : Int) : ∀ (l : List (Int × Int)) (who : Int) (x : Int × Int) (r : List (Int × Int)), (∀ p ∈ l, p.2 <= tick) -> tick < x.2 -> xst tick who (l ++ x :: r) = x.1
 | [], _, x, r, _, hx => by rw [List.nil_append, xst, if_pos hx]
 | y :: l, who, x, r, h, hx => by
  rw [List.cons_append, xst, if_neg (by have := h y (by simp); omega)]
  exact xo1 tick l y.1 x r (fun p hp => h p (by simp [hp])) hx
theorem x1e (F : Fence) (n : Nat) (h3 : F.fn 150) (h5 : F.fn 182) (h7 : F.fn 213) (hro : F.round = none) (hn : 3 <= n) (b off cap : Nat) (ts : List Slt) (hts : SlotsOk ts) (w : World) (hb : b < w.heap.size)
  (hI : ∀ j u, (xbe slC ts)[j]? = some u -> w.cell? ⟨b, off + j, none⟩ = some u) :
  CallsIn F n Tryz.prog 150 #[.slice (some ⟨b, off, none⟩) ts.length cap] w fun e W' => e = .returned (.int .i64 (xfz 0 ts)) /\ Below w.heap.size w W' := by
 have h1 : 1 <= n := by omega
 refine callsIn_of_wp_marks Tryz.func150 rfl h3 ?_ hro
 simp only [Tryz.ntmps150, List.size_toArray, List.length_cons, List.length_nil, Nat.reduceAdd, Nat.reduceSub, Array.replicate_succ, Array.replicate_zero, List.push_toArray, List.append_toArray, List.nil_append, List.cons_append]
 gi_wp2_with (gi_at_call 182; refine (xta F (n - 1) h5 hro _ _ _ _).mono ?_; rintro e w' ⟨rfl, rfl⟩)
 have bS := Boxed.new w 3 (.int .i64 0)
 have bN := Boxed.new (w.alloc (.cells #[.int .i64 0] 3)) 37 (.slice (some ⟨b, off, none⟩) ts.length cap)
 rw [World.size_alloc] at bN
 have hB0 : Below w.heap.size w ((w.alloc (.cells #[.int .i64 0] 3)).alloc (.cells #[.slice (some ⟨b, off, none⟩) ts.length cap] 37)) := ((Below.refl _ w).alloc (Nat.le_refl _) _).alloc (by simp) _
 refine wpIn_rangeFunc_ownG hro h1 (gf := 213) (lb := #[.pointer (some ⟨w.heap.size + 1, 0, none⟩)]) rfl h7 (enters_of Tryz.func213 kr rfl)
  (xj6 F (n - 1) h7 hro om (w.heap.size + 1) w.heap.size b off cap ts hts _ (by simp) so hb bN.cell (fun j u hj => bcl hB0 hb (hI j u hj))) belowK_t (belowK_b so) (Below.refl _ _) (fun _ => rfl)
  (fun pre W => (W.cell? ⟨w.heap.size, 0, none⟩ = some (.int .i64 (xvb 0 pre)) /\ W.frozen? ⟨w.heap.size, 0, none⟩ = false) /\ Below w.heap.size w W)
  (fun _ _ _ => False)
  (OwnFrom.and (Own.from (fun s A B row hs hg hr => ⟨cell_kept hs.1 hg hr, (frozen_kept hs.1 hg hr).trans hs.2⟩) _) (ownFrom_below (Nat.le_refl _) so))
  (fun _ _ _ _ _ hs _ _ => hs)
  ⟨⟨(bS.alloc _).cell, (bS.alloc _).frozen⟩, hB0⟩
  (fun x => { tmps := #[.slice (some ⟨b, off, none⟩) ts.length cap, undef, .int .i64 0, .pointer (some ⟨w.heap.size, 0, none⟩), undef, .int .i64 x.2, .slice (some ⟨b, off, none⟩) ts.length cap, .func (.func 213) #[] #[.pointer (some ⟨w.heap.size + 1, 0, none⟩)], .int .i64 x.1, .int .i64 x.2, undef, undef], defers := [] }) ?assign ?body ?done ?stop
 case assign =>
  intro l x W K hK
  gi_wp2
  exact hK
 case body =>
  rintro l pre x W ⟨⟨hc, hf⟩, hB⟩ _
  gi_wp2
  exact ⟨(KeepsOthers.setCell _ _ _).from _, (Below.refl w.heap.size W).setCell (p := ⟨w.heap.size, 0, none⟩) (Nat.le_refl _) _, ⟨by rw [xmj]; exact World.cell?_setCell_same' _ _ _ (by rw [hc]; rfl), by rw [World.frozen?_setCell]; exact hf⟩, hB.setCell (p := ⟨w.heap.size, 0, none⟩) (Nat.le_refl _) _⟩
 case done =>
  rintro D ys W hD rfl ⟨⟨hc, _⟩, hB⟩ hK
  rw [xj9] at hc
  gi_wp2
  refine ⟨by simp, .inl ⟨_, _, rfl, run_takeDeferred hK, ?_⟩⟩
  exact ⟨_, results_tmp rfl _ _ _, rfl, hB.trans (belowK_b (w := w) (Nat.le_refl _) W D _ _ (by simp at hD; omega) hK rfl rfl)⟩
 case stop =>
  rintro D c pre W _ _ h _
  exact h.elim
theorem x13 (F : Fence) (n : Nat) (h3 : F.fn 149) (h5 : F.fn 182) (h7 : F.fn 213) (hro : F.round = none) (hn : 3 <= n) (b off cap : Nat) (ts : List Slt) (hts : SlotsOk ts) (tick : Int) (w : World) (hb : b < w.heap.size)
  (hI : ∀ j u, (xbe slC ts)[j]? = some u -> w.cell? ⟨b, off + j, none⟩ = some u) :
  CallsIn F n Tryz.prog 149 #[.slice (some ⟨b, off, none⟩) ts.length cap, .int .i64 tick] w fun e W' => e = .returned (.int .i64 (xst tick 0 (xb2 0 ts))) /\ Below w.heap.size w W' := by
 have h1 : 1 <= n := by omega
 refine callsIn_of_wp_marks Tryz.func149 rfl h3 ?_ hro
 simp only [Tryz.ntmps149, List.size_toArray, List.length_cons, List.length_nil, Nat.reduceAdd, Nat.reduceSub, Array.replicate_succ, Array.replicate_zero, List.push_toArray, List.append_toArray, List.nil_append, List.cons_append]
 gi_wp2_with (gi_at_call 182; refine (xta F (n - 1) h5 hro _ _ _ _).mono ?_; rintro e w' ⟨rfl, rfl⟩)
 have bT := Boxed.new w 3 (.int .i64 tick)
 have bS := Boxed.new (w.alloc (.cells #[.int .i64 tick] 3)) 3 (.int .i64 0)
 have bN := Boxed.new ((w.alloc (.cells #[.int .i64 tick] 3)).alloc (.cells #[.int .i64 0] 3)) 37 (.slice (some ⟨b, off, none⟩) ts.length cap)
 rw [World.size_alloc] at bS
 rw [World.size_alloc, World.size_alloc] at bN
 have hB0 : Below w.heap.size w (((w.alloc (.cells #[.int .i64 tick] 3)).alloc (.cells #[.int .i64 0] 3)).alloc (.cells #[.slice (some ⟨b, off, none⟩) ts.length cap] 37)) := (((Below.refl _ w).alloc (Nat.le_refl _) _).alloc (by simp) _).alloc so _
 refine wpIn_rangeFunc_ownG hro h1 (gf := 213) (lb := #[.pointer (some ⟨w.heap.size + 1 + 1, 0, none⟩)]) rfl h7 (enters_of Tryz.func213 kr rfl)
  (xj6 F (n - 1) h7 hro om (w.heap.size + 1 + 1) w.heap.size b off cap ts hts _ (by simp) so hb bN.cell (fun j u hj => bcl hB0 hb (hI j u hj))) belowK_t (belowK_b so) (Below.refl _ _) (fun _ => rfl)
  (fun pre W => ((∀ p ∈ pre, p.2 <= tick) /\ W.cell? ⟨w.heap.size, 0, none⟩ = some (.int .i64 tick) /\ W.cell? ⟨w.heap.size + 1, 0, none⟩ = some (.int .i64 (xvi 0 pre)) /\ W.frozen? ⟨w.heap.size + 1, 0, none⟩ = false) /\ Below w.heap.size w W)
  (fun c pre W => (c = .exit 0 /\ ∃ ini last, pre = ini ++ [last] /\ (∀ p ∈ ini, p.2 <= tick) /\ tick < last.2 /\ W.cell? ⟨w.heap.size + 1, 0, none⟩ = some (.int .i64 last.1)) /\ Below w.heap.size w W)
  (OwnFrom.and (Own.from (fun s A B row hs hg hr => ⟨hs.1, cell_kept hs.2.1 hg hr, cell_kept hs.2.2.1 hg hr, (frozen_kept hs.2.2.1 hg hr).trans hs.2.2.2⟩) _) (ownFrom_below (Nat.le_refl _) so))
  (fun c => OwnFrom.and (Own.from (fun s A B row hs hg hr => by obtain ⟨hc, ini, last, e1, e2, e3, e4⟩ := hs; exact ⟨hc, ini, last, e1, e2, e3, cell_kept e4 hg hr⟩) _) (ownFrom_below (Nat.le_refl _) so))
  ⟨⟨by simp, ((bT.alloc _).alloc _).cell, (bS.alloc _).cell, (bS.alloc _).frozen⟩, hB0⟩
  (fun x => { tmps := #[.slice (some ⟨b, off, none⟩) ts.length cap, .int .i64 tick, undef, .pointer (some ⟨w.heap.size, 0, none⟩), .int .i64 0, .pointer (some ⟨w.heap.size + 1, 0, none⟩), .int .i64 x.1, .int .i64 x.2, .slice (some ⟨b, off, none⟩) ts.length cap, .func (.func 213) #[] #[.pointer (some ⟨w.heap.size + 1 + 1, 0, none⟩)], .int .i64 x.1, .int .i64 x.2, undef, undef, undef, undef, undef], defers := [] }) ?assign ?body ?done ?stop
 case assign =>
  intro l x W K hK
  gi_wp2
  exact hK
 case body =>
  rintro l pre x W ⟨⟨hp, hct, hcr, hfr⟩, hB⟩ _
  have hct' : (W.setCell ⟨w.heap.size + 1, 0, none⟩ (.int .i64 x.1)).cell? ⟨w.heap.size, 0, none⟩ = some (.int .i64 tick) := xlw (Or.inl om) hct
  gi_wp2
  .have hx : tick < x.2 := by assumption
   exact ⟨(KeepsOthers.setCell _ _ _).from _, ⟨rfl, pre, x, rfl, hp, hx, World.cell?_setCell_same' _ _ _ (by rw [hcr]; rfl)⟩, hB.setCell (p := ⟨w.heap.size + 1, 0, none⟩) (by simp) _⟩
  .have hx : x.2 <= tick := by first | assumption | omega
   exact ⟨(KeepsOthers.setCell _ _ _).from _, (Below.refl w.heap.size W).setCell (p := ⟨w.heap.size + 1, 0, none⟩) (by simp) _, ⟨fun p hp' => (List.mem_append.1 hp').elim (hp p) (fun e => by simp at e; subst e; exact hx), hct', by rw [xnb]; exact World.cell?_setCell_same' _ _ _ (by rw [hcr]; rfl), by rw [World.frozen?_setCell]; exact hfr⟩, hB.setCell (p := ⟨w.heap.size + 1, 0, none⟩) (by simp) _⟩
 case done =>
  rintro D ys W hD rfl ⟨⟨hp, hct, hcr, hfr⟩, hB⟩ hK
  rw [<- xt4 tick _ 0 hp] at hcr
  gi_wp2
  refine ⟨by simp, .inl ⟨_, _, rfl, run_takeDeferred hK, ?_⟩⟩
  exact ⟨_, results_tmp rfl _ _ _, rfl, hB.trans (belowK_b (w := w) (Nat.le_refl _) W D _ _ (by simp at hD; omega) hK rfl rfl)⟩
 case stop =>
  rintro D c pre W hD ⟨k, hk, rfl⟩ ⟨⟨rfl, ini, last, e1, e2, e3, hcr⟩, hB⟩ hK
  have he : last.1 = xst tick 0 (xb2 0 ts) := by
   have h := xmo (ts.take k) (ts.drop k) 0
   rw [List.take_append_drop, e1, List.append_assoc] at h
   rw [h]
   exact (xo1 tick ini 0 last _ e2 e3).symm
  rw [he] at hcr
  gi_wp2
  refine ⟨by simp, .inl ⟨_, _, rfl, run_takeDeferred hK, ?_⟩⟩
  exact ⟨_, results_tmp rfl _ _ _, rfl, hB.trans (belowK_b (w := w) (Nat.le_refl _) W D _ _ (by simp at hD; omega) hK rfl rfl)⟩
theorem xxs (ts : List Slt) (v : Value) (w : World) (hts : SlotsOk ts) (h1 : 1 <= ts.length) (hS : Sl w 2 v ts.length (xbe slC ts)) : Calls Tryz.prog 150 #[v] w fun e w' => e = .returned (.int .i64 (xfz 0 ts)) /\ Below w.heap.size w w' := by
 obtain ⟨b, off, cap, rfl, hcap, hb, hc⟩ := hS.open om
 exact (callsIn_wide (n := 3)).1 (x1e Fence.wide 3 trivial trivial trivial rfl (Nat.le_refl _) b off cap ts hts w hb hc)
theorem xyp (ts : List Slt) (v : Value) (tick : Int) (w : World) (hts : SlotsOk ts) (h1 : 1 <= ts.length) (hS : Sl w 2 v ts.length (xbe slC ts)) : Calls Tryz.prog 149 #[v, .int .i64 tick] w fun e w' => e = .returned (.int .i64 (xst tick 0 (xb2 0 ts))) /\ Below w.heap.size w w' := by
 obtain ⟨b, off, cap, rfl, hcap, hb, hc⟩ := hS.open om
 exact (callsIn_wide (n := 3)).1 (x13 Fence.wide 3 trivial trivial trivial rfl (Nat.le_refl _) b off cap ts hts tick w hb hc)
def xir : List Slt -> List Int
 | [] => []
 | t :: r => List.replicate t.tk.toNat t.pt ++ xir r
theorem xo0 : ∀ (l : List Slt) (t : Slt), xir (l ++ [t]) = xir l ++ List.replicate t.tk.toNat t.pt
 | [], t => by simp [xir]
 | x :: r, t => by rw [List.cons_append, xir, xir, xo0 r, List.append_assoc]
theorem xjv : ∀ (l : List Slt) (e : Int), (∀ t ∈ l, 0 <= t.tk) -> xfz e l = e + (xir l).length
 | [], e, _ => by simp [xfz, xir]
 | x :: r, e, h => by
  rw [xfz, xjv r _ (fun t ht => h t (by simp [ht])), xir, List.length_append, List.length_replicate]
  have := h x (by simp)
  omega
theorem xsg : ∀ (l : List Slt) (e who : Int) (x : Nat), (∀ t ∈ l, 0 <= t.tk) -> (hx : x < (xir l).length) -> xst (e + x) who (xb2 e l) = (xir l)[x]
 | t :: r, e, who, x, h, hx => by
  have h0 := h t (by simp)
  simp only [xb2, xst, xir]
  by_cases hlt : x < t.tk.toNat
  .rw [if_pos om, List.getElem_append_left (by simpa using hlt)]
   simp
  .rw [if_neg om, List.getElem_append_right (by simpa using hlt)]
   simp only [xir, List.length_append, List.length_replicate] at hx
   have := xsg r (e + t.tk) t.pt (x - t.tk.toNat) (fun t ht => h t (by simp [ht])) om
   rw [show e + t.tk + ((x - t.tk.toNat : Nat) : Int) = e + x by omega] at this
   rw [this]
   congr 1
   simp
theorem xcu (h : xb3 S = 0) : xbd S = true /\ (∀ j (hj : j < S.parts.length), xd3 S.parts[j].code = 0) /\ S.chans.any xb4 = false /\ xby S = true /\ xg3 S = true := by
 unfold xb3 at h
 split at h
 .omega
 .rename_i h1
  split at h
  .rename_i h2; exact absurd h h2
  .rename_i h2
   split at h
   .omega
   .rename_i h3
    split at h
    .omega
    .rename_i h4
     split at h
     .omega
     .rename_i h5
      exact ⟨by simpa using h1, xhm (by simpa using h2), by simpa using h3, by simpa using h4, by simpa using h5⟩
theorem xn8 (h : xb3 S = 0) : SlotsOk S.slots /\ 1 <= S.slots.length := by
 obtain ⟨h1, -, -, h4, -⟩ := xcu h
 obtain ⟨hc, -⟩ := xe2 h1
 refine ⟨⟨hc.2.2.2.2, fun j hj => ?_⟩, hc.2.2.2.1⟩
 unfold xby at h4
 rw [Bool.and_eq_true, Bool.not_eq_true', Bool.not_eq_true', List.any_eq_false, List.any_eq_false] at h4
 have := h4.2 _ (List.getElem_mem hj)
 unfold xcm xaf at this
 simp at this
 omega
theorem SlotsOk.nonneg (h : SlotsOk ts) : ∀ t ∈ ts, 0 <= t.tk := fun t ht => by
 obtain ⟨j, hj, rfl⟩ := List.getElem_of_mem ht
 have := h.2 j hj; omega
theorem xkm (h : SlotsOk ts) (h1 : 1 <= ts.length) : 1 <= xfz 0 ts /\ xfz 0 ts <= 48 := by
 have := xsa h ts.length (Nat.le_refl _)
 rw [List.take_length] at this
 have := h.1
 omega
def xpp (S : SysD) (tick : Int) : Int := xst (tick % xfz 0 S.slots) 0 (xb2 0 S.slots)
theorem xjn (S : SysD) (hok : SlotsOk S.slots) (h1 : 1 <= S.slots.length) (vp vc vs : Value) (w : World) (hS : Sys w vp vc vs S) :
  Calls Tryz.prog 162 #[.agg #[vp, vc, vs]] w fun e w' => ∃ v, e = .returned v /\ SlN w w' v (xir S.slots).length (xar (xir S.slots)) /\ Below w.heap.size w w' := by
 obtain ⟨i0, hi, hz0, hz1, hz2⟩ := xaj xrd
 obtain ⟨pa, pc, rfl⟩ := hS.p.form
 obtain ⟨ca, cc, rfl⟩ := hS.c.form
 obtain ⟨sb, so, sc, rfl, hsc, hsb, hss⟩ := hS.s.open om
 have HO := hd hok
 have HC := hd hss
 have hl6 := hok.1
 clear hok hss hS
 have hB0 := xci w (.slice pa S.parts.length pc) (.slice ca S.chans.length cc) (.slice (some ⟨sb, so, none⟩) S.slots.length sc) 39 _ rfl
 have hD0 : Below w.heap.size w (w.alloc (.cells #[.slice pa S.parts.length pc, .slice ca S.chans.length cc, .slice (some ⟨sb, so, none⟩) S.slots.length sc] 39)) := (Below.refl _ _).alloc (Nat.le_refl _) _
 have hz : (w.alloc (.cells #[.slice pa S.parts.length pc, .slice ca S.chans.length cc, .slice (some ⟨sb, so, none⟩) S.slots.length sc] 39)).heap.size = w.heap.size + 1 := by simp
 go_enter Tryz.func162, Tryz.ntmps162
 go_wp2
 generalize w.alloc (.cells #[.slice pa S.parts.length pc, .slice ca S.chans.length cc, .slice (some ⟨sb, so, none⟩) S.slots.length sc] 39) = W0 at *
 have HB0 := hd hB0
 have HD0 := hd hD0
 clear hB0 hD0
 go_loopw [3, 4] (fun o i wr => ∃ (k : Nat) (zs : List Int), i = .int .i64 k /\ k <= S.slots.length /\ Hid (zs = xir (S.slots.take k)) /\ zs.length <= 8 * k /\ wr.ownsRow W0.heap.size 3 1 o zs.length (xar zs) /\ Hid (Below W0.heap.size W0 wr)) (fun _ i _ => S.slots.length - (intOf i).toNat)
 case atStart => exact ⟨0, [], rfl, by omega, (show [] = xir (S.slots.take 0) from rfl), Nat.le_refl _, World.ownsRow_nil _ _ _ _, Below.refl _ _⟩
 case round =>
  obtain ⟨k, zs, rfl, hk, HZ, hzl, hown, HT⟩ := hrel
  obtain ⟨oa, oc, rfl⟩ := xaq hown
  have k2 := (HB0.out.up HT.out).s
  by_cases hlt : k < S.slots.length
  .have hli : (k : Int) < S.slots.length := by omega
   obtain ⟨d0, d1⟩ := xd9 HC.out k hlt
   have D0 := hd d0
   have D1 := hd d1
   obtain ⟨m, hm, hm8⟩ : ∃ m : Nat, S.slots[k].tk = m /\ m <= 8 := by
    have := HO.out.2 k hlt
    exact ⟨S.slots[k].tk.toNat, by omega, by omega⟩
   have HM := hd hm
   clear d0 d1 hm
   go_wp2
   go_loopw [3, 5] (fun o i wr => ∃ (t : Nat) (ys : List Int), i = .int .i64 t /\ t <= m /\ Hid (ys = zs ++ List.replicate t S.slots[k].pt) /\ ys.length <= 8 * k + t /\ wr.ownsRow W0.heap.size 3 1 o ys.length (xar ys) /\ Hid (Below W0.heap.size W0 wr)) (fun _ i _ => m - (intOf i).toNat)
   case atStart => exact ⟨0, zs, rfl, by omega, (show zs = zs ++ List.replicate 0 S.slots[k].pt by simp), by omega, hown, HT⟩
   case round =>
    clear hown HT k2
    obtain ⟨t, ys, rfl, ht, HY, hyl, hown, HT⟩ := hrel
    obtain ⟨oa, oc, rfl⟩ := xaq hown
    have k2 := (HB0.out.up HT.out).s
    have hs0 := HD0.out.size
    have d0 := bcl HT.out om (bcl HD0.out hsb D0.out)
    have d1 := bcl HT.out om (bcl HD0.out hsb D1.out)
    rw [HM.out] at d1
    by_cases htt : t < m
    .have hti : (t : Int) < m := by omega
     have hbs := HT.out.size
     go_wp2_with (at_builtin; refine wpList_append_lies _ rfl (.tmp 23) (.tmp 30) 41 rfl W0.heap.size 3 i0 (.int .i64 0) 1 8 Tryz.underlying41 hi hz0 hz1 hz2 rfl (by decide) (.slice oa ys.length oc) ys.length (xar ys) rfl (hown.alloc _) ⟨_, 0, none⟩ 1 1 [.int .i64 S.slots[k].pt] rfl rfl (xhj _ _ 3) (xfe _) (by decide) (by unfold maxLen; omega) om (by simp; omega) _ rfl ?_; intro g cap1 w1 hown1 hgrow hat hglt)
     have R := xlm HT.out hown hown1 hgrow
     have HYY : Hid (ys ++ [S.slots[k].pt] = zs ++ List.replicate (t + 1) S.slots[k].pt) := by
      show _ = _
      rw [HY.out, List.replicate_succ', List.append_assoc]
     clear hown1 hgrow hown hat
     go_wp2
     go_roundw
     case rel => exact ⟨t + 1, ys ++ [S.slots[k].pt], by go_num, by omega, HYY, by simp; omega, R.1, R.2⟩
     case measure => simp [intOf]; omega
    .have hti : ¬ (t : Int) < m := by omega
     obtain rfl : t = m := by omega
     have HZZ : Hid (ys = xir (S.slots.take (k + 1))) := by
      show _ = _
      rw [List.take_succ_eq_append_getElem hlt, xo0, HY.out, HZ.out, HM.out]
      rfl
     go_wp2
     go_roundw
     case rel => exact ⟨k + 1, ys, by go_num, by omega, HZZ, by omega, hown, HT⟩
     case measure => simp [intOf]; omega
  .have hli : ¬ (k : Int) < S.slots.length := by omega
   have HZZ : Hid (zs = xir S.slots) := by
    show _ = _
    have := HZ.out
    rwa [List.take_of_length_le om] at this
   have hs0 := HD0.out.size
   go_wp2
   go_ret
   exact ⟨_, rfl, by rw [<- HZZ.out]; exact xd2 hs0 hown, HD0.out.trans (HT.out.mono hs0)⟩
theorem xqt (S : SysD) (hok : SlotsOk S.slots) (h1 : 1 <= S.slots.length) (vp vc vs : Value) (w : World) (hS : Sys w vp vc vs S) (fr : Int) (hf : xfz 0 S.slots = fr) :
  Calls Tryz.prog 163 #[.agg #[vp, vc, vs]] w fun e w' => e = .returned (.int .i64 fr) /\ Below w.heap.size w w' := by
 have hl : ((xir S.slots).length : Int) = fr := by rw [<- hf, xjv _ 0 hok.nonneg]; omega
 obtain ⟨pa, pc, rfl⟩ := hS.p.form
 obtain ⟨ca, cc, rfl⟩ := hS.c.form
 obtain ⟨sa, sc, rfl⟩ := hS.s.form
 have HS := hd hS
 have HL := hd hl
 have HO := hd hok
 clear hS hl hok hf
 go_enter Tryz.func163, Tryz.ntmps163
 go_wp2_with fail
 refine (xjn S HO.out h1 _ _ _ _ (HS.out.up up0)).mono ?_
 rintro e w1 ⟨v, rfl, s, bb⟩
 obtain ⟨a1, c1, rfl⟩ := s.1.form
 have D := hd (Below.trans (show Below w.heap.size w _ from up0) (bb.mono (by simp)))
 clear s bb
 go_wp2
 go_ret
 exact ⟨xax HL.out, D.out⟩
theorem x6b {a b c d : Int} (h1 : a = b) (h2 : c = d) : Ending.returned (.tuple #[.int .i64 a, .int .i64 c]) = .returned (.tuple #[.int .i64 b, .int .i64 d]) := by rw [h1, h2]
theorem x3u (S : SysD) (vp vc vs : Value) (tick : Int) (w : World) (he : Env w) (hS : Sys w vp vc vs S) (c : Int) (hc : (if xb3 S = 0 then (if tick < 0 then 3 else 0) else xb3 S) = c) (p : Int) (hp : (if c = 0 then xpp S tick else 0) = p) :
  Calls Tryz.prog 97 #[.agg #[vp, vc, vs], .int .i64 tick] w fun e w' => e = .returned (.tuple #[.int .i64 p, .int .i64 c]) /\ Below w.heap.size w w' := by
 obtain ⟨pa, pc, rfl⟩ := hS.p.form
 obtain ⟨ca, cc, rfl⟩ := hS.c.form
 obtain ⟨sa, sc, rfl⟩ := hS.s.form
 have HS := hd hS
 have HC := hd hc
 have HP := hd hp
 generalize hz : xb3 S = z
 have HZ := hd hz
 clear hS hc hp hz
 go_enter Tryz.func97, Tryz.ntmps97
 go_wp2_with fail
 refine (xcc S _ _ _ _ (he.up up0) (HS.out.up up0)).mono ?_
 rw [HZ.out]
 rintro e w1 ⟨rfl, bb⟩
 have hB := (xci w (.slice pa S.parts.length pc) (.slice ca S.chans.length cc) (.slice sa S.slots.length sc) 39 _ rfl).up bb
 have D := hd (Below.trans (show Below w.heap.size w _ from up0) (bb.mono (by simp)))
 have HB := hd hB
 have k2 := HB.out.s
 clear bb hB
 by_cases h0 : z = 0
 .subst h0
  by_cases ht : tick < 0
  .obtain rfl : 3 = c := by have := HC.out; rw [HZ.out, if_pos rfl, if_pos ht] at this; exact this
   obtain rfl : 0 = p := HP.out
   go_wp2
   go_ret2
   exact ⟨rfl, D.out⟩
  .obtain rfl : 0 = c := by have := HC.out; rw [HZ.out, if_pos rfl, if_neg ht] at this; exact this
   have HPP : Hid (xst (tick % xfz 0 S.slots) 0 (xb2 0 S.slots) = p) := HP.out
   have hok := xn8 HZ.out
   have hfp := xkm hok.1 hok.2
   generalize hfr : xfz 0 S.slots = fr
   have HFR := hd hfr
   rw [hfr] at hfp
   have hf1 : 1 <= fr := hfp.1
   have hf2 : fr <= 48 := hfp.2
   have ht0 : 0 <= tick := by omega
   have hne : (fr == 0) = false := by simp; omega
   have HO := hd hok
   clear hfr hfp hok HP HC ht
   go_wp2
   go_region_with (first | (go_at_call 150; refine (xxs S.slots _ _ HO.out.1 HO.out.2 ((HS.out.s.up D.out).up up0)).mono ?_; rw [HFR.out]; rintro e w2 ⟨rfl, bb0⟩; have bb : Below w1.heap.size w1 w2 := Below.trans up0 (bb0.mono (by simp)); clear bb0; have k2' := (HB.out.up bb).s; have D2 := hd (D.out.trans (bb.mono D.out.size)); clear bb) | (go_at_call 149; refine (xyp S.slots _ _ _ HO.out.1 HO.out.2 ((HS.out.s.up D2.out).up up0)).mono ?_; rintro e w3 ⟨rfl, bb0⟩; have bb : Below w2.heap.size w2 w3 := Below.trans up0 (bb0.mono (by simp)); clear bb0; have D3 := hd (D2.out.trans (bb.mono D2.out.size)); clear bb))
   all_goals go_wp2
   all_goals go_ret2
   all_goals exact ⟨x6b (show xst (tick % fr) 0 (xb2 0 S.slots) = p by rw [<- HPP.out, HFR.out]) rfl, D3.out⟩
 .have hz' : (z != 0) = true := by simpa using h0
  obtain rfl : z = c := by have := HC.out; rw [HZ.out, if_neg h0] at this; exact this
  obtain rfl : 0 = p := by have := HP.out; rw [if_neg h0] at this; exact this
  clear h0
  go_wp2
  go_ret2
  exact ⟨rfl, D.out⟩
theorem xtx (hok : SlotsOk S.slots) (h1 : 1 <= S.slots.length) {tick : Int} (ht : 0 <= tick) : ∃ x : Nat, (x : Int) = tick % xfz 0 S.slots /\ ∃ hx : x < (xir S.slots).length, (xir S.slots)[x] = xpp S tick := by
 have hp := xkm hok h1
 have hl := xjv S.slots 0 hok.nonneg
 have ha := Int.emod_nonneg tick (show xfz 0 S.slots ≠ 0 by omega)
 have hb := Int.emod_lt_of_pos tick (show 0 < xfz 0 S.slots by omega)
 refine ⟨(tick % xfz 0 S.slots).toNat, by omega, by omega, ?_⟩
 have := xsg S.slots 0 0 (tick % xfz 0 S.slots).toNat hok.nonneg om
 rw [<- this]
 unfold xpp
 congr 1
 omega
theorem xxj (S : SysD) (hok : SlotsOk S.slots) (h1 : 1 <= S.slots.length) (vp vc vs : Value) (tick : Int) (ht : 0 <= tick) (w : World) (hS : Sys w vp vc vs S) (p : Int) (hp : xpp S tick = p) :
  Calls Tryz.prog 110 #[.agg #[vp, vc, vs], .int .i64 tick] w fun e w' => e = .returned (.int .i64 p) /\ Below w.heap.size w w' := by
 obtain ⟨pa, pc, rfl⟩ := hS.p.form
 obtain ⟨ca, cc, rfl⟩ := hS.c.form
 obtain ⟨sa, sc, rfl⟩ := hS.s.form
 obtain ⟨x, hx, hxl, hxv⟩ := xtx hok h1 ht
 have hfp := xkm hok h1
 have hlen : (xir S.slots).length <= 48 := by have := xjv S.slots 0 hok.nonneg; omega
 generalize hfr : xfz 0 S.slots = fr at hx hfp
 have HFR := hd hfr
 have HX := hd hx
 have HXV : Hid ((xir S.slots)[x] = p) := by show _ = _; rw [hxv, hp]
 have HO := hd hok
 have HS := hd hS
 have hf1 : 1 <= fr := hfp.1
 have hf2 : fr <= 48 := hfp.2
 have hne : (fr == 0) = false := by simp; omega
 have hB := xci w (.slice pa S.parts.length pc) (.slice ca S.chans.length cc) (.slice sa S.slots.length sc) 39 _ rfl
 have HB := hd hB
 generalize hRL : xir S.slots = RL at hxl HXV hlen
 have HRL := hd hRL
 have hxi : (x : Int) < RL.length := by omega
 have hx0 : (0 : Int) <= x := by omega
 have hxm : tick % fr = x := hx.symm
 clear hok hS hp hxv hfr hx hfp hB hRL
 have hD0 : Below w.heap.size w (w.alloc (.cells #[.slice pa S.parts.length pc, .slice ca S.chans.length cc, .slice sa S.slots.length sc] 39)) := (Below.refl _ _).alloc (Nat.le_refl _) _
 have hz : (w.alloc (.cells #[.slice pa S.parts.length pc, .slice ca S.chans.length cc, .slice sa S.slots.length sc] 39)).heap.size = w.heap.size + 1 := by simp
 go_enter Tryz.func110, Tryz.ntmps110
 go_wp2
 generalize w.alloc (.cells #[.slice pa S.parts.length pc, .slice ca S.chans.length cc, .slice sa S.slots.length sc] 39) = W0 at *
 have k0 := HB.out.p
 have k1 := HB.out.c
 have k2 := HB.out.s
 have HS0 := hd (HS.out.up hD0)
 have HD0 := hd hD0
 clear hD0
 go_region_with (first | (go_at_call 162; refine (xjn S HO.out h1 _ _ _ _ (HS0.out.up up0)).mono ?_; rintro e w1 ⟨v, rfl, s, bb0⟩; rw [HRL.out] at s; obtain ⟨g, go, gc, rfl, hgc, hgl, hgcs⟩ := s.1.open om; have bb : Below W0.heap.size W0 w1 := Below.trans up0 (bb0.mono (by simp)); have q1 := hd (hgcs x _ (xgg RL x hxl)); clear hgcs s bb0; have k0' := (HB.out.up bb).p; have k1' := (HB.out.up bb).c; have k2' := (HB.out.up bb).s; have D1 := hd bb; clear bb) | (go_at_call 163; refine (xqt S HO.out h1 _ _ _ _ ((HS0.out.up D1.out).up up0) fr HFR.out).mono ?_; rintro e w2 ⟨rfl, bb0⟩; have bb : Below w1.heap.size w1 w2 := Below.trans up0 (bb0.mono (by simp)); have xc := bcl bb hgl q1.out; have D2 := hd (D1.out.trans (bb.mono D1.out.size)); clear bb bb0))
 all_goals go_wp2
 all_goals go_ret
 all_goals exact ⟨xax HXV.out, HD0.out.trans (D2.out.mono HD0.out.size)⟩
end Go.Proofs.YtbkdoohhdkahiaaGreatDoor

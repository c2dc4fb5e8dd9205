/- A runner's step. -/
import Derived.Test.YtbkdoohhdkahiaaGreatDoorK10
import Derived.Deep.MidRow
import Derived.Deep.CutRange
import Derived.RangeFuncNested
import Derived.RangeFuncBound
import Derived.RangeFuncCalls
import Derived.RangeFuncLeaves
import Derived.RangeFuncBox
import Derived.Shelf.Abstract
import Derived.Shelf.RegionOpen
import Derived.WalkKit
import Derived.OwnWalkIn
import Derived.TacticsInMore
import Derived.LoopNIn
import Derived.LoopIn
import Derived.Test.YtbkdoohhdkahiaaGreatDoorK3
namespace Go.Proofs.YtbkdoohhdkahiaaGreatDoor
set_option linter.unusedSimpArgs false
set_option linter.unusedVariables false
open Go.RowKit Go.Sort
theorem ent_fetch : Enters 186 := enters Tryz.func186 (by kernel_rfl) (by kernel_rfl)
theorem ent_do : Enters 185 := enters Tryz.func185 (by kernel_rfl) (by kernel_rfl)
theorem Rn.up {B : Nat} {w W W' : World} {g base : Nat} {c : Cel} {o i : Value} {x : Wnt} {xs : List Int} (h : Rn B w W g base c o i x xs) (hb : Below W.heap.size W W') : Rn B w W' g base c o i x xs :=
  ⟨h.r.up hb h.lt, h.d.trans (hb.mono (Nat.le_of_lt (Nat.lt_of_le_of_lt h.g0 h.lt))), own_up h.own hb (own_lt h.own), h.g0, h.b0, h.no, Nat.le_trans h.bs hb.size⟩
theorem leaves_tmps {P : Program} {fn : Func} {tmps tmps' : Array Value} {R : Ending → World → Prop} (h : ∀ w', (results fn tmps).run P w' = (results fn tmps').run P w') : ∀ (ds : List Deferred) (u : FrameMode) (w : World), Leaves P fn tmps R ds u w → Leaves P fn tmps' R ds u w
  | [], .returning, w, hl => by
    obtain ⟨v, h1, h2⟩ := hl
    exact ⟨v, (h w).symm.trans h1, h2⟩
  | [], .panicking _, _, hl => hl
  | [], .run, _, hl => hl
  | d :: ds, u, w, hl => by
    obtain ⟨h0, fv, cap, f, args, h1, h2, h3⟩ := hl
    refine ⟨h0, fv, cap, f, args, h1, h2, h3.mono ?_⟩
    rintro (v | ch | _) u' w' hq
    · exact leaves_tmps h ds _ _ hq
    · exact leaves_tmps h ds _ _ hq
    · exact hq
theorem step_panic {R : Ending → World → Prop} (dst : Option Tmp) (v : Value) (ch : List PanicEntry) (a : Act) (w : World) (h : bodyPostD Tryz.prog Tryz.f153 R (.panic ch) (a.put dst v) w) : bodyPostD Tryz.prog Tryz.f153 R (.panic ch) a w := by
  have hd : (a.put dst v).defers = a.defers := by cases dst <;> rfl
  change Leaves _ _ (a.put dst v).tmps R (a.put dst v).defers (.panicking ch) w at h
  change Leaves _ _ a.tmps R a.defers (.panicking ch) w
  rw [hd] at h
  refine leaves_tmps (fun w' => ?_) _ _ _ h
  simp [results, Tryz.results153]
theorem lt_of_cell {w : World} {a : Addr} {v : Value} (h : w.cell? a = some v) : a.block < w.heap.size := block_lt_of_cell h
set_option maxRecDepth 100000 in
set_option maxHeartbeats 4000000 in
theorem step_any (l : List Ins) (hl : firstE l = 0) (B : Nat) (w W : World) (g base : Nat) (c : Cel) (o iv v : Value) (x : Wnt) (xs inn : List Int) (hat0 : 0 ≤ c.at_) (hat1 : c.at_ ≤ 20) (hr0 : 0 ≤ c.read) (hr1 : c.read ≤ 12) (hx : xs.length ≤ 16)
    (hC : Sl W 4 v l.length (codeC l)) (hS : Sl W 1 iv inn.length (ints inn)) (h : Rn B w W g base c o iv x xs) :
    Calls Tryz.prog 153 #[.pointer (some ⟨g, 0, none⟩), v] W fun e W' => e = .returned (.tuple #[]) ∧ ∃ o', Rn B w W' g base (runC l inn xs c x).1 o' iv (runC l inn xs c x).2.2 (runC l inn xs c x).2.1 := by
  have hmf : ∀ (fn : Fn) (first cap : Array Value) (w : World), (Instr.makeFunc fn first cap).run Tryz.prog w = .ok (.func fn first cap) w := fun _ _ _ _ => rfl
  have hg : g < W.heap.size := h.lt
  have H := Lib.hid h
  have HC := Lib.hid hC
  have HS := Lib.hid hS
  have hB : Below W.heap.size W (W.alloc (.cells #[.pointer (some ⟨g, 0, none⟩)] 250)).drew := ((Below.refl _ _).alloc (Nat.le_refl _) _).drew
  have HB := Lib.hid hB
  obtain ⟨n, hn⟩ : ∃ n : Nat, c.at_ = n := ⟨c.at_.toNat, by omega⟩
  clear h hC hS hB
  by_cases hlt : n < l.length
  · have hck : l[n].chk = 0 := firstE_zero hl n hlt
    have hrun : runC l inn xs c x = (doC l[n] inn xs c x).getD ({ c with en := 2 }, xs, x) := by
      unfold runC
      rw [hn, Int.toNat_natCast, List.getElem?_eq_getElem hlt]
    have HR := Lib.hid hrun
    have HN := Lib.hid hn
    clear hrun hl
    go_enter_defers Tryz.func153, Tryz.ntmps153
    go_wp2
    refine region_still (S := fun w' => w'.cell? ⟨W.heap.size, 0, none⟩ = some (.pointer (some ⟨g, 0, none⟩))) 4 (by kernel_rfl) ((Rw.new W 250 _ rfl).cell rfl) (fun hHeld => ?_)
    refine Still.takeBy (i := 0) [] (v := ?v1) (by kernel_rfl) (by kernel_rfl) rfl (by kernel_rfl) (by kernel_rfl) (by kernel_rfl) (fun ch a w h => step_panic _ _ ch a w h) (Or.inl ⟨by rfl, ?y1⟩) hHeld ?r1
    case y1 => (intro w' hSw; (try dsimp only at hSw); go_simp; try with_reducible rfl)
    simp only [Act.put, List.getElem_toArray, List.getElem_cons_zero, List.getElem_cons_succ, List.setIfInBounds_toArray, List.set_cons_zero, List.set_cons_succ]
    refine Still.takeBy (i := 1) [3] (v := ?v2) (by kernel_rfl) (by kernel_rfl) rfl (by kernel_rfl) (by kernel_rfl) (by kernel_rfl) (fun ch a w h => step_panic _ _ ch a w h) (Or.inl ⟨by rfl, ?y2⟩) hHeld ?r2
    case y2 => (intro w' hSw; (try dsimp only at hSw); go_simp; try with_reducible rfl)
    simp only [Act.put, List.getElem_toArray, List.getElem_cons_zero, List.getElem_cons_succ, List.setIfInBounds_toArray, List.set_cons_zero, List.set_cons_succ]
    refine Still.takeBy (i := 2) [3] (v := ?v3) (by kernel_rfl) (by kernel_rfl) rfl (by kernel_rfl) (by kernel_rfl) (by kernel_rfl) (fun ch a w h => step_panic _ _ ch a w h) (Or.inl ⟨by rfl, ?y3⟩) hHeld ?r3
    case y3 => (intro w' hSw; (try dsimp only at hSw); go_simp; try with_reducible rfl)
    simp only [Act.put, List.getElem_toArray, List.getElem_cons_zero, List.getElem_cons_succ, List.setIfInBounds_toArray, List.set_cons_zero, List.set_cons_succ]
    refine Still.o 3 rfl rfl (fun K hK => ?_)
    refine wp_call 186 _ _ rfl ent_fetch #[.pointer (some ⟨g, 0, none⟩), v] (by first | rfl | simp [Act.eval, Act.put]) ((fetch_ok _ g l v n hlt (by rw [← HN.out]; exact (H.out.up HB.out).r.cell rfl) (H.out.up HB.out).lt (HC.out.up HB.out)).mono ?_)
    rintro e V ⟨rfl, hb⟩
    have hq : V.cell? ⟨W.heap.size, 0, none⟩ = some (.pointer (some ⟨g, 0, none⟩)) := bcl hb (by simp) ((Rw.new W 250 _ rfl).cell rfl)
    have HBB : Hid (Below W.heap.size W V) := HB.out.trans (hb.mono (by simp))
    refine ⟨_, rfl, hK _ _ (fun _ => hq) (fun _ => ?_)⟩
    clear hK K hb
    try simp only [Act.put, List.getElem_toArray, List.getElem_cons_zero, List.getElem_cons_succ, List.setIfInBounds_toArray, List.set_cons_zero, List.set_cons_succ]
    refine Still.o 4 rfl rfl (fun K hK => ?_)
    refine wp_call_or 185 _ _ rfl ent_do #[.pointer (some ⟨g, 0, none⟩), l[n].v] (by first | rfl | simp [Act.eval, Act.put]) faultE ((do_any l[n] hck B w V g base c o iv x xs inn hat0 hat1 hr0 hr1 hx (HS.out.up HBB.out) (H.out.up HBB.out)).mono ?_)
    rintro e V1 (⟨hd, rfl, hR, hb⟩ | ⟨c', xs', x', o', hd, rfl, hR⟩)
    · refine .inr ⟨rfl, ?_⟩
      clear hK K
      have hq1 := bcl hb (lt_of_cell hq) hq
      have HRR := Lib.hid hR
      have HE : Hid (runC l inn xs c x = ({ c with en := 2 }, xs, x)) := by
        show runC l inn xs c x = _
        rw [HR.out, hd]
        rfl
      clear hR hd hb HR
      refine leaves_cons (f := 184) (args := #[.pointer (some ⟨W.heap.size, 0, none⟩)]) (by simp) (by simp [go_sem]) ?_
      refine (catch_panicking V1 W.heap.size g c.en _ _ [] hq1 (HRR.out.r.cell rfl) (HRR.out.r.fr _)).mono ?_
      rintro e u' V2 ⟨rfl, rfl, rfl⟩
      refine ⟨.tuple #[], by simp [results, Tryz.results153], rfl, ?_⟩
      rw [HE.out]
      exact ⟨o, HRR.out.setEn 2⟩
    · refine .inl ⟨_, rfl, ?_⟩
      refine hK _ _ (fun h => absurd rfl h) (fun _ => ?_)
      clear hK K
      refine Still.over (by kernel_rfl) ?_ _
      have HRR := Lib.hid hR
      have HE : Hid (runC l inn xs c x = (c', xs', x')) := by
        show runC l inn xs c x = _
        rw [HR.out, hd]
        rfl
      clear hR hd HR
      go_wp2
      refine leaves_cons (f := 184) (args := #[.pointer (some ⟨W.heap.size, 0, none⟩)]) (by simp) (by simp [go_sem]) ?_
      refine (catch_idle V1 W.heap.size).mono ?_
      rintro e u' V2 ⟨rfl, rfl, rfl⟩
      refine ⟨.tuple #[], by simp [results, Tryz.results153], rfl, ?_⟩
      rw [HE.out]
      exact ⟨o', HRR.out⟩
  · have hrun : runC l inn xs c x = ({ c with en := 2 }, xs, x) := by
      unfold runC
      rw [hn, Int.toNat_natCast, List.getElem?_eq_none (by omega)]
    have HE := Lib.hid hrun
    have HN := Lib.hid hn
    obtain ⟨ao, cap, rfl⟩ := HC.out.form
    clear hrun hl
    go_enter_defers Tryz.func153, Tryz.ntmps153
    go_wp2
    refine region_still (S := fun w' => w'.cell? ⟨W.heap.size, 0, none⟩ = some (.pointer (some ⟨g, 0, none⟩))) 4 (by kernel_rfl) ((Rw.new W 250 _ rfl).cell rfl) (fun hHeld => ?_)
    refine Still.takeBy (i := 0) [] (v := ?v4) (by kernel_rfl) (by kernel_rfl) rfl (by kernel_rfl) (by kernel_rfl) (by kernel_rfl) (fun ch a w h => step_panic _ _ ch a w h) (Or.inl ⟨by rfl, ?y4⟩) hHeld ?r4
    case y4 => (intro w' hSw; (try dsimp only at hSw); go_simp; try with_reducible rfl)
    simp only [Act.put, List.getElem_toArray, List.getElem_cons_zero, List.getElem_cons_succ, List.setIfInBounds_toArray, List.set_cons_zero, List.set_cons_succ]
    refine Still.takeBy (i := 1) [3] (v := ?v5) (by kernel_rfl) (by kernel_rfl) rfl (by kernel_rfl) (by kernel_rfl) (by kernel_rfl) (fun ch a w h => step_panic _ _ ch a w h) (Or.inl ⟨by rfl, ?y5⟩) hHeld ?r5
    case y5 => (intro w' hSw; (try dsimp only at hSw); go_simp; try with_reducible rfl)
    simp only [Act.put, List.getElem_toArray, List.getElem_cons_zero, List.getElem_cons_succ, List.setIfInBounds_toArray, List.set_cons_zero, List.set_cons_succ]
    refine Still.takeBy (i := 2) [3] (v := ?v6) (by kernel_rfl) (by kernel_rfl) rfl (by kernel_rfl) (by kernel_rfl) (by kernel_rfl) (fun ch a w h => step_panic _ _ ch a w h) (Or.inl ⟨by rfl, ?y6⟩) hHeld ?r6
    case y6 => (intro w' hSw; (try dsimp only at hSw); go_simp; try with_reducible rfl)
    simp only [Act.put, List.getElem_toArray, List.getElem_cons_zero, List.getElem_cons_succ, List.setIfInBounds_toArray, List.set_cons_zero, List.set_cons_succ]
    refine Still.o 3 rfl rfl (fun K hK => ?_)
    refine wp_call_panic 186 _ _ rfl ent_fetch #[.pointer (some ⟨g, 0, none⟩), .slice ao l.length cap] (by first | rfl | simp [Act.eval, Act.put]) faultE ((fetch_bad _ g ao l.length cap n (by omega) (by rw [← HN.out]; exact (H.out.up HB.out).r.cell rfl) (H.out.up HB.out).lt).mono ?_)
    rintro e V1 ⟨rfl, hb⟩
    refine ⟨rfl, ?_⟩
    clear hK K
    have hq1 : V1.cell? ⟨W.heap.size, 0, none⟩ = some (.pointer (some ⟨g, 0, none⟩)) := bcl hb (by simp) ((Rw.new W 250 _ rfl).cell rfl)
    have HRR : Hid (Rn B w V1 g base c o iv x xs) := H.out.up (HB.out.trans (hb.mono (by simp)))
    clear hb
    refine leaves_cons (f := 184) (args := #[.pointer (some ⟨W.heap.size, 0, none⟩)]) (by simp) (by simp [go_sem]) ?_
    refine (catch_panicking V1 W.heap.size g c.en _ _ [] hq1 (HRR.out.r.cell rfl) (HRR.out.r.fr _)).mono ?_
    rintro e u' V2 ⟨rfl, rfl, rfl⟩
    refine ⟨.tuple #[], by simp [results, Tryz.results153], rfl, ?_⟩
    rw [HE.out]
    exact ⟨o, HRR.out.setEn 2⟩
end Go.Proofs.YtbkdoohhdkahiaaGreatDoor
namespace Go.Proofs.YtbkdoohhdkahiaaGreatDoor
set_option linter.unusedSimpArgs false
set_option linter.unusedVariables false
open Go.RowKit Go.Sort
theorem ent_copied : Enters 152 := enters Tryz.func152 (by kernel_rfl) (by kernel_rfl)
theorem build_runner (c : Cel) (o : Value) (a : Option Addr) (n k : Nat) (w : World) : (Instr.build 223 #[(0, .agg (c.cs o)), (1, .slice a n k)]).run Tryz.prog w = .ok (.agg (rcs c o (.slice a n k) wntZ)) w := run_build w _ _ _ (by kernel_rfl)
def Wnt.cs (x : Wnt) : Array Value := #[.int .i64 x.k, .int .i64 x.ch, .int .i64 x.reg, .int .i64 x.flag, .int .i64 x.val]
theorem Wnt.v_cs (x : Wnt) : x.v = .agg x.cs := rfl
theorem sizeRunner : (Tryz.prog.info? 223).map (·.size) = some 22 := by kernel_rfl
theorem load_cell {W : World} {g : Nat} {c : Cel} {o i : Value} {x : Wnt} (h : Rw W g 223 (rcs c o i x)) : (Instr.loadAt 77 (.pointer (some ⟨g, 0, none⟩))).run Tryz.prog W = .ok (.agg (c.cs o)) W := by
  refine run_loadAt_mid W g 0 77 (c.cs o).toList _ (fun j v hj => ?_) Tryz.underlying77 rfl sizeCell
  rw [Nat.zero_add]
  refine h.cell ?_
  have hj' : j < 16 := by have := (List.getElem?_eq_some_iff.1 hj).1; simpa [Cel.cs] using this
  have : j = 0 ∨ j = 1 ∨ j = 2 ∨ j = 3 ∨ j = 4 ∨ j = 5 ∨ j = 6 ∨ j = 7 ∨ j = 8 ∨ j = 9 ∨ j = 10 ∨ j = 11 ∨ j = 12 ∨ j = 13 ∨ j = 14 ∨ j = 15 := by omega
  rcases this with rfl | rfl | rfl | rfl | rfl | rfl | rfl | rfl | rfl | rfl | rfl | rfl | rfl | rfl | rfl | rfl <;> exact hj
theorem load_want {W : World} {g : Nat} {c : Cel} {o i : Value} {x : Wnt} (h : Rw W g 223 (rcs c o i x)) : (Instr.loadAt 167 (.pointer (some ⟨g, 17, none⟩))).run Tryz.prog W = .ok (.agg x.cs) W := by
  refine run_loadAt_mid W g 17 167 x.cs.toList _ (fun j v hj => ?_) Tryz.underlying167 rfl sizeWant
  refine h.cell ?_
  have hj' : j < 5 := by have := (List.getElem?_eq_some_iff.1 hj).1; simpa [Wnt.cs] using this
  have : j = 0 ∨ j = 1 ∨ j = 2 ∨ j = 3 ∨ j = 4 := by omega
  rcases this with rfl | rfl | rfl | rfl | rfl <;> exact hj
theorem Wnt.cs_one (x : Wnt) : x.cs.all (·.oneCell') = true := by
  simp [Wnt.cs]
  simp [Value.oneCell']
theorem rcs_one (c : Cel) (o i : Value) (x : Wnt) (h : o.oneCell' = true) (h' : i.oneCell' = true) : (rcs c o i x).all (·.oneCell') = true := by
  simp [rcs, h, h']
  simp [Value.oneCell']
def stepC (l : List Ins) (inn xs : List Int) (c : Cel) : Cel × List Int × Wnt := if c.en = 0 then runC l inn xs c wntZ else (c, xs, wntZ)
structure Sp (w W : World) (g base : Nat) (c : Cel) (o i : Value) (x : Wnt) (xs : List Int) (v : Value) : Prop where
  rn : Rn w.heap.size w W g base c o i x xs
  r0 : Rw W w.heap.size 43 #[v, i]
  r2 : Rw W (w.heap.size + 2) 77 (celZ.cs (.slice none 0 0))
  r3 : Rw W (w.heap.size + 3) 167 wntZ.cs
  g4 : w.heap.size + 4 ≤ g
  b4 : w.heap.size + 4 ≤ base
set_option maxRecDepth 100000 in
set_option maxHeartbeats 8000000 in
theorem cellStep_ok (l : List Ins) (inn xs : List Int) (v iv ov : Value) (c : Cel) (hl : chkC l = 0) (hi : inn.length ≤ 12) (hf : c.fine xs.length = true) (hr : c.read ≤ inn.length) (w : World) (he : Env w) (hC : Sl w 4 v l.length (codeC l)) (hI : Sl w 1 iv inn.length (ints inn)) (hO : Sl w 1 ov xs.length (ints xs)) :
    Calls Tryz.prog 98 #[partV v iv, c.v ov] w fun e w' => ∃ o', e = .returned (.tuple #[(stepC l inn xs c).1.v o', (stepC l inn xs c).2.2.v, .int .i64 0]) ∧ w'.ownsRow w.heap.size 3 1 o' (stepC l inn xs c).2.1.length (ints (stepC l inn xs c).2.1) ∧ Below w.heap.size w w' := by
  obtain ⟨iao, icap, rfl⟩ := hI.form
  obtain ⟨ao, cap, rfl⟩ := hO.form
  obtain ⟨cao, ccap, rfl⟩ := hC.form
  have hfi := (fine_iff c _).1 hf
  have hE : stepE (chkC l) inn.length true c.read = 0 := by
    unfold stepE
    rw [hl, if_neg (by simp), if_neg (by omega), if_neg (by simp), if_neg (by omega)]
  have hfe : firstE l = 0 := by
    unfold chkC at hl
    split at hl
    · omega
    · exact hl
  have HC := Lib.hid fun w he hS => hE ▸ checkStep_any l (.slice cao l.length ccap) iao inn.length icap c ao xs.length cap (chkC l) rfl true hf w he hS
  have HE := Lib.hid he
  have HS := Lib.hid hC
  have HI := Lib.hid hI
  have HO := Lib.hid hO
  clear hE hf hl he hC hI hO
  rw [Cel.v_cs] at HC
  rw [Cel.v_cs]
  unfold partV at HC
  unfold partV
  go_enter Tryz.func98, Tryz.ntmps98
  go_wp2_with (refine wpList_load_row rfl 77 (.tmp 3) rfl (w.heap.size + 1) rfl 77 (c.cs (.slice ao xs.length cap)) (0, 0) _ (by repeat (first | exact Rw.new _ _ _ (by first | rfl | (simp; done) | omega | (simp; omega)) | refine Rw.alloc ?_ _)) Tryz.underlying77 rfl sizeCell ?_)
  refine (HC.out _ (HE.out.up up0) (HS.out.up up0)).mono ?_
  rintro e W ⟨rfl, b1⟩
  have D : Below w.heap.size w W := by
    refine Below.trans ?_ (b1.mono (by first | omega | (simp; done) | (simp; omega)))
    exact up0
  have z : w.heap.size + 4 ≤ W.heap.size := by have := b1.size; simp at this; omega
  have r0 : Rw W w.heap.size 43 #[.slice cao l.length ccap, .slice iao inn.length icap] := Rw.up (by repeat (first | exact Rw.new _ _ _ (by first | rfl | (simp; done) | omega | (simp; omega)) | refine Rw.alloc ?_ _)) b1 (by first | omega | (simp; done) | (simp; omega))
  have r1 : Rw W (w.heap.size + 1) 77 (c.cs (.slice ao xs.length cap)) := Rw.up (by repeat (first | exact Rw.new _ _ _ (by first | rfl | (simp; done) | omega | (simp; omega)) | refine Rw.alloc ?_ _)) b1 (by first | omega | (simp; done) | (simp; omega))
  have r2 : Rw W (w.heap.size + 2) 77 (celZ.cs (.slice none 0 0)) := Rw.up (by repeat (first | exact Rw.new _ _ _ (by first | rfl | (simp; done) | omega | (simp; omega)) | refine Rw.alloc ?_ _)) b1 (by first | omega | (simp; done) | (simp; omega))
  have r3 : Rw W (w.heap.size + 3) 167 wntZ.cs := Rw.up (by repeat (first | exact Rw.new _ _ _ (by first | rfl | (simp; done) | omega | (simp; omega)) | refine Rw.alloc ?_ _)) b1 (by first | omega | (simp; done) | (simp; omega))
  have R0 := Lib.hid r0
  have R1 := Lib.hid r1
  have R2 := Lib.hid r2
  have R3 := Lib.hid r3
  have HD := Lib.hid D
  clear b1 HC r0 r1 r2 r3 D
  go_wp2
  go_cut [8] from 9 (fun p wc => ∃ g base ao' cap', p = .pointer (some ⟨g, 0, none⟩) ∧ Hid (Sp w wc g base c (.slice ao' xs.length cap') (.slice iao inn.length icap) wntZ xs (.slice cao l.length ccap)))
  case first =>
    refine region_still (S := fun w' => Rw w' (w.heap.size + 1) 77 (c.cs (.slice ao xs.length cap)) ∧ Rw w' w.heap.size 43 #[.slice cao l.length ccap, .slice iao inn.length icap]) 6 (by kernel_rfl) ⟨R1.out, R0.out⟩ (fun hHeld => ?_)
    refine Still.y 0 [] rfl (yields_load rfl _ _ rfl _ (by first | rfl | simp [Act.eval, Act.put]) _ (fun w' hSw => Rw.loadAt hSw.1 Tryz.underlying77 rfl sizeCell)) hHeld ?_
    have hq := fun w' (hSw : (fun w' => Rw w' (w.heap.size + 1) 77 (c.cs (.slice ao xs.length cap)) ∧ Rw w' w.heap.size 43 #[.slice cao l.length ccap, .slice iao inn.length icap]) w') => hSw.2.cell (j := 1) (v := .slice iao inn.length icap) rfl
    refine Still.u 2 [] hHeld hq ?_
    refine Still.u 3 [] hHeld hq ?_
    refine Still.all (rs := [1, 5]) (by kernel_rfl) (by simp) ?_
    refine Still.one (i := 1) rfl rfl (fun K hK => ?_) (Still.one (i := 5) rfl rfl (fun K hK => ?_) (by simp))
    · refine wp_call 152 _ _ rfl ent_copied #[.agg (c.cs (.slice ao xs.length cap))] (by first | rfl | simp [Act.eval, Act.put]) ((copied_any c xs (by omega) _ _ (HO.out.up HD.out.drew)).mono ?_)
      rintro e V ⟨v', rfl, o1, b1⟩
      refine ⟨_, rfl, hK _ _ (fun _ => ⟨hHeld.1.up b1 (by simp; omega), hHeld.2.up b1 (by simp; omega)⟩) (fun hh => ?_)⟩
      have hHeld := hh (by decide)
      clear hK K hh
      rw [Cel.v_cs]
      try simp only [Act.put, List.getElem_toArray, List.getElem_cons_zero, List.getElem_cons_succ, List.setIfInBounds_toArray, List.set_cons_zero, List.set_cons_succ]
      have o1l := own_lt o1
      have o1b := own_block o1
      have z1 := b1.size
      simp at z1 o1b
      obtain ⟨ao', cap', rfl⟩ := own_form o1
      refine Still.y 4 [] rfl (yields_build rfl _ _ rfl #[(0, .agg (c.cs (.slice ao' xs.length cap'))), (1, .slice iao inn.length icap)] (by first | rfl | simp [Act.eval, Act.put]) _ (build_runner c (.slice ao' xs.length cap') iao inn.length icap)) hHeld ?_
      refine Still.o 5 rfl rfl (fun K hK => ?_)
      go_simp
      refine hK _ _ (fun _ => ⟨hHeld.1.alloc _, hHeld.2.alloc _⟩) (fun hh => ?_)
      have hHeld := hh (by decide)
      clear hK K hh
      try simp only [Act.put, List.getElem_toArray, List.getElem_cons_zero, List.getElem_cons_succ, List.setIfInBounds_toArray, List.set_cons_zero, List.set_cons_succ]
      refine Still.o 6 rfl rfl (fun K hK => ?_)
      refine wp_store_row 223 _ _ rfl V.heap.size (rcs c (.slice ao' xs.length cap') (.slice iao inn.length icap) wntZ) (by first | rfl | simp [Act.eval, Act.put]) (by first | rfl | simp [Act.eval, Act.put]) 223 (rcs celZ (.slice none 0 0) (.slice none 0 0) wntZ) (Rw.new V 223 _ rfl) sizeRunner rfl (rcs_one _ _ _ _ rfl rfl) ?_
      refine hK _ _ (fun h => absurd rfl h) (fun _ => ?_)
      clear hK K
      refine Still.over (by kernel_rfl) ?_ _
      have b2 : Below V.heap.size V (V.alloc (.cells (rcs celZ (.slice none 0 0) (.slice none 0 0) wntZ) 223)) := (Below.refl _ _).alloc (Nat.le_refl _) _
      clear hHeld
      go_wp2
      go_meet
      exact ⟨V.heap.size, W.heap.size, ao', cap', rfl, ⟨⟨Rw.row (Rw.new V 223 (rcs celZ (.slice none 0 0) (.slice none 0 0) wntZ) rfl) _, below_row ((HD.out.drew.trans (b1.mono (B' := w.heap.size) (by simp; omega))).trans (b2.mono (by omega))) (by omega) _, own_row (own_up o1 b2 o1l) _ (fun e => by have := o1l _ e; omega), by omega, by omega, fun k e => by have := o1l k e; omega, by simp; omega⟩, Rw.row_other ((Rw.up (w := W.drew) R0.out b1 (by simp; omega)).alloc _) _ (by omega), Rw.row_other ((Rw.up (w := W.drew) R2.out b1 (by simp; omega)).alloc _) _ (by omega), Rw.row_other ((Rw.up (w := W.drew) R3.out b1 (by simp; omega)).alloc _) _ (by omega), by omega, by omega⟩⟩
    · go_simp
      refine hK _ _ (fun _ => ⟨hHeld.1.alloc _, hHeld.2.alloc _⟩) (fun hh => ?_)
      have hHeld := hh (by decide)
      clear hK K hh
      try simp only [Act.put, List.getElem_toArray, List.getElem_cons_zero, List.getElem_cons_succ, List.setIfInBounds_toArray, List.set_cons_zero, List.set_cons_succ]
      refine Still.o 1 rfl rfl (fun K hK => ?_)
      refine wp_call 152 _ _ rfl ent_copied #[.agg (c.cs (.slice ao xs.length cap))] (by first | rfl | simp [Act.eval, Act.put]) ((copied_any c xs (by omega) _ _ (HO.out.up (HD.out.drew.alloc (by simp; omega) _))).mono ?_)
      rintro e V ⟨v', rfl, o1, b1⟩
      refine ⟨_, rfl, hK _ _ (fun _ => ⟨hHeld.1.up b1 (by simp; omega), hHeld.2.up b1 (by simp; omega)⟩) (fun hh => ?_)⟩
      have hHeld := hh (by decide)
      clear hK K hh
      rw [Cel.v_cs]
      try simp only [Act.put, List.getElem_toArray, List.getElem_cons_zero, List.getElem_cons_succ, List.setIfInBounds_toArray, List.set_cons_zero, List.set_cons_succ]
      have o1l := own_lt o1
      have o1b := own_block o1
      have z1 := b1.size
      simp at z1 o1b
      obtain ⟨ao', cap', rfl⟩ := own_form o1
      refine Still.y 4 [] rfl (yields_build rfl _ _ rfl #[(0, .agg (c.cs (.slice ao' xs.length cap'))), (1, .slice iao inn.length icap)] (by first | rfl | simp [Act.eval, Act.put]) _ (build_runner c (.slice ao' xs.length cap') iao inn.length icap)) hHeld ?_
      refine Still.o 6 rfl rfl (fun K hK => ?_)
      have rz : Rw V W.heap.size 223 (rcs celZ (.slice none 0 0) (.slice none 0 0) wntZ) := Rw.up (w := W.drew.alloc _) (Rw.new W.drew 223 _ rfl) b1 (by simp)
      refine wp_store_row 223 _ _ rfl W.heap.size (rcs c (.slice ao' xs.length cap') (.slice iao inn.length icap) wntZ) (by first | rfl | simp [Act.eval, Act.put]) (by first | rfl | simp [Act.eval, Act.put]) 223 (rcs celZ (.slice none 0 0) (.slice none 0 0) wntZ) rz sizeRunner rfl (rcs_one _ _ _ _ rfl rfl) ?_
      refine hK _ _ (fun h => absurd rfl h) (fun _ => ?_)
      clear hK K
      refine Still.over (by kernel_rfl) ?_ _
      clear hHeld
      go_wp2
      go_meet
      exact ⟨W.heap.size, (W.heap.size + 1), ao', cap', rfl, ⟨⟨Rw.row rz _, below_row ((HD.out.drew.alloc (by simp; omega) _).trans (b1.mono (by simp; omega))) (by omega) _, own_row (by simpa using o1) _ (fun e => by have := o1b _ e; omega), by omega, by omega, fun k e => by have := o1b k e; omega, by simp; omega⟩, Rw.row_other (Rw.up (w := W.drew.alloc _) (Rw.alloc (w := W.drew) R0.out _) b1 (by simp; omega)) _ (by omega), Rw.row_other (Rw.up (w := W.drew.alloc _) (Rw.alloc (w := W.drew) R2.out _) b1 (by simp; omega)) _ (by omega), Rw.row_other (Rw.up (w := W.drew.alloc _) (Rw.alloc (w := W.drew) R3.out _) b1 (by simp; omega)) _ (by omega), by omega, by omega⟩⟩
  case rest =>
    obtain ⟨g, base, ao', cap', rfl, H⟩ := hcut
    have k15 : wc.cell? ⟨g, 15, none⟩ = some (.int .i64 c.en) := H.out.rn.r.cell rfl
    have p0 : wc.cell? ⟨w.heap.size, 0, none⟩ = some (.slice cao l.length ccap) := H.out.r0.cell rfl
    obtain ⟨iv, hiv⟩ : ∃ iv, iv = Value.slice iao inn.length icap := ⟨_, rfl⟩
    rw [← hiv] at H HI
    clear R0 R1 R2 R3 HD hiv
    by_cases hen : c.en = 0
    · have HST : Hid (stepC l inn xs c = runC l inn xs c wntZ) := by
        show stepC l inn xs c = _
        unfold stepC
        rw [if_pos hen]
      rw [hen] at k15
      go_wp2_with fail
      refine (step_any l hfe (w.heap.size + 4) wc wc g base c (.slice ao' xs.length cap') iv (.slice cao l.length ccap) wntZ xs inn hfi.1 hfi.2.1 hfi.2.2.1 hfi.2.2.2.1 hfi.2.2.2.2.2.2 (HS.out.up H.out.rn.d) (HI.out.up H.out.rn.d) ⟨H.out.rn.r, Below.refl _ _, H.out.rn.own, H.out.g4, H.out.b4, H.out.rn.no, H.out.rn.bs⟩).mono ?_
      rintro e V ⟨rfl, o', hR⟩
      generalize hrun : runC l inn xs c wntZ = r at hR HST
      obtain ⟨c', xs', x'⟩ := r
      simp only at hR
      obtain ⟨ao2, cap2, rfl⟩ := own_form hR.own
      have H2 : Hid (Sp w V g base c' (.slice ao2 xs'.length cap2) iv x' xs' (.slice cao l.length ccap)) :=
        ⟨⟨hR.r, H.out.rn.d.trans (hR.d.mono (by omega)), hR.own, H.out.rn.g0, H.out.rn.b0, hR.no, hR.bs⟩, H.out.r0.up hR.d (by omega), H.out.r2.up hR.d (by omega), H.out.r3.up hR.d (by omega), H.out.g4, H.out.b4⟩
      clear hR hrun H k15 p0
      go_wp2
      have hg4 := H2.out.g4
      refine region_still (S := fun w' => Rw w' g 223 (rcs c' (.slice ao2 xs'.length cap2) iv x')) 6 (by kernel_rfl) H2.out.rn.r (fun hHeld => ?_)
      refine Still.t 0 [] hHeld ?_
      refine Still.y 1 [] rfl (yields_load rfl _ _ rfl _ (by first | rfl | simp [Act.eval, Act.put]) _ (fun w' hSw => load_cell hSw)) hHeld ?_
      refine Still.t 2 [] hHeld ?_
      refine Still.y 3 [] rfl (yields_load rfl _ _ rfl _ (by first | rfl | simp [Act.eval, Act.put]) _ (fun w' hSw => load_want hSw)) hHeld ?_
      refine Still.o 4 rfl rfl (fun K hK => ?_)
      refine wp_store_row 77 _ _ rfl (w.heap.size + 2) (Cel.cs c' (.slice ao2 xs'.length cap2)) (by first | rfl | simp [Act.eval, Act.put]) (by first | rfl | simp [Act.eval, Act.put]) 77 _ H2.out.r2 sizeCell rfl (Cel.cs_one _ _ rfl) ?_
      refine hK _ _ (fun _ => hHeld.row_other _ (by omega)) (fun _ => ?_)
      clear hK K hHeld
      try simp only [Act.put, List.getElem_toArray, List.getElem_cons_zero, List.getElem_cons_succ, List.setIfInBounds_toArray, List.set_cons_zero, List.set_cons_succ]
      have hHeld : Rw (World.setRow (World.drew V) (w.heap.size + 2) (Cel.cs c' (.slice ao2 xs'.length cap2))) g 223 (rcs c' (.slice ao2 xs'.length cap2) iv x') := Rw.row_other (w := World.drew V) H2.out.rn.r _ (by omega)
      refine Still.o 5 rfl rfl (fun K hK => ?_)
      refine wp_store_row 167 _ _ rfl (w.heap.size + 3) (Wnt.cs x') (by first | rfl | simp [Act.eval, Act.put]) (by first | rfl | simp [Act.eval, Act.put]) 167 _ (Rw.row_other (w := World.drew V) H2.out.r3 _ (by omega)) sizeWant rfl (Wnt.cs_one _) ?_
      refine hK _ _ (fun _ => Rw.row_other hHeld _ (by omega)) (fun _ => ?_)
      clear hK K
      try simp only [Act.put, List.getElem_toArray, List.getElem_cons_zero, List.getElem_cons_succ, List.setIfInBounds_toArray, List.set_cons_zero, List.set_cons_succ]
      refine Still.o 6 rfl rfl (fun K hK => ?_)
      go_simp
      refine hK _ _ (fun h => absurd rfl h) (fun _ => ?_)
      clear hK K
      refine Still.over (by kernel_rfl) ?_ _
      clear hHeld
      go_wp2
      refine bodyPost_ret (results_row2_tmp Tryz.results98 _ _ (w.heap.size + 2) (w.heap.size + 3) _ _ _ rfl rfl rfl (run_loadVar_row _ _ 77 _ (Cel.cs c' (.slice ao2 xs'.length cap2)) (0, 0) _ (Rw.row_other (Rw.row (w := World.drew V) H2.out.r2 _) _ (by omega)) Tryz.underlying77 rfl sizeCell) (run_loadVar_row _ _ 167 _ (Wnt.cs x') (0, 0) _ (Rw.row (Rw.row_other (w := World.drew V) H2.out.r3 _ (by omega)) _) Tryz.underlying167 rfl sizeWant)) rfl ⟨_, by rw [HST.out]; rfl, by rw [HST.out]; exact own_low (own_row (own_row (w := World.drew V) H2.out.rn.own _ (fun e => by have := own_block H2.out.rn.own _ e; have := H2.out.b4; omega)) _ (fun e => by have := own_block H2.out.rn.own _ e; have := H2.out.b4; omega)) (by have := H2.out.b4; omega), below_row (below_row H2.out.rn.d.drew (by omega) _) (by omega) _⟩
    · have hen' : (c.en == 0) = false := by simpa using hen
      have HST : Hid (stepC l inn xs c = (c, xs, wntZ)) := by
        show stepC l inn xs c = _
        unfold stepC
        rw [if_neg hen]
      clear hen p0
      go_wp2
      have hg4 := H.out.g4
      refine region_still (S := fun w' => Rw w' g 223 (rcs c (.slice ao' xs.length cap') iv wntZ)) 6 (by kernel_rfl) H.out.rn.r (fun hHeld => ?_)
      refine Still.t 0 [] hHeld ?_
      refine Still.y 1 [] rfl (yields_load rfl _ _ rfl _ (by first | rfl | simp [Act.eval, Act.put]) _ (fun w' hSw => load_cell hSw)) hHeld ?_
      refine Still.t 2 [] hHeld ?_
      refine Still.y 3 [] rfl (yields_load rfl _ _ rfl _ (by first | rfl | simp [Act.eval, Act.put]) _ (fun w' hSw => load_want hSw)) hHeld ?_
      refine Still.o 4 rfl rfl (fun K hK => ?_)
      refine wp_store_row 77 _ _ rfl (w.heap.size + 2) (Cel.cs c (.slice ao' xs.length cap')) (by first | rfl | simp [Act.eval, Act.put]) (by first | rfl | simp [Act.eval, Act.put]) 77 _ H.out.r2 sizeCell rfl (Cel.cs_one _ _ rfl) ?_
      refine hK _ _ (fun _ => hHeld.row_other _ (by omega)) (fun _ => ?_)
      clear hK K hHeld
      try simp only [Act.put, List.getElem_toArray, List.getElem_cons_zero, List.getElem_cons_succ, List.setIfInBounds_toArray, List.set_cons_zero, List.set_cons_succ]
      have hHeld : Rw (World.setRow (World.drew wc) (w.heap.size + 2) (Cel.cs c (.slice ao' xs.length cap'))) g 223 (rcs c (.slice ao' xs.length cap') iv wntZ) := Rw.row_other (w := World.drew wc) H.out.rn.r _ (by omega)
      refine Still.o 5 rfl rfl (fun K hK => ?_)
      refine wp_store_row 167 _ _ rfl (w.heap.size + 3) (Wnt.cs wntZ) (by first | rfl | simp [Act.eval, Act.put]) (by first | rfl | simp [Act.eval, Act.put]) 167 _ (Rw.row_other (w := World.drew wc) H.out.r3 _ (by omega)) sizeWant rfl (Wnt.cs_one _) ?_
      refine hK _ _ (fun _ => Rw.row_other hHeld _ (by omega)) (fun _ => ?_)
      clear hK K
      try simp only [Act.put, List.getElem_toArray, List.getElem_cons_zero, List.getElem_cons_succ, List.setIfInBounds_toArray, List.set_cons_zero, List.set_cons_succ]
      refine Still.o 6 rfl rfl (fun K hK => ?_)
      go_simp
      refine hK _ _ (fun h => absurd rfl h) (fun _ => ?_)
      clear hK K
      refine Still.over (by kernel_rfl) ?_ _
      clear hHeld
      go_wp2
      refine bodyPost_ret (results_row2_tmp Tryz.results98 _ _ (w.heap.size + 2) (w.heap.size + 3) _ _ _ rfl rfl rfl (run_loadVar_row _ _ 77 _ (Cel.cs c (.slice ao' xs.length cap')) (0, 0) _ (Rw.row_other (Rw.row (w := World.drew wc) H.out.r2 _) _ (by omega)) Tryz.underlying77 rfl sizeCell) (run_loadVar_row _ _ 167 _ (Wnt.cs wntZ) (0, 0) _ (Rw.row (Rw.row_other (w := World.drew wc) H.out.r3 _ (by omega)) _) Tryz.underlying167 rfl sizeWant)) rfl ⟨_, by rw [HST.out]; rfl, by rw [HST.out]; exact own_low (own_row (own_row (w := World.drew wc) H.out.rn.own _ (fun e => by have := own_block H.out.rn.own _ e; have := H.out.b4; omega)) _ (fun e => by have := own_block H.out.rn.own _ e; have := H.out.b4; omega)) (by have := H.out.b4; omega), below_row (below_row H.out.rn.d.drew (by omega) _) (by omega) _⟩
end Go.Proofs.YtbkdoohhdkahiaaGreatDoor
namespace Go.Proofs.YtbkdoohhdkahiaaGreatDoor
set_option linter.unusedSimpArgs false
set_option linter.unusedVariables false
open Go.RowKit Go.Sort Go.Shelf
attribute [local go_sem] Oper.semAt_some
def sumT : Int → List Slt → Int
  | e, [] => e
  | e, t :: r => sumT (e + t.tk) r
theorem sumT_snoc : ∀ (l : List Slt) (e : Int) (t : Slt), sumT e (l ++ [t]) = sumT e l + t.tk
  | [], e, t => rfl
  | x :: r, e, t => by rw [List.cons_append, sumT, sumT, sumT_snoc r]
def turnsL : Int → List Slt → List (Int × Int)
  | _, [] => []
  | e, t :: r => (t.pt, e + t.tk) :: turnsL (e + t.tk) r
theorem turnsL_snoc : ∀ (l : List Slt) (e : Int) (t : Slt), turnsL e (l ++ [t]) = turnsL e l ++ [(t.pt, sumT e l + t.tk)]
  | [], e, t => rfl
  | x :: r, e, t => by rw [List.cons_append, turnsL, turnsL_snoc r, turnsL, sumT]; rfl
theorem turnsL_len : ∀ (l : List Slt) (e : Int), (turnsL e l).length = l.length
  | [], e => rfl
  | x :: r, e => by rw [turnsL, List.length_cons, turnsL_len r]; rfl
def SlotsOk (ts : List Slt) : Prop := ts.length ≤ 6 ∧ ∀ j (h : j < ts.length), 1 ≤ ts[j].tk ∧ ts[j].tk ≤ 8
theorem sumT_bd {ts : List Slt} (h : SlotsOk ts) : ∀ k, k ≤ ts.length → (k : Int) ≤ sumT 0 (ts.take k) ∧ sumT 0 (ts.take k) ≤ 8 * k
  | 0, _ => by simp [sumT]
  | k + 1, hk => by
    have ih := sumT_bd h k (by omega)
    have ht := h.2 k (by omega)
    rw [List.take_succ_eq_append_getElem (by omega), sumT_snoc]
    omega
set_option maxRecDepth 100000 in
set_option maxHeartbeats 2000000 in
theorem turns1_in (F : Fence) (n : Nat) (hf : F.fn 213) (hro : F.round = none) (hn : 1 ≤ n) (l Bs n₀ b off cap : Nat) (ts : List Slt) (hts : SlotsOk ts) (hb : b < n₀) (J Jx : List (Int × Int) → World → Prop) (W : World) (hW : n₀ ≤ W.heap.size) (hJ : AbidesFrom W.heap.size J)
    (hY : ∀ pre x W, J pre W → pre.length < ts.length → YieldAt F (n - 1) Tryz.prog l #[.int .i64 x.1, .int .i64 x.2] W fun e W' =>
      (e = .returned (.bool true) ∧ J (pre ++ [x]) W' ∧ Below n₀ W W') ∨ (e = .returned (.bool false) ∧ Jx (pre ++ [x]) W'))
    (hBs : W.cell? ⟨Bs, 0, none⟩ = some (.slice (some ⟨b, off, none⟩) ts.length cap)) (hc : ∀ j u, (rowC slC ts)[j]? = some u → W.cell? ⟨b, off + j, none⟩ = some u) (h0 : J [] W) :
    CallsIn F n Tryz.prog 213 #[.func (.yield l) #[] #[], .pointer (some ⟨Bs, 0, none⟩)] W fun e W' => (∃ v, e = .returned v) ∧
      ((∃ ys, ys = turnsL 0 ts ∧ J ys W') ∨ (∃ pre, (∃ k, k ≤ ts.length ∧ pre = turnsL 0 (ts.take k)) ∧ Jx pre W')) := by
  have HC := Lib.hid hc
  have HJ := Lib.hid hJ
  have HT := Lib.hid hts
  have HY := Lib.hid hY
  have hl6 := hts.1
  clear hc hJ hts hY
  refine callsIn_of_wp Tryz.func213 rfl hf ?_ hro
  simp only [Tryz.ntmps213, List.size_toArray, List.length_cons, List.length_nil, Nat.reduceAdd, Nat.reduceSub, Array.replicate_succ, Array.replicate_zero, List.push_toArray, List.append_toArray, List.nil_append, List.cons_append]
  gi_wp2
  gi_loopw [3, 8] (fun e i wr => ∃ k : Nat, k ≤ ts.length ∧ i = .int .i64 k ∧ e = .int .i64 (sumT 0 (ts.take k)) ∧ J (turnsL 0 (ts.take k)) wr ∧ Below n₀ W wr)
    (fun _ i _ => ts.length - (intOf i).toNat)
  case atStart => exact ⟨0, Nat.zero_le _, rfl, rfl, h0, Below.refl _ _⟩
  case round =>
    obtain ⟨k, hk, rfl, rfl, hJs, hnx⟩ := hrel
    have hbd := sumT_bd HT.out k hk
    by_cases hlt : k < ts.length
    · have htk := HT.out.2 k hlt
      have hli : (k : Int) < ts.length := by omega
      have hJ1 := HJ.out _ _ (wr.alloc (.cells #[.int .i64 ts[k].pt, .int .i64 ts[k].tk] 128)) none hJs (World.grownBy_alloc _ _ _) (fun r e => by cases e)
      obtain ⟨fn, tmps, assign, body, hy, hR⟩ := HY.out _ (ts[k].pt, sumT 0 (ts.take k) + ts[k].tk) _ hJ1 (by rw [turnsL_len, List.length_take]; omega)
      dsimp only at hy
      obtain ⟨c0, c1⟩ := slot_cells HC.out k hlt
      have c0 := bcl hnx hb c0
      have c1 := bcl hnx hb c1
      have HSN : Hid (turnsL 0 (ts.take (k + 1)) = turnsL 0 (ts.take k) ++ [(ts[k].pt, sumT 0 (ts.take k) + ts[k].tk)]) := by
        show _ = _
        rw [List.take_succ_eq_append_getElem hlt, turnsL_snoc]
      have HSM : Hid (sumT 0 (ts.take (k + 1)) = sumT 0 (ts.take k) + ts[k].tk) := by
        show _ = _
        rw [List.take_succ_eq_append_getElem hlt, sumT_snoc]
      have hsz := hnx.size
      gi_wp2
      refine hR.mono ?_
      rintro e W3 (⟨rfl, hJ3, hk3⟩ | ⟨rfl, hJx3⟩)
      · gi_wp2
        go_roundw
        case rel => exact ⟨k + 1, by omega, by go_num, by rw [HSM.out], by rw [HSN.out]; exact hJ3, (hnx.alloc (by omega) _).trans hk3⟩
        case measure => simp [intOf]; omega
      · gi_wp2
        refine bodyPost_ret (results_none rfl _ _ _) rfl ?_
        exact ⟨⟨_, rfl⟩, .inr ⟨_, ⟨k + 1, by omega, HSN.out.symm⟩, hJx3⟩⟩
    · obtain rfl : k = ts.length := by omega
      rw [List.take_length] at hJs
      gi_wp2
      go_end0
      exact ⟨⟨_, rfl⟩, .inl ⟨_, rfl, hJs⟩⟩
set_option maxHeartbeats 1000000 in
theorem turns_in (F : Fence) (n : Nat) (hf : F.fn 182) (hro : F.round = none) (a : Option Addr) (len cap : Nat) (w : World) :
    CallsIn F n Tryz.prog 182 #[.slice a len cap] w fun e w' => e = .returned (.func (.func 213) #[] #[.pointer (some ⟨w.heap.size, 0, none⟩)]) ∧ w' = w.alloc (.cells #[.slice a len cap] 37) := by
  refine callsIn_of_wp Tryz.func182 rfl hf ?_ hro
  simp only [Tryz.ntmps182, List.size_toArray, List.length_cons, List.length_nil, Nat.reduceAdd, Nat.reduceSub, Array.replicate_succ, Array.replicate_zero, List.push_toArray, List.append_toArray, List.nil_append, List.cons_append]
  gi_wp2
  go_ret
  exact ⟨rfl, rfl⟩
theorem turns_stops (F : Fence) (n : Nat) (hf : F.fn 213) (hro : F.round = none) (hn : 1 ≤ n) (Bs n₀ b off cap : Nat) (ts : List Slt) (hts : SlotsOk ts) (w : World) (hBs : Bs < w.heap.size) (hn₀ : n₀ ≤ w.heap.size) (hb : b < n₀)
    (hc : w.cell? ⟨Bs, 0, none⟩ = some (.slice (some ⟨b, off, none⟩) ts.length cap)) (hI : ∀ j u, (rowC slC ts)[j]? = some u → w.cell? ⟨b, off + j, none⟩ = some u) :
    SeqStopsK F n Tryz.prog 213 #[.pointer (some ⟨Bs, 0, none⟩)] (fun x : Int × Int => #[Value.int .i64 x.1, Value.int .i64 x.2]) (Below n₀) (fun ys => ys = turnsL 0 ts)
      (fun pre => ∃ k, k ≤ ts.length ∧ pre = turnsL 0 (ts.take k)) ts.length w := fun l J Jx W hW hJ _ hY h0 => by
  have hc' := (hW.cell (p := ⟨Bs, 0, none⟩) hBs).trans hc
  exact turns1_in F n hf hro hn l Bs n₀ b off cap ts hts hb J Jx W (Nat.le_trans hn₀ hW.size) hJ hY hc' (fun j u hj => bcl hW (by omega) (hI j u hj)) h0
end Go.Proofs.YtbkdoohhdkahiaaGreatDoor

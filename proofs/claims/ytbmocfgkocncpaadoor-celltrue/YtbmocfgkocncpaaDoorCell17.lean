/- The law CellTrue answers true, whatever it is handed. -/
import Derived.Test.YtbmocfgkocncpaaDoorCellMk
namespace Go.Proofs.YtbmocfgkocncpaaDoor
set_option linter.unusedSimpArgs false
set_option linter.unusedVariables false
open Go.RowKit Go.Sort

theorem build_part (a b : Option Addr) (n k n' k' : Nat) (w : World) : (Instr.build 25 #[(0, .slice a n k), (1, .slice b n' k')]).run Tryd.prog w = .ok (.agg #[.slice a n k, .slice b n' k']) w := run_build w _ _ _ (by kernel_rfl)
theorem part_one (a b : Value) (h : a.oneCell' = true) (h' : b.oneCell' = true) : (#[a, b] : Array Value).all (·.oneCell') = true := by simp [h, h']
theorem sizePart : (Tryd.prog.info? 25).map (·.size) = some 2 := by kernel_rfl
theorem ent_sameInts : Enters 16 := enters Tryd.func16 (by kernel_rfl) (by kernel_rfl)
/-- Where the law stands behind its first step. -/
structure Ft (w W : World) (g7 g8 : Nat) (c d : Cel) (o o1 v u : Value) (x : Wnt) (xs ys : List Int) : Prop where
  dd : Below w.heap.size w W
  r3 : Rw W w.heap.size 25 #[v, u]
  r4 : Rw W (w.heap.size + 1) 29 (c.cs o)
  r7 : Rw W g7 29 (d.cs o1)
  r8 : Rw W g8 31 x.cs
  s1 : Sl W 1 o1 ys.length (ints ys)
  s0 : Sl W 1 o xs.length (ints xs)
theorem Ft.up {w W W' : World} {g7 g8 : Nat} {c d : Cel} {o o1 v u : Value} {x : Wnt} {xs ys : List Int} (h : Ft w W g7 g8 c d o o1 v u x xs ys) (hb : Below W.heap.size W W') : Ft w W' g7 g8 c d o o1 v u x xs ys :=
  ⟨h.dd.trans (hb.mono h.dd.size), h.r3.up hb h.r3.lt, h.r4.up hb h.r4.lt, h.r7.up hb h.r7.lt, h.r8.up hb h.r8.lt, h.s1.up hb, h.s0.up hb⟩
theorem Sl.pre {w : World} {ao : Option Addr} {n cap m : Nat} {zs : List Int} (h : Sl w 1 (.slice ao n cap) n (ints zs)) (hm : m ≤ n) : Sl w 1 (.slice ao m cap) m (ints (zs.take m)) := by
  obtain ⟨h1, ao', cap', e, h3, h4⟩ := h
  injection e with e1 _ e2
  subst e1 e2
  have hl : zs.length = n := by simpa [ints] using h1
  refine ⟨by simp [ints]; omega, ao, cap, rfl, by omega, fun h0 => ?_⟩
  obtain ⟨b, off, e, hb, hc⟩ := h4 (by omega)
  refine ⟨b, off, e, hb, fun j u hj => hc j u ?_⟩
  have hj' : j < m := by have := (List.getElem?_eq_some_iff.1 hj).1; simp [ints] at this; omega
  simp only [ints, List.getElem?_map, List.getElem?_take, hj', if_true] at hj ⊢
  exact hj
set_option maxRecDepth 100000 in
set_option maxHeartbeats 8000000 in
theorem cellTrue_bad (l : List Ins) (inn xs : List Int) (v iv ov : Value) (c : Cel) (n d : Int) (hd : chkC l = d) (f : Bool) (hf : c.fine xs.length = f) (e0 : Int) (he0 : stepE d inn.length f c.read = e0) (hne : e0 ≠ 0) (w : World) (he : Env w) (hC : Sl w 4 v l.length (codeC l)) (hI : Sl w 1 iv inn.length (ints inn)) (hO : Sl w 1 ov xs.length (ints xs)) :
    Calls Tryd.prog 5 #[partV v iv, c.v ov, .int .i64 n] w fun e w' => e = .returned (.bool true) ∧ Below w.heap.size w w' := by
  obtain ⟨iao, icap, rfl⟩ := hI.form
  obtain ⟨ao, cap, rfl⟩ := hO.form
  have hne' : (e0 != 0) = true := by simpa using hne
  have HA := Lib.hid fun w he hS => cellStep_bad l v iao inn.length icap c ao xs.length cap d hd f hf e0 he0 hne w he hS
  have HE := Lib.hid he
  have HS := Lib.hid hC
  obtain ⟨cao, ccap, rfl⟩ := hC.form
  clear hf he0 hne hC he hI hO hd
  rw [Cel.v_cs] at HA
  rw [Cel.v_cs]
  unfold partV at HA
  unfold partV
  go_enter Tryd.func5, Tryd.ntmps5
  go_wp2_with (refine wpList_load_row rfl 29 (.tmp 4) rfl (w.heap.size + 1) rfl 29 (c.cs (.slice ao xs.length cap)) (0, 0) _ (by repeat (first | exact Rw.new _ _ _ (by first | rfl | (simp; done) | omega | (simp; omega)) | refine Rw.alloc ?_ _)) Tryd.underlying29 rfl sizeCell ?_)
  refine (HA.out _ (HE.out.up (by repeat (first | exact Below.refl _ _ | assumption | refine Below.drew ?_ | refine Below.alloc ?_ (by first | (simp; done) | (simp; omega)) _ | refine Below.setCell ?_ (by first | (simp; done) | (simp; omega)) _))) (HS.out.up (by repeat (first | exact Below.refl _ _ | assumption | refine Below.drew ?_ | refine Below.alloc ?_ (by first | (simp; done) | (simp; omega)) _ | refine Below.setCell ?_ (by first | (simp; done) | (simp; omega)) _)))).mono ?_
  rintro e w1 ⟨rfl, b1⟩
  have z1 := b1.size
  simp at z1
  have HD1 : Hid (Below w.heap.size w w1) := by
    refine Below.trans ?_ (b1.mono (by first | omega | (simp; done) | (simp; omega)))
    exact (by repeat (first | exact Below.refl _ _ | assumption | refine Below.drew ?_ | refine Below.alloc ?_ (by first | (simp; done) | (simp; omega)) _ | refine Below.setCell ?_ (by first | (simp; done) | (simp; omega)) _))
  clear b1 HA
  go_wp2_with (first | (refine wpList_store_row rfl 29 (.tmp 7) (.tmp 18) rfl w1.heap.size (celZ.cs (.slice none 0 0)) rfl rfl 29 (celZ.cs (.slice none 0 0)) (by repeat (first | exact Rw.new _ _ _ (by first | rfl | (simp; done) | omega | (simp; omega)) | refine Rw.alloc ?_ _)) sizeCell rfl (Cel.cs_one _ _ (by first | rfl | assumption)) ?_) | (refine wpList_store_rowW rfl 31 (.tmp 8) (.tmp 19) rfl (w1.heap.size + 1) wntZ.cs rfl rfl 31 #[.int .i64 0, .int .i64 0, .int .i64 0, .int .i64 0, .int .i64 0] (Rw.row_other (by repeat (first | exact Rw.new _ _ _ (by first | rfl | (simp; done) | omega | (simp; omega)) | refine Rw.alloc ?_ _)) _ (by omega)) sizeWant rfl (Wnt.cs_one _) ?_))
  intro W2 HW
  have D2 : Below w1.heap.size w1 W2 := by rw [HW.out]; exact below_row (below_row (((Below.refl _ _).alloc (Nat.le_refl _) _).alloc (by simp) _) (Nat.le_refl _) _) (by omega) _
  have r2 : Rw W2 w1.heap.size 29 (celZ.cs (.slice none 0 0)) := by rw [HW.out]; exact Rw.row_other (Rw.row (cs := celZ.cs (.slice none 0 0)) (by repeat (first | exact Rw.new _ _ _ (by first | rfl | (simp; done) | omega | (simp; omega)) | refine Rw.alloc ?_ _)) _) _ (by omega)
  have r2b : Rw W2 (w1.heap.size + 1) 31 wntZ.cs := by rw [HW.out]; exact Rw.row (cs := #[.int .i64 0, .int .i64 0, .int .i64 0, .int .i64 0, .int .i64 0]) (Rw.row_other (by repeat (first | exact Rw.new _ _ _ (by first | rfl | (simp; done) | omega | (simp; omega)) | refine Rw.alloc ?_ _)) _ (by omega)) _
  have hzW2 : W2.heap.size = w1.heap.size + 2 := by rw [HW.out]; simp
  clear HW
  have HD2 := Lib.hid (HD1.out.trans (D2.mono (by omega)))
  clear D2 r2 r2b HD1
  go_wp2_with (go_at_call 9; refine (cellBegun_any _ (HE.out.up HD2.out)).mono ?_; rintro e w3 ⟨rfl, b3⟩)
  go_ret
  exact ⟨rfl, HD2.out.trans (b3.mono HD2.out.size)⟩

set_option maxRecDepth 100000 in
set_option maxHeartbeats 16000000 in
theorem cellTrue_ok (l : List Ins) (inn xs : List Int) (v iv ov : Value) (c : Cel) (n : Int) (hl : chkC l = 0) (hi : inn.length ≤ 12) (hf : c.fine xs.length = true) (hr : c.read ≤ inn.length) (w : World) (he : Env w) (hC : Sl w 4 v l.length (codeC l)) (hI : Sl w 1 iv inn.length (ints inn)) (hO : Sl w 1 ov xs.length (ints xs)) :
    Calls Tryd.prog 5 #[partV v iv, c.v ov, .int .i64 n] w fun e w' => e = .returned (.bool true) ∧ Below w.heap.size w w' := by
  obtain ⟨iao, icap, rfl⟩ := hI.form
  obtain ⟨ao, cap, rfl⟩ := hO.form
  obtain ⟨cao, ccap, rfl⟩ := hC.form
  obtain ⟨f0, f1, f2, f3, f4, f5, f6⟩ := (fine_iff c _).1 hf
  have hG := stepC_goes (l := l) hl hf hr
  have hmore : c.read < inn.length → stepC l (inn ++ [n]) xs c = stepC l inn xs c := fun h => stepC_more l inn xs c n h f2
  have hend : ¬ c.en = 0 → stepC l inn xs c = (c, xs, wntZ) := fun h => by unfold stepC; rw [if_neg h]
  obtain ⟨⟨c', ys, x'⟩, hst⟩ : ∃ r, stepC l inn xs c = r := ⟨_, rfl⟩
  rw [hst] at hG hmore hend
  simp only at hG
  have hfine := hG.fine f2 hi
  obtain ⟨g0, g1, g2, g3, g4, g5, g6, g7, g8, g9⟩ := hG
  have HA := Lib.hid fun w he hC hI hO => cellStep_to l inn xs c c' ys x' hst (.slice cao l.length ccap) (.slice iao inn.length icap) (.slice ao xs.length cap) hl hi hf hr w he hC hI hO
  have HM := Lib.hid fun (hm : c.read < inn.length) (h12 : inn.length < 12) u w he hC hI hO => cellStep_to l (inn ++ [n]) xs c c' ys x' (hmore hm) (.slice cao l.length ccap) u (.slice ao xs.length cap) hl (by simp; omega) hf (by simp; omega) w he hC hI hO
  have hE : c'.err ys.length = 0 := by unfold Cel.err; rw [hfine]; rfl
  have HCK := Lib.hid fun (a : Option Addr) (k : Nat) w => hE ▸ cellCheck_any c' a ys.length k w
  have HE := Lib.hid he
  have HS := Lib.hid hC
  have HI := Lib.hid hI
  have HO := Lib.hid hO
  have HEND := Lib.hid hend
  have HOUT := Lib.hid g7
  have B1 := Lib.hid (show decide ((inn.length : Int) < c'.read) = false from decide_eq_false (by omega))
  have B2 := Lib.hid (show decide (ys.length < xs.length) = false from decide_eq_false (by omega))
  have B2' := Lib.hid (show decide ((ys.length : Int) < xs.length) = false from decide_eq_false (by omega))
  have B3 := Lib.hid (show decide (c'.read < c.read) = false from decide_eq_false (by omega))
  have B5 := Lib.hid (show IntKind.i64.wrap (c.read + 1) = c.read + 1 from by simp [IntKind.wrap, IntKind.bits, IntKind.signed]; omega)
  have B4 := Lib.hid (show decide (c.read + 1 < c'.read) = false from decide_eq_false (by omega))
  clear hf hC he hI hO hst hl hfine hE hmore hend g7
  rw [Cel.v_cs]
  unfold partV
  go_enter Tryd.func5, Tryd.ntmps5
  go_wp2_with (refine wpList_load_row rfl 29 (.tmp 4) rfl (w.heap.size + 1) rfl 29 (c.cs (.slice ao xs.length cap)) (0, 0) _ (by repeat (first | exact Rw.new _ _ _ (by first | rfl | (simp; done) | omega | (simp; omega)) | refine Rw.alloc ?_ _)) Tryd.underlying29 rfl sizeCell ?_)
  refine (HA.out _ (HE.out.up (by repeat (first | exact Below.refl _ _ | assumption | refine Below.drew ?_ | refine Below.alloc ?_ (by first | (simp; done) | (simp; omega)) _ | refine Below.setCell ?_ (by first | (simp; done) | (simp; omega)) _))) (HS.out.up (by repeat (first | exact Below.refl _ _ | assumption | refine Below.drew ?_ | refine Below.alloc ?_ (by first | (simp; done) | (simp; omega)) _ | refine Below.setCell ?_ (by first | (simp; done) | (simp; omega)) _))) (HI.out.up (by repeat (first | exact Below.refl _ _ | assumption | refine Below.drew ?_ | refine Below.alloc ?_ (by first | (simp; done) | (simp; omega)) _ | refine Below.setCell ?_ (by first | (simp; done) | (simp; omega)) _))) (HO.out.up (by repeat (first | exact Below.refl _ _ | assumption | refine Below.drew ?_ | refine Below.alloc ?_ (by first | (simp; done) | (simp; omega)) _ | refine Below.setCell ?_ (by first | (simp; done) | (simp; omega)) _)))).mono ?_
  rintro e w1 ⟨ao1, cp1, rfl, o1, bb1⟩
  have z1 := bb1.size
  simp at z1
  have O1 := Lib.hid (own_sl o1)
  have hcap1 : ys.length ≤ cp1 := by
    obtain ⟨_, _, _, e, h, _⟩ := own_sl o1
    injection e with _ _ e2
    omega
  have R0 : Hid (Rw w1 w.heap.size 25 #[.slice cao l.length ccap, .slice iao inn.length icap]) := Rw.up (by repeat (first | exact Rw.new _ _ _ (by first | rfl | (simp; done) | omega | (simp; omega)) | refine Rw.alloc ?_ _)) bb1 (by first | omega | (simp; done) | (simp; omega))
  have R1 : Hid (Rw w1 (w.heap.size + 1) 29 (c.cs (.slice ao xs.length cap))) := Rw.up (by repeat (first | exact Rw.new _ _ _ (by first | rfl | (simp; done) | omega | (simp; omega)) | refine Rw.alloc ?_ _)) bb1 (by first | omega | (simp; done) | (simp; omega))
  have HD1 : Hid (Below w.heap.size w w1) := by
    refine Below.trans ?_ (bb1.mono (by first | omega | (simp; done) | (simp; omega)))
    exact (by repeat (first | exact Below.refl _ _ | assumption | refine Below.drew ?_ | refine Below.alloc ?_ (by first | (simp; done) | (simp; omega)) _ | refine Below.setCell ?_ (by first | (simp; done) | (simp; omega)) _))
  clear bb1 HA o1
  go_wp2_with (first | (refine wpList_store_row rfl 29 (.tmp 7) (.tmp 18) rfl w1.heap.size (c'.cs (.slice ao1 ys.length cp1)) rfl rfl 29 (celZ.cs (.slice none 0 0)) (by repeat (first | exact Rw.new _ _ _ (by first | rfl | (simp; done) | omega | (simp; omega)) | refine Rw.alloc ?_ _)) sizeCell rfl (Cel.cs_one _ _ (by first | rfl | assumption)) ?_) | (refine wpList_store_rowW rfl 31 (.tmp 8) (.tmp 19) rfl (w1.heap.size + 1) x'.cs rfl rfl 31 #[.int .i64 0, .int .i64 0, .int .i64 0, .int .i64 0, .int .i64 0] (Rw.row_other (by repeat (first | exact Rw.new _ _ _ (by first | rfl | (simp; done) | omega | (simp; omega)) | refine Rw.alloc ?_ _)) _ (by omega)) sizeWant rfl (Wnt.cs_one _) ?_))
  intro W2 HW
  have D2 : Below w1.heap.size w1 W2 := by rw [HW.out]; exact below_row (below_row (((Below.refl _ _).alloc (Nat.le_refl _) _).alloc (by simp) _) (Nat.le_refl _) _) (by omega) _
  have r2 : Rw W2 w1.heap.size 29 (c'.cs (.slice ao1 ys.length cp1)) := by rw [HW.out]; exact Rw.row_other (Rw.row (cs := celZ.cs (.slice none 0 0)) (by repeat (first | exact Rw.new _ _ _ (by first | rfl | (simp; done) | omega | (simp; omega)) | refine Rw.alloc ?_ _)) _) _ (by omega)
  have r2b : Rw W2 (w1.heap.size + 1) 31 x'.cs := by rw [HW.out]; exact Rw.row (cs := #[.int .i64 0, .int .i64 0, .int .i64 0, .int .i64 0, .int .i64 0]) (Rw.row_other (by repeat (first | exact Rw.new _ _ _ (by first | rfl | (simp; done) | omega | (simp; omega)) | refine Rw.alloc ?_ _)) _ (by omega)) _
  have hzW2 : W2.heap.size = w1.heap.size + 2 := by rw [HW.out]; simp
  clear HW
  have hF : Ft w W2 w1.heap.size (w1.heap.size + 1) c c' (.slice ao xs.length cap) (.slice ao1 ys.length cp1) (.slice cao l.length ccap) (.slice iao inn.length icap) x' xs ys :=
    ⟨HD1.out.trans (D2.mono (by omega)), R0.out.up D2 (by omega), R1.out.up D2 (by omega), r2, r2b, O1.out.up D2, HO.out.up (HD1.out.trans (D2.mono (by omega)))⟩
  have HF := Lib.hid hF
  clear hF D2 r2 r2b R0 R1 HD1 O1
  have hc1 : (xs.length : Int) ≤ cp1 := by omega
  have hc2 : ¬ (cp1 : Int) < xs.length := by omega
  go_wp2
  refine region_still (S := fun w' => Ft w w' w1.heap.size (w1.heap.size + 1) c c' (.slice ao xs.length cap) (.slice ao1 ys.length cp1) (.slice cao l.length ccap) (.slice iao inn.length icap) x' xs ys) 46 (by kernel_rfl) (HF.out.up (Below.refl _ _).drew) (fun hHeld => ?_)
  refine Still.takeBy (i := 0) [39, 32, 31, 20, 11, 3, 1] (by kernel_rfl) (by kernel_rfl) rfl (by kernel_rfl) (by kernel_rfl) (by kernel_rfl) (fun _ _ _ h => h) (yields_load rfl _ _ rfl _ (by first | rfl | simp [Act.eval, Act.put]) _ (fun w' hSw => Rw.loadAt hSw.r7 Tryd.underlying29 rfl sizeCell)) hHeld ?r1
  simp only [Act.put, List.getElem_toArray, List.getElem_cons_zero, List.getElem_cons_succ, List.setIfInBounds_toArray, List.set_cons_zero, List.set_cons_succ]
  refine Still.all (rs := [1]) (by kernel_rfl) (by simp) (Still.one (i := 1) rfl rfl (fun K hK => ?_) (by simp))
  refine wp_call 10 _ _ rfl ent_check #[.agg (c'.cs (.slice ao1 ys.length cp1))] (by first | rfl | simp [Act.eval, Act.put]) ((HCK.out ao1 cp1 _).mono ?_)
  rintro e V1 ⟨rfl, bb⟩
  refine ⟨_, rfl, hK _ _ (fun _ => hHeld.up bb) (fun hh => ?_)⟩
  have hHeld := hh (by decide)
  clear hK K hh
  try simp only [Act.put, List.getElem_toArray, List.getElem_cons_zero, List.getElem_cons_succ, List.setIfInBounds_toArray, List.set_cons_zero, List.set_cons_succ]
  clear bb
  refine Still.takeBy (i := 2) [39, 32, 31, 20, 11, 3] (v := ?v2) (by kernel_rfl) (by kernel_rfl) rfl (by kernel_rfl) (by kernel_rfl) (by kernel_rfl) (fun _ _ _ h => h) (Or.inl ⟨by rfl, ?y2⟩) hHeld ?r2
  case y2 => (intro w' hSw; (try dsimp only at hSw); have q1 := hSw.r7.cell (j := 13) (v := .int .i64 c'.read) rfl; have q2 := hSw.r7.cell (j := 14) (v := .slice ao1 ys.length cp1) rfl; have q3 := hSw.r3.cell (j := 1) (v := .slice iao inn.length icap) rfl; have q4 := hSw.r4.cell (j := 13) (v := .int .i64 c.read) rfl; have q5 := hSw.r4.cell (j := 14) (v := .slice ao xs.length cap) rfl; clear hSw; go_simp; (try simp only [B1.out, B2.out, B2'.out, B3.out, B5.out, B4.out]); try with_reducible rfl)
  simp only [Act.put, List.getElem_toArray, List.getElem_cons_zero, List.getElem_cons_succ, List.setIfInBounds_toArray, List.set_cons_zero, List.set_cons_succ]
  refine Still.takeBy (i := 3) [39, 32, 31, 20, 11] (v := ?v3) (by kernel_rfl) (by kernel_rfl) rfl (by kernel_rfl) (by kernel_rfl) (by kernel_rfl) (fun _ _ _ h => h) (Or.inl ⟨by rfl, ?y3⟩) hHeld ?r3
  case y3 => (intro w' hSw; (try dsimp only at hSw); have q1 := hSw.r7.cell (j := 13) (v := .int .i64 c'.read) rfl; have q2 := hSw.r7.cell (j := 14) (v := .slice ao1 ys.length cp1) rfl; have q3 := hSw.r3.cell (j := 1) (v := .slice iao inn.length icap) rfl; have q4 := hSw.r4.cell (j := 13) (v := .int .i64 c.read) rfl; have q5 := hSw.r4.cell (j := 14) (v := .slice ao xs.length cap) rfl; clear hSw; go_simp; (try simp only [B1.out, B2.out, B2'.out, B3.out, B5.out, B4.out]); try with_reducible rfl)
  simp only [Act.put, List.getElem_toArray, List.getElem_cons_zero, List.getElem_cons_succ, List.setIfInBounds_toArray, List.set_cons_zero, List.set_cons_succ]
  refine Still.takeBy (i := 4) [39, 32, 31, 20, 11, 10, 9, 5] (v := ?v4) (by kernel_rfl) (by kernel_rfl) rfl (by kernel_rfl) (by kernel_rfl) (by kernel_rfl) (fun _ _ _ h => h) (Or.inl ⟨by rfl, ?y4⟩) hHeld ?r4
  case y4 => (intro w' hSw; (try dsimp only at hSw); have q1 := hSw.r7.cell (j := 13) (v := .int .i64 c'.read) rfl; have q2 := hSw.r7.cell (j := 14) (v := .slice ao1 ys.length cp1) rfl; have q3 := hSw.r3.cell (j := 1) (v := .slice iao inn.length icap) rfl; have q4 := hSw.r4.cell (j := 13) (v := .int .i64 c.read) rfl; have q5 := hSw.r4.cell (j := 14) (v := .slice ao xs.length cap) rfl; clear hSw; go_simp; (try simp only [B1.out, B2.out, B2'.out, B3.out, B5.out, B4.out]); try with_reducible rfl)
  simp only [Act.put, List.getElem_toArray, List.getElem_cons_zero, List.getElem_cons_succ, List.setIfInBounds_toArray, List.set_cons_zero, List.set_cons_succ]
  refine Still.takeBy (i := 5) [39, 32, 31, 20, 11, 10, 9] (v := ?v5) (by kernel_rfl) (by kernel_rfl) rfl (by kernel_rfl) (by kernel_rfl) (by kernel_rfl) (fun _ _ _ h => h) (Or.inl ⟨by rfl, ?y5⟩) hHeld ?r5
  case y5 => (intro w' hSw; (try dsimp only at hSw); have q1 := hSw.r7.cell (j := 13) (v := .int .i64 c'.read) rfl; have q2 := hSw.r7.cell (j := 14) (v := .slice ao1 ys.length cp1) rfl; have q3 := hSw.r3.cell (j := 1) (v := .slice iao inn.length icap) rfl; have q4 := hSw.r4.cell (j := 13) (v := .int .i64 c.read) rfl; have q5 := hSw.r4.cell (j := 14) (v := .slice ao xs.length cap) rfl; clear hSw; go_simp; (try simp only [B1.out, B2.out, B2'.out, B3.out, B5.out, B4.out]); try with_reducible rfl)
  simp only [Act.put, List.getElem_toArray, List.getElem_cons_zero, List.getElem_cons_succ, List.setIfInBounds_toArray, List.set_cons_zero, List.set_cons_succ]
  refine Still.takeBy (i := 6) [39, 32, 31, 20, 11, 10, 9, 8, 7] (v := ?v6) (by kernel_rfl) (by kernel_rfl) rfl (by kernel_rfl) (by kernel_rfl) (by kernel_rfl) (fun _ _ _ h => h) (Or.inl ⟨by rfl, ?y6⟩) hHeld ?r6
  case y6 => (intro w' hSw; (try dsimp only at hSw); have q1 := hSw.r7.cell (j := 13) (v := .int .i64 c'.read) rfl; have q2 := hSw.r7.cell (j := 14) (v := .slice ao1 ys.length cp1) rfl; have q3 := hSw.r3.cell (j := 1) (v := .slice iao inn.length icap) rfl; have q4 := hSw.r4.cell (j := 13) (v := .int .i64 c.read) rfl; have q5 := hSw.r4.cell (j := 14) (v := .slice ao xs.length cap) rfl; clear hSw; go_simp; (try simp only [B1.out, B2.out, B2'.out, B3.out, B5.out, B4.out]); try with_reducible rfl)
  simp only [Act.put, List.getElem_toArray, List.getElem_cons_zero, List.getElem_cons_succ, List.setIfInBounds_toArray, List.set_cons_zero, List.set_cons_succ]
  refine Still.takeBy (i := 7) [39, 32, 31, 20, 11, 10, 9, 8] (v := ?v7) (by kernel_rfl) (by kernel_rfl) rfl (by kernel_rfl) (by kernel_rfl) (by kernel_rfl) (fun _ _ _ h => h) (Or.inl ⟨by rfl, ?y7⟩) hHeld ?r7
  case y7 => (intro w' hSw; (try dsimp only at hSw); have q1 := hSw.r7.cell (j := 13) (v := .int .i64 c'.read) rfl; have q2 := hSw.r7.cell (j := 14) (v := .slice ao1 ys.length cp1) rfl; have q3 := hSw.r3.cell (j := 1) (v := .slice iao inn.length icap) rfl; have q4 := hSw.r4.cell (j := 13) (v := .int .i64 c.read) rfl; have q5 := hSw.r4.cell (j := 14) (v := .slice ao xs.length cap) rfl; clear hSw; go_simp; (try simp only [B1.out, B2.out, B2'.out, B3.out, B5.out, B4.out]); try with_reducible rfl)
  simp only [Act.put, List.getElem_toArray, List.getElem_cons_zero, List.getElem_cons_succ, List.setIfInBounds_toArray, List.set_cons_zero, List.set_cons_succ]
  refine Still.takeBy (i := 8) [39, 32, 31, 20, 11, 10, 9] (v := ?v8) (by kernel_rfl) (by kernel_rfl) rfl (by kernel_rfl) (by kernel_rfl) (by kernel_rfl) (fun _ _ _ h => h) (Or.inl ⟨by rfl, ?y8⟩) hHeld ?r8
  case y8 => (intro w' hSw; (try dsimp only at hSw); have q1 := hSw.r7.cell (j := 13) (v := .int .i64 c'.read) rfl; have q2 := hSw.r7.cell (j := 14) (v := .slice ao1 ys.length cp1) rfl; have q3 := hSw.r3.cell (j := 1) (v := .slice iao inn.length icap) rfl; have q4 := hSw.r4.cell (j := 13) (v := .int .i64 c.read) rfl; have q5 := hSw.r4.cell (j := 14) (v := .slice ao xs.length cap) rfl; clear hSw; go_simp; (try simp only [B1.out, B2.out, B2'.out, B3.out, B5.out, B4.out]); try with_reducible rfl)
  simp only [Act.put, List.getElem_toArray, List.getElem_cons_zero, List.getElem_cons_succ, List.setIfInBounds_toArray, List.set_cons_zero, List.set_cons_succ]
  refine Still.takeBy (i := 9) [39, 32, 31, 20, 11, 10] (v := ?v9) (by kernel_rfl) (by kernel_rfl) rfl (by kernel_rfl) (by kernel_rfl) (by kernel_rfl) (fun _ _ _ h => h) (Or.inl ⟨by rfl, ?y9⟩) hHeld ?r9
  case y9 => (intro w' hSw; (try dsimp only at hSw); have q1 := hSw.r7.cell (j := 13) (v := .int .i64 c'.read) rfl; have q2 := hSw.r7.cell (j := 14) (v := .slice ao1 ys.length cp1) rfl; have q3 := hSw.r3.cell (j := 1) (v := .slice iao inn.length icap) rfl; have q4 := hSw.r4.cell (j := 13) (v := .int .i64 c.read) rfl; have q5 := hSw.r4.cell (j := 14) (v := .slice ao xs.length cap) rfl; clear hSw; go_simp; (try simp only [B1.out, B2.out, B2'.out, B3.out, B5.out, B4.out]); try with_reducible rfl)
  simp only [Act.put, List.getElem_toArray, List.getElem_cons_zero, List.getElem_cons_succ, List.setIfInBounds_toArray, List.set_cons_zero, List.set_cons_succ]
  refine Still.takeBy (i := 10) [39, 32, 31, 20, 11] (v := ?v10) (by kernel_rfl) (by kernel_rfl) rfl (by kernel_rfl) (by kernel_rfl) (by kernel_rfl) (fun _ _ _ h => h) (Or.inl ⟨by rfl, ?y10⟩) hHeld ?r10
  case y10 => (intro w' hSw; (try dsimp only at hSw); have q1 := hSw.r7.cell (j := 13) (v := .int .i64 c'.read) rfl; have q2 := hSw.r7.cell (j := 14) (v := .slice ao1 ys.length cp1) rfl; have q3 := hSw.r3.cell (j := 1) (v := .slice iao inn.length icap) rfl; have q4 := hSw.r4.cell (j := 13) (v := .int .i64 c.read) rfl; have q5 := hSw.r4.cell (j := 14) (v := .slice ao xs.length cap) rfl; clear hSw; go_simp; (try simp only [B1.out, B2.out, B2'.out, B3.out, B5.out, B4.out]); try with_reducible rfl)
  simp only [Act.put, List.getElem_toArray, List.getElem_cons_zero, List.getElem_cons_succ, List.setIfInBounds_toArray, List.set_cons_zero, List.set_cons_succ]
  refine Still.takeBy (i := 11) [39, 32, 31, 20] (v := ?v11) (by kernel_rfl) (by kernel_rfl) rfl (by kernel_rfl) (by kernel_rfl) (by kernel_rfl) (fun _ _ _ h => h) (Or.inl ⟨by rfl, ?y11⟩) hHeld ?r11
  case y11 => (intro w' hSw; (try dsimp only at hSw); have q1 := hSw.r7.cell (j := 13) (v := .int .i64 c'.read) rfl; have q2 := hSw.r7.cell (j := 14) (v := .slice ao1 ys.length cp1) rfl; have q3 := hSw.r3.cell (j := 1) (v := .slice iao inn.length icap) rfl; have q4 := hSw.r4.cell (j := 13) (v := .int .i64 c.read) rfl; have q5 := hSw.r4.cell (j := 14) (v := .slice ao xs.length cap) rfl; clear hSw; go_simp; (try simp only [B1.out, B2.out, B2'.out, B3.out, B5.out, B4.out]); try with_reducible rfl)
  simp only [Act.put, List.getElem_toArray, List.getElem_cons_zero, List.getElem_cons_succ, List.setIfInBounds_toArray, List.set_cons_zero, List.set_cons_succ]
  refine Still.takeBy (i := 12) [39, 32, 31, 20, 19, 18, 14, 13] (v := ?v12) (by kernel_rfl) (by kernel_rfl) rfl (by kernel_rfl) (by kernel_rfl) (by kernel_rfl) (fun _ _ _ h => h) (Or.inl ⟨by rfl, ?y12⟩) hHeld ?r12
  case y12 => (intro w' hSw; (try dsimp only at hSw); have q1 := hSw.r7.cell (j := 13) (v := .int .i64 c'.read) rfl; have q2 := hSw.r7.cell (j := 14) (v := .slice ao1 ys.length cp1) rfl; have q3 := hSw.r3.cell (j := 1) (v := .slice iao inn.length icap) rfl; have q4 := hSw.r4.cell (j := 13) (v := .int .i64 c.read) rfl; have q5 := hSw.r4.cell (j := 14) (v := .slice ao xs.length cap) rfl; clear hSw; go_simp; (try simp only [B1.out, B2.out, B2'.out, B3.out, B5.out, B4.out]); try with_reducible rfl)
  simp only [Act.put, List.getElem_toArray, List.getElem_cons_zero, List.getElem_cons_succ, List.setIfInBounds_toArray, List.set_cons_zero, List.set_cons_succ]
  refine Still.takeBy (i := 13) [39, 32, 31, 20, 19, 18, 14] (v := ?v13) (by kernel_rfl) (by kernel_rfl) rfl (by kernel_rfl) (by kernel_rfl) (by kernel_rfl) (fun _ _ _ h => h) (Or.inl ⟨by rfl, ?y13⟩) hHeld ?r13
  case y13 => (intro w' hSw; (try dsimp only at hSw); have q1 := hSw.r7.cell (j := 13) (v := .int .i64 c'.read) rfl; have q2 := hSw.r7.cell (j := 14) (v := .slice ao1 ys.length cp1) rfl; have q3 := hSw.r3.cell (j := 1) (v := .slice iao inn.length icap) rfl; have q4 := hSw.r4.cell (j := 13) (v := .int .i64 c.read) rfl; have q5 := hSw.r4.cell (j := 14) (v := .slice ao xs.length cap) rfl; clear hSw; go_simp; (try simp only [B1.out, B2.out, B2'.out, B3.out, B5.out, B4.out]); try with_reducible rfl)
  simp only [Act.put, List.getElem_toArray, List.getElem_cons_zero, List.getElem_cons_succ, List.setIfInBounds_toArray, List.set_cons_zero, List.set_cons_succ]
  refine Still.takeBy (i := 14) [39, 32, 31, 20, 19, 18] (v := ?v14) (by kernel_rfl) (by kernel_rfl) rfl (by kernel_rfl) (by kernel_rfl) (by kernel_rfl) (fun _ _ _ h => h) (Or.inl ⟨by rfl, ?y14⟩) hHeld ?r14
  case y14 => (intro w' hSw; (try dsimp only at hSw); have q1 := hSw.r7.cell (j := 13) (v := .int .i64 c'.read) rfl; have q2 := hSw.r7.cell (j := 14) (v := .slice ao1 ys.length cp1) rfl; have q3 := hSw.r3.cell (j := 1) (v := .slice iao inn.length icap) rfl; have q4 := hSw.r4.cell (j := 13) (v := .int .i64 c.read) rfl; have q5 := hSw.r4.cell (j := 14) (v := .slice ao xs.length cap) rfl; clear hSw; go_simp; (try simp only [B1.out, B2.out, B2'.out, B3.out, B5.out, B4.out]); try with_reducible rfl)
  simp only [Act.put, List.getElem_toArray, List.getElem_cons_zero, List.getElem_cons_succ, List.setIfInBounds_toArray, List.set_cons_zero, List.set_cons_succ]
  refine Still.takeBy (i := 15) [39, 32, 31, 20, 19, 18, 17, 16] (v := ?v15) (by kernel_rfl) (by kernel_rfl) rfl (by kernel_rfl) (by kernel_rfl) (by kernel_rfl) (fun _ _ _ h => h) (Or.inl ⟨by rfl, ?y15⟩) hHeld ?r15
  case y15 => (intro w' hSw; (try dsimp only at hSw); have q1 := hSw.r7.cell (j := 13) (v := .int .i64 c'.read) rfl; have q2 := hSw.r7.cell (j := 14) (v := .slice ao1 ys.length cp1) rfl; have q3 := hSw.r3.cell (j := 1) (v := .slice iao inn.length icap) rfl; have q4 := hSw.r4.cell (j := 13) (v := .int .i64 c.read) rfl; have q5 := hSw.r4.cell (j := 14) (v := .slice ao xs.length cap) rfl; clear hSw; go_simp; (try simp only [B1.out, B2.out, B2'.out, B3.out, B5.out, B4.out]); try with_reducible rfl)
  simp only [Act.put, List.getElem_toArray, List.getElem_cons_zero, List.getElem_cons_succ, List.setIfInBounds_toArray, List.set_cons_zero, List.set_cons_succ]
  refine Still.takeBy (i := 16) [39, 32, 31, 20, 19, 18, 17] (v := ?v16) (by kernel_rfl) (by kernel_rfl) rfl (by kernel_rfl) (by kernel_rfl) (by kernel_rfl) (fun _ _ _ h => h) (Or.inl ⟨by rfl, ?y16⟩) hHeld ?r16
  case y16 => (intro w' hSw; (try dsimp only at hSw); have q1 := hSw.r7.cell (j := 13) (v := .int .i64 c'.read) rfl; have q2 := hSw.r7.cell (j := 14) (v := .slice ao1 ys.length cp1) rfl; have q3 := hSw.r3.cell (j := 1) (v := .slice iao inn.length icap) rfl; have q4 := hSw.r4.cell (j := 13) (v := .int .i64 c.read) rfl; have q5 := hSw.r4.cell (j := 14) (v := .slice ao xs.length cap) rfl; clear hSw; go_simp; (try simp only [B1.out, B2.out, B2'.out, B3.out, B5.out, B4.out]); try with_reducible rfl)
  simp only [Act.put, List.getElem_toArray, List.getElem_cons_zero, List.getElem_cons_succ, List.setIfInBounds_toArray, List.set_cons_zero, List.set_cons_succ]
  refine Still.takeBy (i := 17) [39, 32, 31, 20, 19, 18] (v := ?v17) (by kernel_rfl) (by kernel_rfl) rfl (by kernel_rfl) (by kernel_rfl) (by kernel_rfl) (fun _ _ _ h => h) (Or.inl ⟨by rfl, ?y17⟩) hHeld ?r17
  case y17 => (intro w' hSw; (try dsimp only at hSw); have q1 := hSw.r7.cell (j := 13) (v := .int .i64 c'.read) rfl; have q2 := hSw.r7.cell (j := 14) (v := .slice ao1 ys.length cp1) rfl; have q3 := hSw.r3.cell (j := 1) (v := .slice iao inn.length icap) rfl; have q4 := hSw.r4.cell (j := 13) (v := .int .i64 c.read) rfl; have q5 := hSw.r4.cell (j := 14) (v := .slice ao xs.length cap) rfl; clear hSw; go_simp; (try simp only [B1.out, B2.out, B2'.out, B3.out, B5.out, B4.out]); try with_reducible rfl)
  simp only [Act.put, List.getElem_toArray, List.getElem_cons_zero, List.getElem_cons_succ, List.setIfInBounds_toArray, List.set_cons_zero, List.set_cons_succ]
  refine Still.takeBy (i := 18) [39, 32, 31, 20, 19] (v := ?v18) (by kernel_rfl) (by kernel_rfl) rfl (by kernel_rfl) (by kernel_rfl) (by kernel_rfl) (fun _ _ _ h => h) (Or.inl ⟨by rfl, ?y18⟩) hHeld ?r18
  case y18 => (intro w' hSw; (try dsimp only at hSw); have q1 := hSw.r7.cell (j := 13) (v := .int .i64 c'.read) rfl; have q2 := hSw.r7.cell (j := 14) (v := .slice ao1 ys.length cp1) rfl; have q3 := hSw.r3.cell (j := 1) (v := .slice iao inn.length icap) rfl; have q4 := hSw.r4.cell (j := 13) (v := .int .i64 c.read) rfl; have q5 := hSw.r4.cell (j := 14) (v := .slice ao xs.length cap) rfl; clear hSw; go_simp; (try simp only [B1.out, B2.out, B2'.out, B3.out, B5.out, B4.out]); try with_reducible rfl)
  simp only [Act.put, List.getElem_toArray, List.getElem_cons_zero, List.getElem_cons_succ, List.setIfInBounds_toArray, List.set_cons_zero, List.set_cons_succ]
  refine Still.takeBy (i := 19) [39, 32, 31, 20] (v := ?v19) (by kernel_rfl) (by kernel_rfl) rfl (by kernel_rfl) (by kernel_rfl) (by kernel_rfl) (fun _ _ _ h => h) (Or.inl ⟨by rfl, ?y19⟩) hHeld ?r19
  case y19 => (intro w' hSw; (try dsimp only at hSw); have q1 := hSw.r7.cell (j := 13) (v := .int .i64 c'.read) rfl; have q2 := hSw.r7.cell (j := 14) (v := .slice ao1 ys.length cp1) rfl; have q3 := hSw.r3.cell (j := 1) (v := .slice iao inn.length icap) rfl; have q4 := hSw.r4.cell (j := 13) (v := .int .i64 c.read) rfl; have q5 := hSw.r4.cell (j := 14) (v := .slice ao xs.length cap) rfl; clear hSw; go_simp; (try simp only [B1.out, B2.out, B2'.out, B3.out, B5.out, B4.out]); try with_reducible rfl)
  simp only [Act.put, List.getElem_toArray, List.getElem_cons_zero, List.getElem_cons_succ, List.setIfInBounds_toArray, List.set_cons_zero, List.set_cons_succ]
  refine Still.takeBy (i := 20) [39, 32, 31] (v := ?v20) (by kernel_rfl) (by kernel_rfl) rfl (by kernel_rfl) (by kernel_rfl) (by kernel_rfl) (fun _ _ _ h => h) (Or.inl ⟨by rfl, ?y20⟩) hHeld ?r20
  case y20 => (intro w' hSw; (try dsimp only at hSw); have q1 := hSw.r7.cell (j := 13) (v := .int .i64 c'.read) rfl; have q2 := hSw.r7.cell (j := 14) (v := .slice ao1 ys.length cp1) rfl; have q3 := hSw.r3.cell (j := 1) (v := .slice iao inn.length icap) rfl; have q4 := hSw.r4.cell (j := 13) (v := .int .i64 c.read) rfl; have q5 := hSw.r4.cell (j := 14) (v := .slice ao xs.length cap) rfl; clear hSw; go_simp; (try simp only [B1.out, B2.out, B2'.out, B3.out, B5.out, B4.out]); try with_reducible rfl)
  simp only [Act.put, List.getElem_toArray, List.getElem_cons_zero, List.getElem_cons_succ, List.setIfInBounds_toArray, List.set_cons_zero, List.set_cons_succ]
  refine Still.takeBy (i := 21) [39, 32, 29, 26, 22] (v := ?v21) (by kernel_rfl) (by kernel_rfl) rfl (by kernel_rfl) (by kernel_rfl) (by kernel_rfl) (fun _ _ _ h => h) (Or.inl ⟨by rfl, ?y21⟩) hHeld ?r21
  case y21 => (intro w' hSw; (try dsimp only at hSw); have q1 := hSw.r7.cell (j := 13) (v := .int .i64 c'.read) rfl; have q2 := hSw.r7.cell (j := 14) (v := .slice ao1 ys.length cp1) rfl; have q3 := hSw.r3.cell (j := 1) (v := .slice iao inn.length icap) rfl; have q4 := hSw.r4.cell (j := 13) (v := .int .i64 c.read) rfl; have q5 := hSw.r4.cell (j := 14) (v := .slice ao xs.length cap) rfl; clear hSw; go_simp; (try simp only [B1.out, B2.out, B2'.out, B3.out, B5.out, B4.out]); try with_reducible rfl)
  simp only [Act.put, List.getElem_toArray, List.getElem_cons_zero, List.getElem_cons_succ, List.setIfInBounds_toArray, List.set_cons_zero, List.set_cons_succ]
  refine Still.takeBy (i := 22) [39, 32, 29, 26] (v := ?v22) (by kernel_rfl) (by kernel_rfl) rfl (by kernel_rfl) (by kernel_rfl) (by kernel_rfl) (fun _ _ _ h => h) (Or.inl ⟨by rfl, ?y22⟩) hHeld ?r22
  case y22 => (intro w' hSw; (try dsimp only at hSw); have q1 := hSw.r7.cell (j := 13) (v := .int .i64 c'.read) rfl; have q2 := hSw.r7.cell (j := 14) (v := .slice ao1 ys.length cp1) rfl; have q3 := hSw.r3.cell (j := 1) (v := .slice iao inn.length icap) rfl; have q4 := hSw.r4.cell (j := 13) (v := .int .i64 c.read) rfl; have q5 := hSw.r4.cell (j := 14) (v := .slice ao xs.length cap) rfl; clear hSw; go_simp; (try simp only [B1.out, B2.out, B2'.out, B3.out, B5.out, B4.out]); try with_reducible rfl)
  simp only [Act.put, List.getElem_toArray, List.getElem_cons_zero, List.getElem_cons_succ, List.setIfInBounds_toArray, List.set_cons_zero, List.set_cons_succ]
  refine Still.takeBy (i := 23) [39, 32, 29, 26, 25, 24] (v := ?v23) (by kernel_rfl) (by kernel_rfl) rfl (by kernel_rfl) (by kernel_rfl) (by kernel_rfl) (fun _ _ _ h => h) (Or.inl ⟨by rfl, ?y23⟩) hHeld ?r23
  case y23 => (intro w' hSw; (try dsimp only at hSw); have q1 := hSw.r7.cell (j := 13) (v := .int .i64 c'.read) rfl; have q2 := hSw.r7.cell (j := 14) (v := .slice ao1 ys.length cp1) rfl; have q3 := hSw.r3.cell (j := 1) (v := .slice iao inn.length icap) rfl; have q4 := hSw.r4.cell (j := 13) (v := .int .i64 c.read) rfl; have q5 := hSw.r4.cell (j := 14) (v := .slice ao xs.length cap) rfl; clear hSw; go_simp; (try simp only [B1.out, B2.out, B2'.out, B3.out, B5.out, B4.out]); try with_reducible rfl)
  simp only [Act.put, List.getElem_toArray, List.getElem_cons_zero, List.getElem_cons_succ, List.setIfInBounds_toArray, List.set_cons_zero, List.set_cons_succ]
  refine Still.takeBy (i := 24) [39, 32, 29, 26, 25] (v := ?v24) (by kernel_rfl) (by kernel_rfl) rfl (by kernel_rfl) (by kernel_rfl) (by kernel_rfl) (fun _ _ _ h => h) (Or.inl ⟨by rfl, ?y24⟩) hHeld ?r24
  case y24 => (intro w' hSw; (try dsimp only at hSw); have q1 := hSw.r7.cell (j := 13) (v := .int .i64 c'.read) rfl; have q2 := hSw.r7.cell (j := 14) (v := .slice ao1 ys.length cp1) rfl; have q3 := hSw.r3.cell (j := 1) (v := .slice iao inn.length icap) rfl; have q4 := hSw.r4.cell (j := 13) (v := .int .i64 c.read) rfl; have q5 := hSw.r4.cell (j := 14) (v := .slice ao xs.length cap) rfl; clear hSw; go_simp; (try simp only [B1.out, B2.out, B2'.out, B3.out, B5.out, B4.out]); try with_reducible rfl)
  simp only [Act.put, List.getElem_toArray, List.getElem_cons_zero, List.getElem_cons_succ, List.setIfInBounds_toArray, List.set_cons_zero, List.set_cons_succ]
  refine Still.takeBy (i := 25) [39, 32, 29, 26] (v := ?v25) (by kernel_rfl) (by kernel_rfl) rfl (by kernel_rfl) (by kernel_rfl) (by kernel_rfl) (fun _ _ _ h => h) (Or.inl ⟨by rfl, ?y25⟩) hHeld ?r25
  case y25 => (intro w' hSw; (try dsimp only at hSw); have q1 := hSw.r7.cell (j := 13) (v := .int .i64 c'.read) rfl; have q2 := hSw.r7.cell (j := 14) (v := .slice ao1 ys.length cp1) rfl; have q3 := hSw.r3.cell (j := 1) (v := .slice iao inn.length icap) rfl; have q4 := hSw.r4.cell (j := 13) (v := .int .i64 c.read) rfl; have q5 := hSw.r4.cell (j := 14) (v := .slice ao xs.length cap) rfl; clear hSw; go_simp; (try simp only [B1.out, B2.out, B2'.out, B3.out, B5.out, B4.out]); try with_reducible rfl)
  simp only [Act.put, List.getElem_toArray, List.getElem_cons_zero, List.getElem_cons_succ, List.setIfInBounds_toArray, List.set_cons_zero, List.set_cons_succ]
  refine Still.takeBy (i := 26) [39, 32, 29] (v := ?v26) (by kernel_rfl) (by kernel_rfl) rfl (by kernel_rfl) (by kernel_rfl) (by kernel_rfl) (fun _ _ _ h => h) (Or.inl ⟨by rfl, ?y26⟩) hHeld ?r26
  case y26 => (intro w' hSw; (try dsimp only at hSw); have q1 := hSw.r7.cell (j := 13) (v := .int .i64 c'.read) rfl; have q2 := hSw.r7.cell (j := 14) (v := .slice ao1 ys.length cp1) rfl; have q3 := hSw.r3.cell (j := 1) (v := .slice iao inn.length icap) rfl; have q4 := hSw.r4.cell (j := 13) (v := .int .i64 c.read) rfl; have q5 := hSw.r4.cell (j := 14) (v := .slice ao xs.length cap) rfl; clear hSw; go_simp; (try simp only [B1.out, B2.out, B2'.out, B3.out, B5.out, B4.out]); try with_reducible rfl)
  simp only [Act.put, List.getElem_toArray, List.getElem_cons_zero, List.getElem_cons_succ, List.setIfInBounds_toArray, List.set_cons_zero, List.set_cons_succ]
  refine Still.takeBy (i := 27) [39, 32, 29, 28] (v := ?v27) (by kernel_rfl) (by kernel_rfl) rfl (by kernel_rfl) (by kernel_rfl) (by kernel_rfl) (fun _ _ _ h => h) (Or.inl ⟨by rfl, ?y27⟩) hHeld ?r27
  case y27 => (intro w' hSw; (try dsimp only at hSw); have q1 := hSw.r7.cell (j := 13) (v := .int .i64 c'.read) rfl; have q2 := hSw.r7.cell (j := 14) (v := .slice ao1 ys.length cp1) rfl; have q3 := hSw.r3.cell (j := 1) (v := .slice iao inn.length icap) rfl; have q4 := hSw.r4.cell (j := 13) (v := .int .i64 c.read) rfl; have q5 := hSw.r4.cell (j := 14) (v := .slice ao xs.length cap) rfl; clear hSw; go_simp; (try simp only [B1.out, B2.out, B2'.out, B3.out, B5.out, B4.out]); try with_reducible rfl)
  simp only [Act.put, List.getElem_toArray, List.getElem_cons_zero, List.getElem_cons_succ, List.setIfInBounds_toArray, List.set_cons_zero, List.set_cons_succ]
  refine Still.takeBy (i := 28) [39, 32, 29] (v := ?v28) (by kernel_rfl) (by kernel_rfl) rfl (by kernel_rfl) (by kernel_rfl) (by kernel_rfl) (fun _ _ _ h => h) (Or.inl ⟨by rfl, ?y28⟩) hHeld ?r28
  case y28 => (intro w' hSw; (try dsimp only at hSw); have q1 := hSw.r7.cell (j := 13) (v := .int .i64 c'.read) rfl; have q2 := hSw.r7.cell (j := 14) (v := .slice ao1 ys.length cp1) rfl; have q3 := hSw.r3.cell (j := 1) (v := .slice iao inn.length icap) rfl; have q4 := hSw.r4.cell (j := 13) (v := .int .i64 c.read) rfl; have q5 := hSw.r4.cell (j := 14) (v := .slice ao xs.length cap) rfl; clear hSw; go_simp; (try simp only [B1.out, B2.out, B2'.out, B3.out, B5.out, B4.out]); try with_reducible rfl)
  simp only [Act.put, List.getElem_toArray, List.getElem_cons_zero, List.getElem_cons_succ, List.setIfInBounds_toArray, List.set_cons_zero, List.set_cons_succ]
  refine Still.all (rs := [29]) (by kernel_rfl) (by simp) (Still.oneG (i := 29) rfl (by rfl) (fun K hK => ?_) (by simp))
  refine wp_call 16 _ _ rfl ent_sameInts #[.slice ao1 xs.length cp1, .slice ao xs.length cap] (by first | rfl | simp [Act.eval, Act.put]) ((sameInts_any xs xs _ _ _ (by have := hHeld.s1.pre (m := xs.length) g8; rw [HOUT.out] at this; exact this) hHeld.s0 (by omega) true (by simp)).mono ?_)
  rintro e V2 ⟨rfl, bb⟩
  refine ⟨_, rfl, hK _ _ (fun _ => hHeld.up bb) (fun hh => ?_)⟩
  have hHeld := hh (by decide)
  clear hK K hh
  try simp only [Act.put, List.getElem_toArray, List.getElem_cons_zero, List.getElem_cons_succ, List.setIfInBounds_toArray, List.set_cons_zero, List.set_cons_succ]
  clear bb
  refine Still.takeBy (i := 30) [39, 32, 31] (v := ?v29) (by kernel_rfl) (by kernel_rfl) rfl (by kernel_rfl) (by kernel_rfl) (by kernel_rfl) (fun _ _ _ h => h) (Or.inl ⟨by rfl, ?y29⟩) hHeld ?r29
  case y29 => (intro w' hSw; (try dsimp only at hSw); have q1 := hSw.r7.cell (j := 13) (v := .int .i64 c'.read) rfl; have q2 := hSw.r7.cell (j := 14) (v := .slice ao1 ys.length cp1) rfl; have q3 := hSw.r3.cell (j := 1) (v := .slice iao inn.length icap) rfl; have q4 := hSw.r4.cell (j := 13) (v := .int .i64 c.read) rfl; have q5 := hSw.r4.cell (j := 14) (v := .slice ao xs.length cap) rfl; clear hSw; go_simp; (try simp only [B1.out, B2.out, B2'.out, B3.out, B5.out, B4.out]); try with_reducible rfl)
  simp only [Act.put, List.getElem_toArray, List.getElem_cons_zero, List.getElem_cons_succ, List.setIfInBounds_toArray, List.set_cons_zero, List.set_cons_succ]
  refine Still.takeBy (i := 31) [39, 32] (v := ?v30) (by kernel_rfl) (by kernel_rfl) rfl (by kernel_rfl) (by kernel_rfl) (by kernel_rfl) (fun _ _ _ h => h) (Or.inl ⟨by rfl, ?y30⟩) hHeld ?r30
  case y30 => (intro w' hSw; (try dsimp only at hSw); have q1 := hSw.r7.cell (j := 13) (v := .int .i64 c'.read) rfl; have q2 := hSw.r7.cell (j := 14) (v := .slice ao1 ys.length cp1) rfl; have q3 := hSw.r3.cell (j := 1) (v := .slice iao inn.length icap) rfl; have q4 := hSw.r4.cell (j := 13) (v := .int .i64 c.read) rfl; have q5 := hSw.r4.cell (j := 14) (v := .slice ao xs.length cap) rfl; clear hSw; go_simp; (try simp only [B1.out, B2.out, B2'.out, B3.out, B5.out, B4.out]); try with_reducible rfl)
  simp only [Act.put, List.getElem_toArray, List.getElem_cons_zero, List.getElem_cons_succ, List.setIfInBounds_toArray, List.set_cons_zero, List.set_cons_succ]
  refine Still.takeBy (i := 32) [39] (v := ?v31) (by kernel_rfl) (by kernel_rfl) rfl (by kernel_rfl) (by kernel_rfl) (by kernel_rfl) (fun _ _ _ h => h) (Or.inl ⟨by rfl, ?y31⟩) hHeld ?r31
  case y31 => (intro w' hSw; (try dsimp only at hSw); have q1 := hSw.r7.cell (j := 13) (v := .int .i64 c'.read) rfl; have q2 := hSw.r7.cell (j := 14) (v := .slice ao1 ys.length cp1) rfl; have q3 := hSw.r3.cell (j := 1) (v := .slice iao inn.length icap) rfl; have q4 := hSw.r4.cell (j := 13) (v := .int .i64 c.read) rfl; have q5 := hSw.r4.cell (j := 14) (v := .slice ao xs.length cap) rfl; clear hSw; go_simp; (try simp only [B1.out, B2.out, B2'.out, B3.out, B5.out, B4.out]); try with_reducible rfl)
  simp only [Act.put, List.getElem_toArray, List.getElem_cons_zero, List.getElem_cons_succ, List.setIfInBounds_toArray, List.set_cons_zero, List.set_cons_succ]
  refine Still.takeBy (i := 33) [39, 38, 37, 34] (v := ?v32) (by kernel_rfl) (by kernel_rfl) rfl (by kernel_rfl) (by kernel_rfl) (by kernel_rfl) (fun _ _ _ h => h) (Or.inl ⟨by rfl, ?y32⟩) hHeld ?r32
  case y32 => (intro w' hSw; (try dsimp only at hSw); have q1 := hSw.r7.cell (j := 13) (v := .int .i64 c'.read) rfl; have q2 := hSw.r7.cell (j := 14) (v := .slice ao1 ys.length cp1) rfl; have q3 := hSw.r3.cell (j := 1) (v := .slice iao inn.length icap) rfl; have q4 := hSw.r4.cell (j := 13) (v := .int .i64 c.read) rfl; have q5 := hSw.r4.cell (j := 14) (v := .slice ao xs.length cap) rfl; clear hSw; go_simp; (try simp only [B1.out, B2.out, B2'.out, B3.out, B5.out, B4.out]); try with_reducible rfl)
  simp only [Act.put, List.getElem_toArray, List.getElem_cons_zero, List.getElem_cons_succ, List.setIfInBounds_toArray, List.set_cons_zero, List.set_cons_succ]
  refine Still.takeBy (i := 34) [39, 38, 37] (v := ?v33) (by kernel_rfl) (by kernel_rfl) rfl (by kernel_rfl) (by kernel_rfl) (by kernel_rfl) (fun _ _ _ h => h) (Or.inl ⟨by rfl, ?y33⟩) hHeld ?r33
  case y33 => (intro w' hSw; (try dsimp only at hSw); have q1 := hSw.r7.cell (j := 13) (v := .int .i64 c'.read) rfl; have q2 := hSw.r7.cell (j := 14) (v := .slice ao1 ys.length cp1) rfl; have q3 := hSw.r3.cell (j := 1) (v := .slice iao inn.length icap) rfl; have q4 := hSw.r4.cell (j := 13) (v := .int .i64 c.read) rfl; have q5 := hSw.r4.cell (j := 14) (v := .slice ao xs.length cap) rfl; clear hSw; go_simp; (try simp only [B1.out, B2.out, B2'.out, B3.out, B5.out, B4.out]); try with_reducible rfl)
  simp only [Act.put, List.getElem_toArray, List.getElem_cons_zero, List.getElem_cons_succ, List.setIfInBounds_toArray, List.set_cons_zero, List.set_cons_succ]
  refine Still.takeBy (i := 35) [39, 38, 37, 36] (v := ?v34) (by kernel_rfl) (by kernel_rfl) rfl (by kernel_rfl) (by kernel_rfl) (by kernel_rfl) (fun _ _ _ h => h) (Or.inl ⟨by rfl, ?y34⟩) hHeld ?r34
  case y34 => (intro w' hSw; (try dsimp only at hSw); have q1 := hSw.r7.cell (j := 13) (v := .int .i64 c'.read) rfl; have q2 := hSw.r7.cell (j := 14) (v := .slice ao1 ys.length cp1) rfl; have q3 := hSw.r3.cell (j := 1) (v := .slice iao inn.length icap) rfl; have q4 := hSw.r4.cell (j := 13) (v := .int .i64 c.read) rfl; have q5 := hSw.r4.cell (j := 14) (v := .slice ao xs.length cap) rfl; clear hSw; go_simp; (try simp only [B1.out, B2.out, B2'.out, B3.out, B5.out, B4.out]); try with_reducible rfl)
  simp only [Act.put, List.getElem_toArray, List.getElem_cons_zero, List.getElem_cons_succ, List.setIfInBounds_toArray, List.set_cons_zero, List.set_cons_succ]
  refine Still.takeBy (i := 36) [39, 38, 37] (v := ?v35) (by kernel_rfl) (by kernel_rfl) rfl (by kernel_rfl) (by kernel_rfl) (by kernel_rfl) (fun _ _ _ h => h) (Or.inl ⟨by rfl, ?y35⟩) hHeld ?r35
  case y35 => (intro w' hSw; (try dsimp only at hSw); have q1 := hSw.r7.cell (j := 13) (v := .int .i64 c'.read) rfl; have q2 := hSw.r7.cell (j := 14) (v := .slice ao1 ys.length cp1) rfl; have q3 := hSw.r3.cell (j := 1) (v := .slice iao inn.length icap) rfl; have q4 := hSw.r4.cell (j := 13) (v := .int .i64 c.read) rfl; have q5 := hSw.r4.cell (j := 14) (v := .slice ao xs.length cap) rfl; clear hSw; go_simp; (try simp only [B1.out, B2.out, B2'.out, B3.out, B5.out, B4.out]); try with_reducible rfl)
  simp only [Act.put, List.getElem_toArray, List.getElem_cons_zero, List.getElem_cons_succ, List.setIfInBounds_toArray, List.set_cons_zero, List.set_cons_succ]
  refine Still.takeBy (i := 37) [39, 38] (v := ?v36) (by kernel_rfl) (by kernel_rfl) rfl (by kernel_rfl) (by kernel_rfl) (by kernel_rfl) (fun _ _ _ h => h) (Or.inl ⟨by rfl, ?y36⟩) hHeld ?r36
  case y36 => (intro w' hSw; (try dsimp only at hSw); have q1 := hSw.r7.cell (j := 13) (v := .int .i64 c'.read) rfl; have q2 := hSw.r7.cell (j := 14) (v := .slice ao1 ys.length cp1) rfl; have q3 := hSw.r3.cell (j := 1) (v := .slice iao inn.length icap) rfl; have q4 := hSw.r4.cell (j := 13) (v := .int .i64 c.read) rfl; have q5 := hSw.r4.cell (j := 14) (v := .slice ao xs.length cap) rfl; clear hSw; go_simp; (try simp only [B1.out, B2.out, B2'.out, B3.out, B5.out, B4.out]); try with_reducible rfl)
  simp only [Act.put, List.getElem_toArray, List.getElem_cons_zero, List.getElem_cons_succ, List.setIfInBounds_toArray, List.set_cons_zero, List.set_cons_succ]
  refine Still.takeBy (i := 38) [39] (v := ?v37) (by kernel_rfl) (by kernel_rfl) rfl (by kernel_rfl) (by kernel_rfl) (by kernel_rfl) (fun _ _ _ h => h) (Or.inl ⟨by rfl, ?y37⟩) hHeld ?r37
  case y37 => (intro w' hSw; (try dsimp only at hSw); have q1 := hSw.r7.cell (j := 13) (v := .int .i64 c'.read) rfl; have q2 := hSw.r7.cell (j := 14) (v := .slice ao1 ys.length cp1) rfl; have q3 := hSw.r3.cell (j := 1) (v := .slice iao inn.length icap) rfl; have q4 := hSw.r4.cell (j := 13) (v := .int .i64 c.read) rfl; have q5 := hSw.r4.cell (j := 14) (v := .slice ao xs.length cap) rfl; clear hSw; go_simp; (try simp only [B1.out, B2.out, B2'.out, B3.out, B5.out, B4.out]); try with_reducible rfl)
  simp only [Act.put, List.getElem_toArray, List.getElem_cons_zero, List.getElem_cons_succ, List.setIfInBounds_toArray, List.set_cons_zero, List.set_cons_succ]
  refine Still.takeBy (i := 39) [] (v := ?v38) (by kernel_rfl) (by kernel_rfl) rfl (by kernel_rfl) (by kernel_rfl) (by kernel_rfl) (fun _ _ _ h => h) (Or.inl ⟨by rfl, ?y38⟩) hHeld ?r38
  case y38 => (intro w' hSw; (try dsimp only at hSw); have q1 := hSw.r7.cell (j := 13) (v := .int .i64 c'.read) rfl; have q2 := hSw.r7.cell (j := 14) (v := .slice ao1 ys.length cp1) rfl; have q3 := hSw.r3.cell (j := 1) (v := .slice iao inn.length icap) rfl; have q4 := hSw.r4.cell (j := 13) (v := .int .i64 c.read) rfl; have q5 := hSw.r4.cell (j := 14) (v := .slice ao xs.length cap) rfl; clear hSw; go_simp; (try simp only [B1.out, B2.out, B2'.out, B3.out, B5.out, B4.out]); try with_reducible rfl)
  simp only [Act.put, List.getElem_toArray, List.getElem_cons_zero, List.getElem_cons_succ, List.setIfInBounds_toArray, List.set_cons_zero, List.set_cons_succ]
  refine Still.takeBy (i := 40) [45, 41] (v := ?v39) (by kernel_rfl) (by kernel_rfl) rfl (by kernel_rfl) (by kernel_rfl) (by kernel_rfl) (fun _ _ _ h => h) (Or.inl ⟨by rfl, ?y39⟩) hHeld ?r39
  case y39 => (intro w' hSw; (try dsimp only at hSw); have q1 := hSw.r7.cell (j := 13) (v := .int .i64 c'.read) rfl; have q2 := hSw.r7.cell (j := 14) (v := .slice ao1 ys.length cp1) rfl; have q3 := hSw.r3.cell (j := 1) (v := .slice iao inn.length icap) rfl; have q4 := hSw.r4.cell (j := 13) (v := .int .i64 c.read) rfl; have q5 := hSw.r4.cell (j := 14) (v := .slice ao xs.length cap) rfl; clear hSw; go_simp; (try simp only [B1.out, B2.out, B2'.out, B3.out, B5.out, B4.out]); try with_reducible rfl)
  simp only [Act.put, List.getElem_toArray, List.getElem_cons_zero, List.getElem_cons_succ, List.setIfInBounds_toArray, List.set_cons_zero, List.set_cons_succ]
  refine Still.takeBy (i := 41) [45] (v := ?v40) (by kernel_rfl) (by kernel_rfl) rfl (by kernel_rfl) (by kernel_rfl) (by kernel_rfl) (fun _ _ _ h => h) (Or.inl ⟨by rfl, ?y40⟩) hHeld ?r40
  case y40 => (intro w' hSw; (try dsimp only at hSw); have q1 := hSw.r7.cell (j := 13) (v := .int .i64 c'.read) rfl; have q2 := hSw.r7.cell (j := 14) (v := .slice ao1 ys.length cp1) rfl; have q3 := hSw.r3.cell (j := 1) (v := .slice iao inn.length icap) rfl; have q4 := hSw.r4.cell (j := 13) (v := .int .i64 c.read) rfl; have q5 := hSw.r4.cell (j := 14) (v := .slice ao xs.length cap) rfl; clear hSw; go_simp; (try simp only [B1.out, B2.out, B2'.out, B3.out, B5.out, B4.out]); try with_reducible rfl)
  simp only [Act.put, List.getElem_toArray, List.getElem_cons_zero, List.getElem_cons_succ, List.setIfInBounds_toArray, List.set_cons_zero, List.set_cons_succ]
  refine Still.takeBy (i := 42) [45, 44, 43] (v := ?v41) (by kernel_rfl) (by kernel_rfl) rfl (by kernel_rfl) (by kernel_rfl) (by kernel_rfl) (fun _ _ _ h => h) (Or.inl ⟨by rfl, ?y41⟩) hHeld ?r41
  case y41 => (intro w' hSw; (try dsimp only at hSw); have q1 := hSw.r7.cell (j := 13) (v := .int .i64 c'.read) rfl; have q2 := hSw.r7.cell (j := 14) (v := .slice ao1 ys.length cp1) rfl; have q3 := hSw.r3.cell (j := 1) (v := .slice iao inn.length icap) rfl; have q4 := hSw.r4.cell (j := 13) (v := .int .i64 c.read) rfl; have q5 := hSw.r4.cell (j := 14) (v := .slice ao xs.length cap) rfl; clear hSw; go_simp; (try simp only [B1.out, B2.out, B2'.out, B3.out, B5.out, B4.out]); try with_reducible rfl)
  simp only [Act.put, List.getElem_toArray, List.getElem_cons_zero, List.getElem_cons_succ, List.setIfInBounds_toArray, List.set_cons_zero, List.set_cons_succ]
  refine Still.takeBy (i := 43) [45, 44] (v := ?v42) (by kernel_rfl) (by kernel_rfl) rfl (by kernel_rfl) (by kernel_rfl) (by kernel_rfl) (fun _ _ _ h => h) (Or.inl ⟨by rfl, ?y42⟩) hHeld ?r42
  case y42 => (intro w' hSw; (try dsimp only at hSw); have q1 := hSw.r7.cell (j := 13) (v := .int .i64 c'.read) rfl; have q2 := hSw.r7.cell (j := 14) (v := .slice ao1 ys.length cp1) rfl; have q3 := hSw.r3.cell (j := 1) (v := .slice iao inn.length icap) rfl; have q4 := hSw.r4.cell (j := 13) (v := .int .i64 c.read) rfl; have q5 := hSw.r4.cell (j := 14) (v := .slice ao xs.length cap) rfl; clear hSw; go_simp; (try simp only [B1.out, B2.out, B2'.out, B3.out, B5.out, B4.out]); try with_reducible rfl)
  simp only [Act.put, List.getElem_toArray, List.getElem_cons_zero, List.getElem_cons_succ, List.setIfInBounds_toArray, List.set_cons_zero, List.set_cons_succ]
  refine Still.takeBy (i := 44) [45] (v := ?v43) (by kernel_rfl) (by kernel_rfl) rfl (by kernel_rfl) (by kernel_rfl) (by kernel_rfl) (fun _ _ _ h => h) (Or.inl ⟨by rfl, ?y43⟩) hHeld ?r43
  case y43 => (intro w' hSw; (try dsimp only at hSw); have q1 := hSw.r7.cell (j := 13) (v := .int .i64 c'.read) rfl; have q2 := hSw.r7.cell (j := 14) (v := .slice ao1 ys.length cp1) rfl; have q3 := hSw.r3.cell (j := 1) (v := .slice iao inn.length icap) rfl; have q4 := hSw.r4.cell (j := 13) (v := .int .i64 c.read) rfl; have q5 := hSw.r4.cell (j := 14) (v := .slice ao xs.length cap) rfl; clear hSw; go_simp; (try simp only [B1.out, B2.out, B2'.out, B3.out, B5.out, B4.out]); try with_reducible rfl)
  simp only [Act.put, List.getElem_toArray, List.getElem_cons_zero, List.getElem_cons_succ, List.setIfInBounds_toArray, List.set_cons_zero, List.set_cons_succ]
  refine Still.takeBy (i := 45) [] (v := ?v44) (by kernel_rfl) (by kernel_rfl) rfl (by kernel_rfl) (by kernel_rfl) (by kernel_rfl) (fun _ _ _ h => h) (Or.inl ⟨by rfl, ?y44⟩) hHeld ?r44
  case y44 => (intro w' hSw; (try dsimp only at hSw); have q1 := hSw.r7.cell (j := 13) (v := .int .i64 c'.read) rfl; have q2 := hSw.r7.cell (j := 14) (v := .slice ao1 ys.length cp1) rfl; have q3 := hSw.r3.cell (j := 1) (v := .slice iao inn.length icap) rfl; have q4 := hSw.r4.cell (j := 13) (v := .int .i64 c.read) rfl; have q5 := hSw.r4.cell (j := 14) (v := .slice ao xs.length cap) rfl; clear hSw; go_simp; (try simp only [B1.out, B2.out, B2'.out, B3.out, B5.out, B4.out]); try with_reducible rfl)
  simp only [Act.put, List.getElem_toArray, List.getElem_cons_zero, List.getElem_cons_succ, List.setIfInBounds_toArray, List.set_cons_zero, List.set_cons_succ]
  refine Still.all (rs := [46]) (by kernel_rfl) (by simp) (Still.one (i := 46) rfl rfl (fun K hK => ?_) (by simp))
  go_simp
  refine hK _ _ (fun h => absurd rfl h) (fun _ => ?_)
  clear hK K
  refine Still.over (by kernel_rfl) ?_ _
  have HG := Lib.hid hHeld
  clear hHeld HF
  go_upto_region 6 with fail
  go_cut [84] from 71 to 85 (fun p wc => p = .bool false ∧ Hid (Ft w wc w1.heap.size (w1.heap.size + 1) c c' (.slice ao xs.length cap) (.slice ao1 ys.length cp1) (.slice cao l.length ccap) (.slice iao inn.length icap) x' xs ys))
  case first =>
    have k15 := HG.out.r4.cell (j := 15) (v := .int .i64 c.en) rfl
    by_cases hen : c.en = 0
    · rw [hen] at k15
      clear hen
      go_wp2
      go_meet
      exact ⟨rfl, HG⟩
    · have hq := HEND.out hen
      injection hq with q1 hq
      injection hq with q2 q3
      subst q1 q2 q3
      have hen' : (c'.en != 0) = true := by simpa using hen
      clear hen
      go_wp2_with (first | (refine wpList_load_rowG rfl 29 (.tmp 7) rfl (w1.heap.size) rfl 29 (c'.cs (.slice ao1 ys.length cp1)) (0, 0) _ HG.out.r7 Tryd.underlying29 rfl sizeCell ?_) | (refine wpList_load_rowG rfl 29 (.tmp 4) rfl (w.heap.size + 1) rfl 29 (c'.cs (.slice ao ys.length cap)) (0, 0) _ HG.out.r4 Tryd.underlying29 rfl sizeCell ?_) | (go_at_call 12; refine (sameCells_cs c' ys _ _ _ HG.out.s1 HG.out.s0 (by omega)).mono ?_; rintro e V3 ⟨rfl, b3⟩; have HG3 := Lib.hid (HG.out.up b3); clear k15) | (refine wpList_load_rowG rfl 31 (.tmp 8) rfl (w1.heap.size + 1) rfl 31 #[.int .i64 0, .int .i64 0, .int .i64 0, .int .i64 0, .int .i64 0] (0, 0) _ HG3.out.r8 Tryd.underlying31 rfl sizeWant ?_))
      go_meet
      exact ⟨rfl, HG3⟩
  case rest =>
    obtain ⟨rfl, H⟩ := hcut
    have k3 := H.out.r3.cell (j := 1) (v := .slice iao inn.length icap) rfl
    have k4 := H.out.r4.cell (j := 13) (v := .int .i64 c.read) rfl
    clear HG HEND
    have BEG : ∀ V, Hid (Below w.heap.size w V) → Hid (Calls Tryd.prog 9 #[] V fun e w' => e = .returned (.bool true) ∧ Below w.heap.size w w') := fun V hV => Lib.hid ((cellBegun_any V (HE.out.up hV.out)).mono (fun e w' h => ⟨h.1, hV.out.trans (h.2.mono hV.out.size)⟩))
    by_cases ha : inn.length = 12
    · have ha' : ((inn.length : Int) == 12) = true := by rw [ha]; rfl
      clear ha
      go_wp2_with (go_at_call 9; refine (BEG _ H.out.dd).out.mono ?_; rintro e w3 ⟨rfl, b3⟩)
      go_ret
      exact ⟨rfl, b3⟩
    have ha' : ((inn.length : Int) == 12) = false := by simp; omega
    by_cases hb : (inn.length : Int) = c.read
    · have hb' : ((inn.length : Int) == c.read) = true := by simpa using hb
      clear ha hb
      go_wp2_with (go_at_call 9; refine (BEG _ H.out.dd).out.mono ?_; rintro e w3 ⟨rfl, b3⟩)
      go_ret
      exact ⟨rfl, b3⟩
    have hb' : ((inn.length : Int) == c.read) = false := by simpa using hb
    have HM' := Lib.hid (HM.out (by omega) (by omega))
    have hll : inn.length < 12 := by omega
    clear ha hb HM
    obtain ⟨i0, hi0, hz0, hz1, hz2⟩ := info_parts infoInt
    go_upto_region 10 with fail
    go_cut [10] from 98 to 108 (fun p wd => ∃ g a8 c8, p = .pointer (some ⟨g, 0, none⟩) ∧ Hid (Made wc wd g (.slice cao l.length ccap) (.slice a8 (inn.length + 1) c8) inn n))
    case first =>
      refine region_still (S := fun w' => Below wc.heap.size wc w') 11 (by kernel_rfl) (Below.refl _ _).drew (fun hHeld => ?_)
      refine Still.takeBy (i := 0) [] (v := ?v151) (by kernel_rfl) (by kernel_rfl) rfl (by kernel_rfl) (by kernel_rfl) (by kernel_rfl) (fun _ _ _ h => h) (Or.inl ⟨by rfl, ?y151⟩) hHeld ?r151
      case y151 => (intro w' hSw; (try dsimp only at hSw); have q0 := (H.out.r3.up hSw H.out.r3.lt).cell (j := 0) (v := .slice cao l.length ccap) rfl; have q1 := (H.out.r3.up hSw H.out.r3.lt).cell (j := 1) (v := .slice iao inn.length icap) rfl; clear hSw; go_simp; try with_reducible rfl)
      simp only [Act.put, List.getElem_toArray, List.getElem_cons_zero, List.getElem_cons_succ, List.setIfInBounds_toArray, List.set_cons_zero, List.set_cons_succ]
      refine Still.takeBy (i := 1) [] (v := ?v152) (by kernel_rfl) (by kernel_rfl) rfl (by kernel_rfl) (by kernel_rfl) (by kernel_rfl) (fun _ _ _ h => h) (Or.inl ⟨by rfl, ?y152⟩) hHeld ?r152
      case y152 => (intro w' hSw; (try dsimp only at hSw); have q0 := (H.out.r3.up hSw H.out.r3.lt).cell (j := 0) (v := .slice cao l.length ccap) rfl; have q1 := (H.out.r3.up hSw H.out.r3.lt).cell (j := 1) (v := .slice iao inn.length icap) rfl; clear hSw; go_simp; try with_reducible rfl)
      simp only [Act.put, List.getElem_toArray, List.getElem_cons_zero, List.getElem_cons_succ, List.setIfInBounds_toArray, List.set_cons_zero, List.set_cons_succ]
      refine Still.takeBy (i := 3) [] (v := ?v153) (by kernel_rfl) (by kernel_rfl) rfl (by kernel_rfl) (by kernel_rfl) (by kernel_rfl) (fun _ _ _ h => h) (Or.inl ⟨by rfl, ?y153⟩) hHeld ?r153
      case y153 => (intro w' hSw; (try dsimp only at hSw); have q0 := (H.out.r3.up hSw H.out.r3.lt).cell (j := 0) (v := .slice cao l.length ccap) rfl; have q1 := (H.out.r3.up hSw H.out.r3.lt).cell (j := 1) (v := .slice iao inn.length icap) rfl; clear hSw; go_simp; try with_reducible rfl)
      simp only [Act.put, List.getElem_toArray, List.getElem_cons_zero, List.getElem_cons_succ, List.setIfInBounds_toArray, List.set_cons_zero, List.set_cons_succ]
      refine Still.takeBy (i := 4) [] (v := ?v154) (by kernel_rfl) (by kernel_rfl) rfl (by kernel_rfl) (by kernel_rfl) (by kernel_rfl) (fun _ _ _ h => h) (Or.inl ⟨by rfl, ?y154⟩) hHeld ?r154
      case y154 => (intro w' hSw; (try dsimp only at hSw); have q0 := (H.out.r3.up hSw H.out.r3.lt).cell (j := 0) (v := .slice cao l.length ccap) rfl; have q1 := (H.out.r3.up hSw H.out.r3.lt).cell (j := 1) (v := .slice iao inn.length icap) rfl; clear hSw; go_simp; try with_reducible rfl)
      simp only [Act.put, List.getElem_toArray, List.getElem_cons_zero, List.getElem_cons_succ, List.setIfInBounds_toArray, List.set_cons_zero, List.set_cons_succ]
      refine Still.takeBy (i := 6) [] (v := ?v155) (by kernel_rfl) (by kernel_rfl) rfl (by kernel_rfl) (by kernel_rfl) (by kernel_rfl) (fun _ _ _ h => h) (Or.inl ⟨by rfl, ?y155⟩) hHeld ?r155
      case y155 => (intro w' hSw; (try dsimp only at hSw); have q0 := (H.out.r3.up hSw H.out.r3.lt).cell (j := 0) (v := .slice cao l.length ccap) rfl; have q1 := (H.out.r3.up hSw H.out.r3.lt).cell (j := 1) (v := .slice iao inn.length icap) rfl; clear hSw; go_simp; try with_reducible rfl)
      simp only [Act.put, List.getElem_toArray, List.getElem_cons_zero, List.getElem_cons_succ, List.setIfInBounds_toArray, List.set_cons_zero, List.set_cons_succ]
      have M0 := Lib.hid (Mk.begin wc inn n)
      generalize World.drew _ = W0 at M0 hHeld ⊢
      refine Still.all (rs := [2, 7, 10]) (by kernel_rfl) (by simp) (Still.one (i := 2) rfl rfl (fun K hK => ?_) (Still.one (i := 7) rfl rfl (fun K hK => ?_) (Still.one (i := 10) rfl rfl (fun K hK => ?_) (by simp))))
      · go_simp
        have m := M0.out.two (rfl : W0.heap.size = W0.heap.size)
        refine hK _ _ (fun _ => m.d) (fun hh => ?_)
        have hHeld := hh (by decide)
        clear hK K hh
        try simp only [Act.put, List.getElem_toArray, List.getElem_cons_zero, List.getElem_cons_succ, List.setIfInBounds_toArray, List.set_cons_zero, List.set_cons_succ]
        generalize World.alloc _ _ = W1 at m hHeld ⊢
        have M1 := Lib.hid m
        clear m M0
        refine Still.all (rs := [5, 7, 10]) (by kernel_rfl) (by simp) (Still.one (i := 5) rfl rfl (fun K hK => ?_) (Still.one (i := 7) rfl rfl (fun K hK => ?_) (Still.one (i := 10) rfl rfl (fun K hK => ?_) (by simp))))
        · refine wp_append_lit (.tmp 100) (.tmp 102) 23 rfl wc.heap.size 3 i0 _ 1 8 Tryd.underlying23 hi0 hz0 hz1 hz2 rfl (by decide) W0.heap.size (by first | rfl | simp [Act.eval, Act.put]) (M1.out.e _ rfl).1 (M1.out.e _ rfl).2 (.slice iao inn.length icap) inn.length (ints inn) (by first | rfl | simp [Act.eval, Act.put]) ((HI.out.up H.out.dd).up M1.out.d) (ints_cell _) (by unfold maxLen; omega) (by omega) ?_
          intro v5 W2 o5 f5 h5
          obtain ⟨a5, c5, rfl⟩ := own_form o5
          have m := M1.out.five o5 f5 h5
          refine hK _ _ (fun _ => m.d) (fun hh => ?_)
          have hHeld := hh (by decide)
          clear hK K hh
          try simp only [Act.put, List.getElem_toArray, List.getElem_cons_zero, List.getElem_cons_succ, List.setIfInBounds_toArray, List.set_cons_zero, List.set_cons_succ]
          have M2 := Lib.hid m
          clear m M1 o5 f5 h5
          refine Still.all (rs := [7, 10]) (by kernel_rfl) (by simp) (Still.one (i := 7) rfl rfl (fun K hK => ?_) (Still.one (i := 10) rfl rfl (fun K hK => ?_) (by simp)))
          · go_simp
            have m := M2.out.seven (rfl : W2.heap.size = W2.heap.size)
            refine hK _ _ (fun _ => m.d) (fun hh => ?_)
            have hHeld := hh (by decide)
            clear hK K hh
            try simp only [Act.put, List.getElem_toArray, List.getElem_cons_zero, List.getElem_cons_succ, List.setIfInBounds_toArray, List.set_cons_zero, List.set_cons_succ]
            generalize World.alloc _ _ = W3 at m hHeld ⊢
            have M3 := Lib.hid m
            clear m M2
            refine Still.all (rs := [8, 10]) (by kernel_rfl) (by simp) (Still.one (i := 8) rfl rfl (fun K hK => ?_) (Still.one (i := 10) rfl rfl (fun K hK => ?_) (by simp)))
            · refine wp_append_sl (.tmp 103) (.tmp 105) 23 rfl wc.heap.size 3 i0 _ 1 8 Tryd.underlying23 hi0 hz0 hz1 hz2 rfl (by decide) (.slice a5 inn.length c5) inn.length (ints inn) (by first | rfl | simp [Act.eval, Act.put]) (M3.out.o _ rfl) (.slice (some ⟨W2.heap.size, 0, none⟩) 1 1) 1 (ints [n]) (by first | rfl | simp [Act.eval, Act.put]) (M3.out.s _ rfl) (ints_cell _) (by unfold maxLen; omega) (by omega) M3.out.d.size ?_
              intro v8 W4 o8 f8 h8
              obtain ⟨a8, c8, rfl⟩ := own_form o8
              have m := M3.out.eight o8 f8 h8
              refine hK _ _ (fun _ => m.d) (fun hh => ?_)
              have hHeld := hh (by decide)
              clear hK K hh
              try simp only [Act.put, List.getElem_toArray, List.getElem_cons_zero, List.getElem_cons_succ, List.setIfInBounds_toArray, List.set_cons_zero, List.set_cons_succ]
              have M4 := Lib.hid m
              clear m M3 o8 f8 h8
              refine Still.takeBy (i := 9) [] (by kernel_rfl) (by kernel_rfl) rfl (by kernel_rfl) (by kernel_rfl) (by kernel_rfl) (fun _ _ _ h => h) (yields_build rfl _ _ rfl #[(0, .slice cao l.length ccap), (1, .slice a8 (inn.length + 1) c8)] (by first | rfl | simp [Act.eval, Act.put]) _ (build_part cao a8 l.length ccap (inn.length + 1) c8)) hHeld ?r201
              simp only [Act.put, List.getElem_toArray, List.getElem_cons_zero, List.getElem_cons_succ, List.setIfInBounds_toArray, List.set_cons_zero, List.set_cons_succ]
              refine Still.all (rs := [10]) (by kernel_rfl) (by simp) (Still.one (i := 10) rfl rfl (fun K hK => ?_) (by simp))
              go_simp
              have m := M4.out.ten (rfl : W4.heap.size = W4.heap.size)
              refine hK _ _ (fun _ => m.d) (fun hh => ?_)
              have hHeld := hh (by decide)
              clear hK K hh
              try simp only [Act.put, List.getElem_toArray, List.getElem_cons_zero, List.getElem_cons_succ, List.setIfInBounds_toArray, List.set_cons_zero, List.set_cons_succ]
              generalize World.alloc _ _ = W5 at m hHeld ⊢
              have M5 := Lib.hid m
              clear m M4
              refine Still.all (rs := [11]) (by kernel_rfl) (by simp) (Still.one (i := 11) rfl rfl (fun K hK => ?_) (by simp))
              refine wp_store_row 25 _ _ rfl (W4.heap.size) #[.slice cao l.length ccap, .slice a8 (inn.length + 1) c8] (by first | rfl | simp [Act.eval, Act.put]) (by first | rfl | simp [Act.eval, Act.put]) 25 #[.slice none 0 0, .slice none 0 0] (M5.out.r _ rfl).1 sizePart rfl (part_one _ _ rfl rfl) ?_
              refine hK _ _ (fun h => absurd rfl h) (fun _ => ?_)
              clear hK K
              refine Still.over (by kernel_rfl) ?_ _
              clear hHeld
              go_wp2
              go_meet
              exact ⟨_, a8, c8, rfl, M5.out.done _⟩
            · go_simp
              have m := M3.out.ten (rfl : W3.heap.size = W3.heap.size)
              refine hK _ _ (fun _ => m.d) (fun hh => ?_)
              have hHeld := hh (by decide)
              clear hK K hh
              try simp only [Act.put, List.getElem_toArray, List.getElem_cons_zero, List.getElem_cons_succ, List.setIfInBounds_toArray, List.set_cons_zero, List.set_cons_succ]
              generalize World.alloc _ _ = W4 at m hHeld ⊢
              have M4 := Lib.hid m
              clear m M3
              refine Still.all (rs := [8]) (by kernel_rfl) (by simp) (Still.one (i := 8) rfl rfl (fun K hK => ?_) (by simp))
              refine wp_append_sl (.tmp 103) (.tmp 105) 23 rfl wc.heap.size 3 i0 _ 1 8 Tryd.underlying23 hi0 hz0 hz1 hz2 rfl (by decide) (.slice a5 inn.length c5) inn.length (ints inn) (by first | rfl | simp [Act.eval, Act.put]) (M4.out.o _ rfl) (.slice (some ⟨W2.heap.size, 0, none⟩) 1 1) 1 (ints [n]) (by first | rfl | simp [Act.eval, Act.put]) (M4.out.s _ rfl) (ints_cell _) (by unfold maxLen; omega) (by omega) M4.out.d.size ?_
              intro v8 W5 o8 f8 h8
              obtain ⟨a8, c8, rfl⟩ := own_form o8
              have m := M4.out.eight o8 f8 h8
              refine hK _ _ (fun _ => m.d) (fun hh => ?_)
              have hHeld := hh (by decide)
              clear hK K hh
              try simp only [Act.put, List.getElem_toArray, List.getElem_cons_zero, List.getElem_cons_succ, List.setIfInBounds_toArray, List.set_cons_zero, List.set_cons_succ]
              have M5 := Lib.hid m
              clear m M4 o8 f8 h8
              refine Still.takeBy (i := 9) [] (by kernel_rfl) (by kernel_rfl) rfl (by kernel_rfl) (by kernel_rfl) (by kernel_rfl) (fun _ _ _ h => h) (yields_build rfl _ _ rfl #[(0, .slice cao l.length ccap), (1, .slice a8 (inn.length + 1) c8)] (by first | rfl | simp [Act.eval, Act.put]) _ (build_part cao a8 l.length ccap (inn.length + 1) c8)) hHeld ?r211
              simp only [Act.put, List.getElem_toArray, List.getElem_cons_zero, List.getElem_cons_succ, List.setIfInBounds_toArray, List.set_cons_zero, List.set_cons_succ]
              refine Still.all (rs := [11]) (by kernel_rfl) (by simp) (Still.one (i := 11) rfl rfl (fun K hK => ?_) (by simp))
              refine wp_store_row 25 _ _ rfl (W3.heap.size) #[.slice cao l.length ccap, .slice a8 (inn.length + 1) c8] (by first | rfl | simp [Act.eval, Act.put]) (by first | rfl | simp [Act.eval, Act.put]) 25 #[.slice none 0 0, .slice none 0 0] (M5.out.r _ rfl).1 sizePart rfl (part_one _ _ rfl rfl) ?_
              refine hK _ _ (fun h => absurd rfl h) (fun _ => ?_)
              clear hK K
              refine Still.over (by kernel_rfl) ?_ _
              clear hHeld
              go_wp2
              go_meet
              exact ⟨_, a8, c8, rfl, M5.out.done _⟩
          · go_simp
            have m := M2.out.ten (rfl : W2.heap.size = W2.heap.size)
            refine hK _ _ (fun _ => m.d) (fun hh => ?_)
            have hHeld := hh (by decide)
            clear hK K hh
            try simp only [Act.put, List.getElem_toArray, List.getElem_cons_zero, List.getElem_cons_succ, List.setIfInBounds_toArray, List.set_cons_zero, List.set_cons_succ]
            generalize World.alloc _ _ = W3 at m hHeld ⊢
            have M3 := Lib.hid m
            clear m M2
            refine Still.all (rs := [7]) (by kernel_rfl) (by simp) (Still.one (i := 7) rfl rfl (fun K hK => ?_) (by simp))
            go_simp
            have m := M3.out.seven (rfl : W3.heap.size = W3.heap.size)
            refine hK _ _ (fun _ => m.d) (fun hh => ?_)
            have hHeld := hh (by decide)
            clear hK K hh
            try simp only [Act.put, List.getElem_toArray, List.getElem_cons_zero, List.getElem_cons_succ, List.setIfInBounds_toArray, List.set_cons_zero, List.set_cons_succ]
            generalize World.alloc _ _ = W4 at m hHeld ⊢
            have M4 := Lib.hid m
            clear m M3
            refine Still.all (rs := [8]) (by kernel_rfl) (by simp) (Still.one (i := 8) rfl rfl (fun K hK => ?_) (by simp))
            refine wp_append_sl (.tmp 103) (.tmp 105) 23 rfl wc.heap.size 3 i0 _ 1 8 Tryd.underlying23 hi0 hz0 hz1 hz2 rfl (by decide) (.slice a5 inn.length c5) inn.length (ints inn) (by first | rfl | simp [Act.eval, Act.put]) (M4.out.o _ rfl) (.slice (some ⟨W3.heap.size, 0, none⟩) 1 1) 1 (ints [n]) (by first | rfl | simp [Act.eval, Act.put]) (M4.out.s _ rfl) (ints_cell _) (by unfold maxLen; omega) (by omega) M4.out.d.size ?_
            intro v8 W5 o8 f8 h8
            obtain ⟨a8, c8, rfl⟩ := own_form o8
            have m := M4.out.eight o8 f8 h8
            refine hK _ _ (fun _ => m.d) (fun hh => ?_)
            have hHeld := hh (by decide)
            clear hK K hh
            try simp only [Act.put, List.getElem_toArray, List.getElem_cons_zero, List.getElem_cons_succ, List.setIfInBounds_toArray, List.set_cons_zero, List.set_cons_succ]
            have M5 := Lib.hid m
            clear m M4 o8 f8 h8
            refine Still.takeBy (i := 9) [] (by kernel_rfl) (by kernel_rfl) rfl (by kernel_rfl) (by kernel_rfl) (by kernel_rfl) (fun _ _ _ h => h) (yields_build rfl _ _ rfl #[(0, .slice cao l.length ccap), (1, .slice a8 (inn.length + 1) c8)] (by first | rfl | simp [Act.eval, Act.put]) _ (build_part cao a8 l.length ccap (inn.length + 1) c8)) hHeld ?r221
            simp only [Act.put, List.getElem_toArray, List.getElem_cons_zero, List.getElem_cons_succ, List.setIfInBounds_toArray, List.set_cons_zero, List.set_cons_succ]
            refine Still.all (rs := [11]) (by kernel_rfl) (by simp) (Still.one (i := 11) rfl rfl (fun K hK => ?_) (by simp))
            refine wp_store_row 25 _ _ rfl (W2.heap.size) #[.slice cao l.length ccap, .slice a8 (inn.length + 1) c8] (by first | rfl | simp [Act.eval, Act.put]) (by first | rfl | simp [Act.eval, Act.put]) 25 #[.slice none 0 0, .slice none 0 0] (M5.out.r _ rfl).1 sizePart rfl (part_one _ _ rfl rfl) ?_
            refine hK _ _ (fun h => absurd rfl h) (fun _ => ?_)
            clear hK K
            refine Still.over (by kernel_rfl) ?_ _
            clear hHeld
            go_wp2
            go_meet
            exact ⟨_, a8, c8, rfl, M5.out.done _⟩
        · go_simp
          have m := M1.out.seven (rfl : W1.heap.size = W1.heap.size)
          refine hK _ _ (fun _ => m.d) (fun hh => ?_)
          have hHeld := hh (by decide)
          clear hK K hh
          try simp only [Act.put, List.getElem_toArray, List.getElem_cons_zero, List.getElem_cons_succ, List.setIfInBounds_toArray, List.set_cons_zero, List.set_cons_succ]
          generalize World.alloc _ _ = W2 at m hHeld ⊢
          have M2 := Lib.hid m
          clear m M1
          refine Still.all (rs := [5, 10]) (by kernel_rfl) (by simp) (Still.one (i := 5) rfl rfl (fun K hK => ?_) (Still.one (i := 10) rfl rfl (fun K hK => ?_) (by simp)))
          · refine wp_append_lit (.tmp 100) (.tmp 102) 23 rfl wc.heap.size 3 i0 _ 1 8 Tryd.underlying23 hi0 hz0 hz1 hz2 rfl (by decide) W0.heap.size (by first | rfl | simp [Act.eval, Act.put]) (M2.out.e _ rfl).1 (M2.out.e _ rfl).2 (.slice iao inn.length icap) inn.length (ints inn) (by first | rfl | simp [Act.eval, Act.put]) ((HI.out.up H.out.dd).up M2.out.d) (ints_cell _) (by unfold maxLen; omega) (by omega) ?_
            intro v5 W3 o5 f5 h5
            obtain ⟨a5, c5, rfl⟩ := own_form o5
            have m := M2.out.five o5 f5 h5
            refine hK _ _ (fun _ => m.d) (fun hh => ?_)
            have hHeld := hh (by decide)
            clear hK K hh
            try simp only [Act.put, List.getElem_toArray, List.getElem_cons_zero, List.getElem_cons_succ, List.setIfInBounds_toArray, List.set_cons_zero, List.set_cons_succ]
            have M3 := Lib.hid m
            clear m M2 o5 f5 h5
            refine Still.all (rs := [8, 10]) (by kernel_rfl) (by simp) (Still.one (i := 8) rfl rfl (fun K hK => ?_) (Still.one (i := 10) rfl rfl (fun K hK => ?_) (by simp)))
            · refine wp_append_sl (.tmp 103) (.tmp 105) 23 rfl wc.heap.size 3 i0 _ 1 8 Tryd.underlying23 hi0 hz0 hz1 hz2 rfl (by decide) (.slice a5 inn.length c5) inn.length (ints inn) (by first | rfl | simp [Act.eval, Act.put]) (M3.out.o _ rfl) (.slice (some ⟨W1.heap.size, 0, none⟩) 1 1) 1 (ints [n]) (by first | rfl | simp [Act.eval, Act.put]) (M3.out.s _ rfl) (ints_cell _) (by unfold maxLen; omega) (by omega) M3.out.d.size ?_
              intro v8 W4 o8 f8 h8
              obtain ⟨a8, c8, rfl⟩ := own_form o8
              have m := M3.out.eight o8 f8 h8
              refine hK _ _ (fun _ => m.d) (fun hh => ?_)
              have hHeld := hh (by decide)
              clear hK K hh
              try simp only [Act.put, List.getElem_toArray, List.getElem_cons_zero, List.getElem_cons_succ, List.setIfInBounds_toArray, List.set_cons_zero, List.set_cons_succ]
              have M4 := Lib.hid m
              clear m M3 o8 f8 h8
              refine Still.takeBy (i := 9) [] (by kernel_rfl) (by kernel_rfl) rfl (by kernel_rfl) (by kernel_rfl) (by kernel_rfl) (fun _ _ _ h => h) (yields_build rfl _ _ rfl #[(0, .slice cao l.length ccap), (1, .slice a8 (inn.length + 1) c8)] (by first | rfl | simp [Act.eval, Act.put]) _ (build_part cao a8 l.length ccap (inn.length + 1) c8)) hHeld ?r231
              simp only [Act.put, List.getElem_toArray, List.getElem_cons_zero, List.getElem_cons_succ, List.setIfInBounds_toArray, List.set_cons_zero, List.set_cons_succ]
              refine Still.all (rs := [10]) (by kernel_rfl) (by simp) (Still.one (i := 10) rfl rfl (fun K hK => ?_) (by simp))
              go_simp
              have m := M4.out.ten (rfl : W4.heap.size = W4.heap.size)
              refine hK _ _ (fun _ => m.d) (fun hh => ?_)
              have hHeld := hh (by decide)
              clear hK K hh
              try simp only [Act.put, List.getElem_toArray, List.getElem_cons_zero, List.getElem_cons_succ, List.setIfInBounds_toArray, List.set_cons_zero, List.set_cons_succ]
              generalize World.alloc _ _ = W5 at m hHeld ⊢
              have M5 := Lib.hid m
              clear m M4
              refine Still.all (rs := [11]) (by kernel_rfl) (by simp) (Still.one (i := 11) rfl rfl (fun K hK => ?_) (by simp))
              refine wp_store_row 25 _ _ rfl (W4.heap.size) #[.slice cao l.length ccap, .slice a8 (inn.length + 1) c8] (by first | rfl | simp [Act.eval, Act.put]) (by first | rfl | simp [Act.eval, Act.put]) 25 #[.slice none 0 0, .slice none 0 0] (M5.out.r _ rfl).1 sizePart rfl (part_one _ _ rfl rfl) ?_
              refine hK _ _ (fun h => absurd rfl h) (fun _ => ?_)
              clear hK K
              refine Still.over (by kernel_rfl) ?_ _
              clear hHeld
              go_wp2
              go_meet
              exact ⟨_, a8, c8, rfl, M5.out.done _⟩
            · go_simp
              have m := M3.out.ten (rfl : W3.heap.size = W3.heap.size)
              refine hK _ _ (fun _ => m.d) (fun hh => ?_)
              have hHeld := hh (by decide)
              clear hK K hh
              try simp only [Act.put, List.getElem_toArray, List.getElem_cons_zero, List.getElem_cons_succ, List.setIfInBounds_toArray, List.set_cons_zero, List.set_cons_succ]
              generalize World.alloc _ _ = W4 at m hHeld ⊢
              have M4 := Lib.hid m
              clear m M3
              refine Still.all (rs := [8]) (by kernel_rfl) (by simp) (Still.one (i := 8) rfl rfl (fun K hK => ?_) (by simp))
              refine wp_append_sl (.tmp 103) (.tmp 105) 23 rfl wc.heap.size 3 i0 _ 1 8 Tryd.underlying23 hi0 hz0 hz1 hz2 rfl (by decide) (.slice a5 inn.length c5) inn.length (ints inn) (by first | rfl | simp [Act.eval, Act.put]) (M4.out.o _ rfl) (.slice (some ⟨W1.heap.size, 0, none⟩) 1 1) 1 (ints [n]) (by first | rfl | simp [Act.eval, Act.put]) (M4.out.s _ rfl) (ints_cell _) (by unfold maxLen; omega) (by omega) M4.out.d.size ?_
              intro v8 W5 o8 f8 h8
              obtain ⟨a8, c8, rfl⟩ := own_form o8
              have m := M4.out.eight o8 f8 h8
              refine hK _ _ (fun _ => m.d) (fun hh => ?_)
              have hHeld := hh (by decide)
              clear hK K hh
              try simp only [Act.put, List.getElem_toArray, List.getElem_cons_zero, List.getElem_cons_succ, List.setIfInBounds_toArray, List.set_cons_zero, List.set_cons_succ]
              have M5 := Lib.hid m
              clear m M4 o8 f8 h8
              refine Still.takeBy (i := 9) [] (by kernel_rfl) (by kernel_rfl) rfl (by kernel_rfl) (by kernel_rfl) (by kernel_rfl) (fun _ _ _ h => h) (yields_build rfl _ _ rfl #[(0, .slice cao l.length ccap), (1, .slice a8 (inn.length + 1) c8)] (by first | rfl | simp [Act.eval, Act.put]) _ (build_part cao a8 l.length ccap (inn.length + 1) c8)) hHeld ?r241
              simp only [Act.put, List.getElem_toArray, List.getElem_cons_zero, List.getElem_cons_succ, List.setIfInBounds_toArray, List.set_cons_zero, List.set_cons_succ]
              refine Still.all (rs := [11]) (by kernel_rfl) (by simp) (Still.one (i := 11) rfl rfl (fun K hK => ?_) (by simp))
              refine wp_store_row 25 _ _ rfl (W3.heap.size) #[.slice cao l.length ccap, .slice a8 (inn.length + 1) c8] (by first | rfl | simp [Act.eval, Act.put]) (by first | rfl | simp [Act.eval, Act.put]) 25 #[.slice none 0 0, .slice none 0 0] (M5.out.r _ rfl).1 sizePart rfl (part_one _ _ rfl rfl) ?_
              refine hK _ _ (fun h => absurd rfl h) (fun _ => ?_)
              clear hK K
              refine Still.over (by kernel_rfl) ?_ _
              clear hHeld
              go_wp2
              go_meet
              exact ⟨_, a8, c8, rfl, M5.out.done _⟩
          · go_simp
            have m := M2.out.ten (rfl : W2.heap.size = W2.heap.size)
            refine hK _ _ (fun _ => m.d) (fun hh => ?_)
            have hHeld := hh (by decide)
            clear hK K hh
            try simp only [Act.put, List.getElem_toArray, List.getElem_cons_zero, List.getElem_cons_succ, List.setIfInBounds_toArray, List.set_cons_zero, List.set_cons_succ]
            generalize World.alloc _ _ = W3 at m hHeld ⊢
            have M3 := Lib.hid m
            clear m M2
            refine Still.all (rs := [5]) (by kernel_rfl) (by simp) (Still.one (i := 5) rfl rfl (fun K hK => ?_) (by simp))
            refine wp_append_lit (.tmp 100) (.tmp 102) 23 rfl wc.heap.size 3 i0 _ 1 8 Tryd.underlying23 hi0 hz0 hz1 hz2 rfl (by decide) W0.heap.size (by first | rfl | simp [Act.eval, Act.put]) (M3.out.e _ rfl).1 (M3.out.e _ rfl).2 (.slice iao inn.length icap) inn.length (ints inn) (by first | rfl | simp [Act.eval, Act.put]) ((HI.out.up H.out.dd).up M3.out.d) (ints_cell _) (by unfold maxLen; omega) (by omega) ?_
            intro v5 W4 o5 f5 h5
            obtain ⟨a5, c5, rfl⟩ := own_form o5
            have m := M3.out.five o5 f5 h5
            refine hK _ _ (fun _ => m.d) (fun hh => ?_)
            have hHeld := hh (by decide)
            clear hK K hh
            try simp only [Act.put, List.getElem_toArray, List.getElem_cons_zero, List.getElem_cons_succ, List.setIfInBounds_toArray, List.set_cons_zero, List.set_cons_succ]
            have M4 := Lib.hid m
            clear m M3 o5 f5 h5
            refine Still.all (rs := [8]) (by kernel_rfl) (by simp) (Still.one (i := 8) rfl rfl (fun K hK => ?_) (by simp))
            refine wp_append_sl (.tmp 103) (.tmp 105) 23 rfl wc.heap.size 3 i0 _ 1 8 Tryd.underlying23 hi0 hz0 hz1 hz2 rfl (by decide) (.slice a5 inn.length c5) inn.length (ints inn) (by first | rfl | simp [Act.eval, Act.put]) (M4.out.o _ rfl) (.slice (some ⟨W1.heap.size, 0, none⟩) 1 1) 1 (ints [n]) (by first | rfl | simp [Act.eval, Act.put]) (M4.out.s _ rfl) (ints_cell _) (by unfold maxLen; omega) (by omega) M4.out.d.size ?_
            intro v8 W5 o8 f8 h8
            obtain ⟨a8, c8, rfl⟩ := own_form o8
            have m := M4.out.eight o8 f8 h8
            refine hK _ _ (fun _ => m.d) (fun hh => ?_)
            have hHeld := hh (by decide)
            clear hK K hh
            try simp only [Act.put, List.getElem_toArray, List.getElem_cons_zero, List.getElem_cons_succ, List.setIfInBounds_toArray, List.set_cons_zero, List.set_cons_succ]
            have M5 := Lib.hid m
            clear m M4 o8 f8 h8
            refine Still.takeBy (i := 9) [] (by kernel_rfl) (by kernel_rfl) rfl (by kernel_rfl) (by kernel_rfl) (by kernel_rfl) (fun _ _ _ h => h) (yields_build rfl _ _ rfl #[(0, .slice cao l.length ccap), (1, .slice a8 (inn.length + 1) c8)] (by first | rfl | simp [Act.eval, Act.put]) _ (build_part cao a8 l.length ccap (inn.length + 1) c8)) hHeld ?r251
            simp only [Act.put, List.getElem_toArray, List.getElem_cons_zero, List.getElem_cons_succ, List.setIfInBounds_toArray, List.set_cons_zero, List.set_cons_succ]
            refine Still.all (rs := [11]) (by kernel_rfl) (by simp) (Still.one (i := 11) rfl rfl (fun K hK => ?_) (by simp))
            refine wp_store_row 25 _ _ rfl (W2.heap.size) #[.slice cao l.length ccap, .slice a8 (inn.length + 1) c8] (by first | rfl | simp [Act.eval, Act.put]) (by first | rfl | simp [Act.eval, Act.put]) 25 #[.slice none 0 0, .slice none 0 0] (M5.out.r _ rfl).1 sizePart rfl (part_one _ _ rfl rfl) ?_
            refine hK _ _ (fun h => absurd rfl h) (fun _ => ?_)
            clear hK K
            refine Still.over (by kernel_rfl) ?_ _
            clear hHeld
            go_wp2
            go_meet
            exact ⟨_, a8, c8, rfl, M5.out.done _⟩
        · go_simp
          have m := M1.out.ten (rfl : W1.heap.size = W1.heap.size)
          refine hK _ _ (fun _ => m.d) (fun hh => ?_)
          have hHeld := hh (by decide)
          clear hK K hh
          try simp only [Act.put, List.getElem_toArray, List.getElem_cons_zero, List.getElem_cons_succ, List.setIfInBounds_toArray, List.set_cons_zero, List.set_cons_succ]
          generalize World.alloc _ _ = W2 at m hHeld ⊢
          have M2 := Lib.hid m
          clear m M1
          refine Still.all (rs := [5, 7]) (by kernel_rfl) (by simp) (Still.one (i := 5) rfl rfl (fun K hK => ?_) (Still.one (i := 7) rfl rfl (fun K hK => ?_) (by simp)))
          · refine wp_append_lit (.tmp 100) (.tmp 102) 23 rfl wc.heap.size 3 i0 _ 1 8 Tryd.underlying23 hi0 hz0 hz1 hz2 rfl (by decide) W0.heap.size (by first | rfl | simp [Act.eval, Act.put]) (M2.out.e _ rfl).1 (M2.out.e _ rfl).2 (.slice iao inn.length icap) inn.length (ints inn) (by first | rfl | simp [Act.eval, Act.put]) ((HI.out.up H.out.dd).up M2.out.d) (ints_cell _) (by unfold maxLen; omega) (by omega) ?_
            intro v5 W3 o5 f5 h5
            obtain ⟨a5, c5, rfl⟩ := own_form o5
            have m := M2.out.five o5 f5 h5
            refine hK _ _ (fun _ => m.d) (fun hh => ?_)
            have hHeld := hh (by decide)
            clear hK K hh
            try simp only [Act.put, List.getElem_toArray, List.getElem_cons_zero, List.getElem_cons_succ, List.setIfInBounds_toArray, List.set_cons_zero, List.set_cons_succ]
            have M3 := Lib.hid m
            clear m M2 o5 f5 h5
            refine Still.all (rs := [7]) (by kernel_rfl) (by simp) (Still.one (i := 7) rfl rfl (fun K hK => ?_) (by simp))
            go_simp
            have m := M3.out.seven (rfl : W3.heap.size = W3.heap.size)
            refine hK _ _ (fun _ => m.d) (fun hh => ?_)
            have hHeld := hh (by decide)
            clear hK K hh
            try simp only [Act.put, List.getElem_toArray, List.getElem_cons_zero, List.getElem_cons_succ, List.setIfInBounds_toArray, List.set_cons_zero, List.set_cons_succ]
            generalize World.alloc _ _ = W4 at m hHeld ⊢
            have M4 := Lib.hid m
            clear m M3
            refine Still.all (rs := [8]) (by kernel_rfl) (by simp) (Still.one (i := 8) rfl rfl (fun K hK => ?_) (by simp))
            refine wp_append_sl (.tmp 103) (.tmp 105) 23 rfl wc.heap.size 3 i0 _ 1 8 Tryd.underlying23 hi0 hz0 hz1 hz2 rfl (by decide) (.slice a5 inn.length c5) inn.length (ints inn) (by first | rfl | simp [Act.eval, Act.put]) (M4.out.o _ rfl) (.slice (some ⟨W3.heap.size, 0, none⟩) 1 1) 1 (ints [n]) (by first | rfl | simp [Act.eval, Act.put]) (M4.out.s _ rfl) (ints_cell _) (by unfold maxLen; omega) (by omega) M4.out.d.size ?_
            intro v8 W5 o8 f8 h8
            obtain ⟨a8, c8, rfl⟩ := own_form o8
            have m := M4.out.eight o8 f8 h8
            refine hK _ _ (fun _ => m.d) (fun hh => ?_)
            have hHeld := hh (by decide)
            clear hK K hh
            try simp only [Act.put, List.getElem_toArray, List.getElem_cons_zero, List.getElem_cons_succ, List.setIfInBounds_toArray, List.set_cons_zero, List.set_cons_succ]
            have M5 := Lib.hid m
            clear m M4 o8 f8 h8
            refine Still.takeBy (i := 9) [] (by kernel_rfl) (by kernel_rfl) rfl (by kernel_rfl) (by kernel_rfl) (by kernel_rfl) (fun _ _ _ h => h) (yields_build rfl _ _ rfl #[(0, .slice cao l.length ccap), (1, .slice a8 (inn.length + 1) c8)] (by first | rfl | simp [Act.eval, Act.put]) _ (build_part cao a8 l.length ccap (inn.length + 1) c8)) hHeld ?r261
            simp only [Act.put, List.getElem_toArray, List.getElem_cons_zero, List.getElem_cons_succ, List.setIfInBounds_toArray, List.set_cons_zero, List.set_cons_succ]
            refine Still.all (rs := [11]) (by kernel_rfl) (by simp) (Still.one (i := 11) rfl rfl (fun K hK => ?_) (by simp))
            refine wp_store_row 25 _ _ rfl (W1.heap.size) #[.slice cao l.length ccap, .slice a8 (inn.length + 1) c8] (by first | rfl | simp [Act.eval, Act.put]) (by first | rfl | simp [Act.eval, Act.put]) 25 #[.slice none 0 0, .slice none 0 0] (M5.out.r _ rfl).1 sizePart rfl (part_one _ _ rfl rfl) ?_
            refine hK _ _ (fun h => absurd rfl h) (fun _ => ?_)
            clear hK K
            refine Still.over (by kernel_rfl) ?_ _
            clear hHeld
            go_wp2
            go_meet
            exact ⟨_, a8, c8, rfl, M5.out.done _⟩
          · go_simp
            have m := M2.out.seven (rfl : W2.heap.size = W2.heap.size)
            refine hK _ _ (fun _ => m.d) (fun hh => ?_)
            have hHeld := hh (by decide)
            clear hK K hh
            try simp only [Act.put, List.getElem_toArray, List.getElem_cons_zero, List.getElem_cons_succ, List.setIfInBounds_toArray, List.set_cons_zero, List.set_cons_succ]
            generalize World.alloc _ _ = W3 at m hHeld ⊢
            have M3 := Lib.hid m
            clear m M2
            refine Still.all (rs := [5]) (by kernel_rfl) (by simp) (Still.one (i := 5) rfl rfl (fun K hK => ?_) (by simp))
            refine wp_append_lit (.tmp 100) (.tmp 102) 23 rfl wc.heap.size 3 i0 _ 1 8 Tryd.underlying23 hi0 hz0 hz1 hz2 rfl (by decide) W0.heap.size (by first | rfl | simp [Act.eval, Act.put]) (M3.out.e _ rfl).1 (M3.out.e _ rfl).2 (.slice iao inn.length icap) inn.length (ints inn) (by first | rfl | simp [Act.eval, Act.put]) ((HI.out.up H.out.dd).up M3.out.d) (ints_cell _) (by unfold maxLen; omega) (by omega) ?_
            intro v5 W4 o5 f5 h5
            obtain ⟨a5, c5, rfl⟩ := own_form o5
            have m := M3.out.five o5 f5 h5
            refine hK _ _ (fun _ => m.d) (fun hh => ?_)
            have hHeld := hh (by decide)
            clear hK K hh
            try simp only [Act.put, List.getElem_toArray, List.getElem_cons_zero, List.getElem_cons_succ, List.setIfInBounds_toArray, List.set_cons_zero, List.set_cons_succ]
            have M4 := Lib.hid m
            clear m M3 o5 f5 h5
            refine Still.all (rs := [8]) (by kernel_rfl) (by simp) (Still.one (i := 8) rfl rfl (fun K hK => ?_) (by simp))
            refine wp_append_sl (.tmp 103) (.tmp 105) 23 rfl wc.heap.size 3 i0 _ 1 8 Tryd.underlying23 hi0 hz0 hz1 hz2 rfl (by decide) (.slice a5 inn.length c5) inn.length (ints inn) (by first | rfl | simp [Act.eval, Act.put]) (M4.out.o _ rfl) (.slice (some ⟨W2.heap.size, 0, none⟩) 1 1) 1 (ints [n]) (by first | rfl | simp [Act.eval, Act.put]) (M4.out.s _ rfl) (ints_cell _) (by unfold maxLen; omega) (by omega) M4.out.d.size ?_
            intro v8 W5 o8 f8 h8
            obtain ⟨a8, c8, rfl⟩ := own_form o8
            have m := M4.out.eight o8 f8 h8
            refine hK _ _ (fun _ => m.d) (fun hh => ?_)
            have hHeld := hh (by decide)
            clear hK K hh
            try simp only [Act.put, List.getElem_toArray, List.getElem_cons_zero, List.getElem_cons_succ, List.setIfInBounds_toArray, List.set_cons_zero, List.set_cons_succ]
            have M5 := Lib.hid m
            clear m M4 o8 f8 h8
            refine Still.takeBy (i := 9) [] (by kernel_rfl) (by kernel_rfl) rfl (by kernel_rfl) (by kernel_rfl) (by kernel_rfl) (fun _ _ _ h => h) (yields_build rfl _ _ rfl #[(0, .slice cao l.length ccap), (1, .slice a8 (inn.length + 1) c8)] (by first | rfl | simp [Act.eval, Act.put]) _ (build_part cao a8 l.length ccap (inn.length + 1) c8)) hHeld ?r271
            simp only [Act.put, List.getElem_toArray, List.getElem_cons_zero, List.getElem_cons_succ, List.setIfInBounds_toArray, List.set_cons_zero, List.set_cons_succ]
            refine Still.all (rs := [11]) (by kernel_rfl) (by simp) (Still.one (i := 11) rfl rfl (fun K hK => ?_) (by simp))
            refine wp_store_row 25 _ _ rfl (W1.heap.size) #[.slice cao l.length ccap, .slice a8 (inn.length + 1) c8] (by first | rfl | simp [Act.eval, Act.put]) (by first | rfl | simp [Act.eval, Act.put]) 25 #[.slice none 0 0, .slice none 0 0] (M5.out.r _ rfl).1 sizePart rfl (part_one _ _ rfl rfl) ?_
            refine hK _ _ (fun h => absurd rfl h) (fun _ => ?_)
            clear hK K
            refine Still.over (by kernel_rfl) ?_ _
            clear hHeld
            go_wp2
            go_meet
            exact ⟨_, a8, c8, rfl, M5.out.done _⟩
      · go_simp
        have m := M0.out.seven (rfl : W0.heap.size = W0.heap.size)
        refine hK _ _ (fun _ => m.d) (fun hh => ?_)
        have hHeld := hh (by decide)
        clear hK K hh
        try simp only [Act.put, List.getElem_toArray, List.getElem_cons_zero, List.getElem_cons_succ, List.setIfInBounds_toArray, List.set_cons_zero, List.set_cons_succ]
        generalize World.alloc _ _ = W1 at m hHeld ⊢
        have M1 := Lib.hid m
        clear m M0
        refine Still.all (rs := [2, 10]) (by kernel_rfl) (by simp) (Still.one (i := 2) rfl rfl (fun K hK => ?_) (Still.one (i := 10) rfl rfl (fun K hK => ?_) (by simp)))
        · go_simp
          have m := M1.out.two (rfl : W1.heap.size = W1.heap.size)
          refine hK _ _ (fun _ => m.d) (fun hh => ?_)
          have hHeld := hh (by decide)
          clear hK K hh
          try simp only [Act.put, List.getElem_toArray, List.getElem_cons_zero, List.getElem_cons_succ, List.setIfInBounds_toArray, List.set_cons_zero, List.set_cons_succ]
          generalize World.alloc _ _ = W2 at m hHeld ⊢
          have M2 := Lib.hid m
          clear m M1
          refine Still.all (rs := [5, 10]) (by kernel_rfl) (by simp) (Still.one (i := 5) rfl rfl (fun K hK => ?_) (Still.one (i := 10) rfl rfl (fun K hK => ?_) (by simp)))
          · refine wp_append_lit (.tmp 100) (.tmp 102) 23 rfl wc.heap.size 3 i0 _ 1 8 Tryd.underlying23 hi0 hz0 hz1 hz2 rfl (by decide) W1.heap.size (by first | rfl | simp [Act.eval, Act.put]) (M2.out.e _ rfl).1 (M2.out.e _ rfl).2 (.slice iao inn.length icap) inn.length (ints inn) (by first | rfl | simp [Act.eval, Act.put]) ((HI.out.up H.out.dd).up M2.out.d) (ints_cell _) (by unfold maxLen; omega) (by omega) ?_
            intro v5 W3 o5 f5 h5
            obtain ⟨a5, c5, rfl⟩ := own_form o5
            have m := M2.out.five o5 f5 h5
            refine hK _ _ (fun _ => m.d) (fun hh => ?_)
            have hHeld := hh (by decide)
            clear hK K hh
            try simp only [Act.put, List.getElem_toArray, List.getElem_cons_zero, List.getElem_cons_succ, List.setIfInBounds_toArray, List.set_cons_zero, List.set_cons_succ]
            have M3 := Lib.hid m
            clear m M2 o5 f5 h5
            refine Still.all (rs := [8, 10]) (by kernel_rfl) (by simp) (Still.one (i := 8) rfl rfl (fun K hK => ?_) (Still.one (i := 10) rfl rfl (fun K hK => ?_) (by simp)))
            · refine wp_append_sl (.tmp 103) (.tmp 105) 23 rfl wc.heap.size 3 i0 _ 1 8 Tryd.underlying23 hi0 hz0 hz1 hz2 rfl (by decide) (.slice a5 inn.length c5) inn.length (ints inn) (by first | rfl | simp [Act.eval, Act.put]) (M3.out.o _ rfl) (.slice (some ⟨W0.heap.size, 0, none⟩) 1 1) 1 (ints [n]) (by first | rfl | simp [Act.eval, Act.put]) (M3.out.s _ rfl) (ints_cell _) (by unfold maxLen; omega) (by omega) M3.out.d.size ?_
              intro v8 W4 o8 f8 h8
              obtain ⟨a8, c8, rfl⟩ := own_form o8
              have m := M3.out.eight o8 f8 h8
              refine hK _ _ (fun _ => m.d) (fun hh => ?_)
              have hHeld := hh (by decide)
              clear hK K hh
              try simp only [Act.put, List.getElem_toArray, List.getElem_cons_zero, List.getElem_cons_succ, List.setIfInBounds_toArray, List.set_cons_zero, List.set_cons_succ]
              have M4 := Lib.hid m
              clear m M3 o8 f8 h8
              refine Still.takeBy (i := 9) [] (by kernel_rfl) (by kernel_rfl) rfl (by kernel_rfl) (by kernel_rfl) (by kernel_rfl) (fun _ _ _ h => h) (yields_build rfl _ _ rfl #[(0, .slice cao l.length ccap), (1, .slice a8 (inn.length + 1) c8)] (by first | rfl | simp [Act.eval, Act.put]) _ (build_part cao a8 l.length ccap (inn.length + 1) c8)) hHeld ?r281
              simp only [Act.put, List.getElem_toArray, List.getElem_cons_zero, List.getElem_cons_succ, List.setIfInBounds_toArray, List.set_cons_zero, List.set_cons_succ]
              refine Still.all (rs := [10]) (by kernel_rfl) (by simp) (Still.one (i := 10) rfl rfl (fun K hK => ?_) (by simp))
              go_simp
              have m := M4.out.ten (rfl : W4.heap.size = W4.heap.size)
              refine hK _ _ (fun _ => m.d) (fun hh => ?_)
              have hHeld := hh (by decide)
              clear hK K hh
              try simp only [Act.put, List.getElem_toArray, List.getElem_cons_zero, List.getElem_cons_succ, List.setIfInBounds_toArray, List.set_cons_zero, List.set_cons_succ]
              generalize World.alloc _ _ = W5 at m hHeld ⊢
              have M5 := Lib.hid m
              clear m M4
              refine Still.all (rs := [11]) (by kernel_rfl) (by simp) (Still.one (i := 11) rfl rfl (fun K hK => ?_) (by simp))
              refine wp_store_row 25 _ _ rfl (W4.heap.size) #[.slice cao l.length ccap, .slice a8 (inn.length + 1) c8] (by first | rfl | simp [Act.eval, Act.put]) (by first | rfl | simp [Act.eval, Act.put]) 25 #[.slice none 0 0, .slice none 0 0] (M5.out.r _ rfl).1 sizePart rfl (part_one _ _ rfl rfl) ?_
              refine hK _ _ (fun h => absurd rfl h) (fun _ => ?_)
              clear hK K
              refine Still.over (by kernel_rfl) ?_ _
              clear hHeld
              go_wp2
              go_meet
              exact ⟨_, a8, c8, rfl, M5.out.done _⟩
            · go_simp
              have m := M3.out.ten (rfl : W3.heap.size = W3.heap.size)
              refine hK _ _ (fun _ => m.d) (fun hh => ?_)
              have hHeld := hh (by decide)
              clear hK K hh
              try simp only [Act.put, List.getElem_toArray, List.getElem_cons_zero, List.getElem_cons_succ, List.setIfInBounds_toArray, List.set_cons_zero, List.set_cons_succ]
              generalize World.alloc _ _ = W4 at m hHeld ⊢
              have M4 := Lib.hid m
              clear m M3
              refine Still.all (rs := [8]) (by kernel_rfl) (by simp) (Still.one (i := 8) rfl rfl (fun K hK => ?_) (by simp))
              refine wp_append_sl (.tmp 103) (.tmp 105) 23 rfl wc.heap.size 3 i0 _ 1 8 Tryd.underlying23 hi0 hz0 hz1 hz2 rfl (by decide) (.slice a5 inn.length c5) inn.length (ints inn) (by first | rfl | simp [Act.eval, Act.put]) (M4.out.o _ rfl) (.slice (some ⟨W0.heap.size, 0, none⟩) 1 1) 1 (ints [n]) (by first | rfl | simp [Act.eval, Act.put]) (M4.out.s _ rfl) (ints_cell _) (by unfold maxLen; omega) (by omega) M4.out.d.size ?_
              intro v8 W5 o8 f8 h8
              obtain ⟨a8, c8, rfl⟩ := own_form o8
              have m := M4.out.eight o8 f8 h8
              refine hK _ _ (fun _ => m.d) (fun hh => ?_)
              have hHeld := hh (by decide)
              clear hK K hh
              try simp only [Act.put, List.getElem_toArray, List.getElem_cons_zero, List.getElem_cons_succ, List.setIfInBounds_toArray, List.set_cons_zero, List.set_cons_succ]
              have M5 := Lib.hid m
              clear m M4 o8 f8 h8
              refine Still.takeBy (i := 9) [] (by kernel_rfl) (by kernel_rfl) rfl (by kernel_rfl) (by kernel_rfl) (by kernel_rfl) (fun _ _ _ h => h) (yields_build rfl _ _ rfl #[(0, .slice cao l.length ccap), (1, .slice a8 (inn.length + 1) c8)] (by first | rfl | simp [Act.eval, Act.put]) _ (build_part cao a8 l.length ccap (inn.length + 1) c8)) hHeld ?r291
              simp only [Act.put, List.getElem_toArray, List.getElem_cons_zero, List.getElem_cons_succ, List.setIfInBounds_toArray, List.set_cons_zero, List.set_cons_succ]
              refine Still.all (rs := [11]) (by kernel_rfl) (by simp) (Still.one (i := 11) rfl rfl (fun K hK => ?_) (by simp))
              refine wp_store_row 25 _ _ rfl (W3.heap.size) #[.slice cao l.length ccap, .slice a8 (inn.length + 1) c8] (by first | rfl | simp [Act.eval, Act.put]) (by first | rfl | simp [Act.eval, Act.put]) 25 #[.slice none 0 0, .slice none 0 0] (M5.out.r _ rfl).1 sizePart rfl (part_one _ _ rfl rfl) ?_
              refine hK _ _ (fun h => absurd rfl h) (fun _ => ?_)
              clear hK K
              refine Still.over (by kernel_rfl) ?_ _
              clear hHeld
              go_wp2
              go_meet
              exact ⟨_, a8, c8, rfl, M5.out.done _⟩
          · go_simp
            have m := M2.out.ten (rfl : W2.heap.size = W2.heap.size)
            refine hK _ _ (fun _ => m.d) (fun hh => ?_)
            have hHeld := hh (by decide)
            clear hK K hh
            try simp only [Act.put, List.getElem_toArray, List.getElem_cons_zero, List.getElem_cons_succ, List.setIfInBounds_toArray, List.set_cons_zero, List.set_cons_succ]
            generalize World.alloc _ _ = W3 at m hHeld ⊢
            have M3 := Lib.hid m
            clear m M2
            refine Still.all (rs := [5]) (by kernel_rfl) (by simp) (Still.one (i := 5) rfl rfl (fun K hK => ?_) (by simp))
            refine wp_append_lit (.tmp 100) (.tmp 102) 23 rfl wc.heap.size 3 i0 _ 1 8 Tryd.underlying23 hi0 hz0 hz1 hz2 rfl (by decide) W1.heap.size (by first | rfl | simp [Act.eval, Act.put]) (M3.out.e _ rfl).1 (M3.out.e _ rfl).2 (.slice iao inn.length icap) inn.length (ints inn) (by first | rfl | simp [Act.eval, Act.put]) ((HI.out.up H.out.dd).up M3.out.d) (ints_cell _) (by unfold maxLen; omega) (by omega) ?_
            intro v5 W4 o5 f5 h5
            obtain ⟨a5, c5, rfl⟩ := own_form o5
            have m := M3.out.five o5 f5 h5
            refine hK _ _ (fun _ => m.d) (fun hh => ?_)
            have hHeld := hh (by decide)
            clear hK K hh
            try simp only [Act.put, List.getElem_toArray, List.getElem_cons_zero, List.getElem_cons_succ, List.setIfInBounds_toArray, List.set_cons_zero, List.set_cons_succ]
            have M4 := Lib.hid m
            clear m M3 o5 f5 h5
            refine Still.all (rs := [8]) (by kernel_rfl) (by simp) (Still.one (i := 8) rfl rfl (fun K hK => ?_) (by simp))
            refine wp_append_sl (.tmp 103) (.tmp 105) 23 rfl wc.heap.size 3 i0 _ 1 8 Tryd.underlying23 hi0 hz0 hz1 hz2 rfl (by decide) (.slice a5 inn.length c5) inn.length (ints inn) (by first | rfl | simp [Act.eval, Act.put]) (M4.out.o _ rfl) (.slice (some ⟨W0.heap.size, 0, none⟩) 1 1) 1 (ints [n]) (by first | rfl | simp [Act.eval, Act.put]) (M4.out.s _ rfl) (ints_cell _) (by unfold maxLen; omega) (by omega) M4.out.d.size ?_
            intro v8 W5 o8 f8 h8
            obtain ⟨a8, c8, rfl⟩ := own_form o8
            have m := M4.out.eight o8 f8 h8
            refine hK _ _ (fun _ => m.d) (fun hh => ?_)
            have hHeld := hh (by decide)
            clear hK K hh
            try simp only [Act.put, List.getElem_toArray, List.getElem_cons_zero, List.getElem_cons_succ, List.setIfInBounds_toArray, List.set_cons_zero, List.set_cons_succ]
            have M5 := Lib.hid m
            clear m M4 o8 f8 h8
            refine Still.takeBy (i := 9) [] (by kernel_rfl) (by kernel_rfl) rfl (by kernel_rfl) (by kernel_rfl) (by kernel_rfl) (fun _ _ _ h => h) (yields_build rfl _ _ rfl #[(0, .slice cao l.length ccap), (1, .slice a8 (inn.length + 1) c8)] (by first | rfl | simp [Act.eval, Act.put]) _ (build_part cao a8 l.length ccap (inn.length + 1) c8)) hHeld ?r301
            simp only [Act.put, List.getElem_toArray, List.getElem_cons_zero, List.getElem_cons_succ, List.setIfInBounds_toArray, List.set_cons_zero, List.set_cons_succ]
            refine Still.all (rs := [11]) (by kernel_rfl) (by simp) (Still.one (i := 11) rfl rfl (fun K hK => ?_) (by simp))
            refine wp_store_row 25 _ _ rfl (W2.heap.size) #[.slice cao l.length ccap, .slice a8 (inn.length + 1) c8] (by first | rfl | simp [Act.eval, Act.put]) (by first | rfl | simp [Act.eval, Act.put]) 25 #[.slice none 0 0, .slice none 0 0] (M5.out.r _ rfl).1 sizePart rfl (part_one _ _ rfl rfl) ?_
            refine hK _ _ (fun h => absurd rfl h) (fun _ => ?_)
            clear hK K
            refine Still.over (by kernel_rfl) ?_ _
            clear hHeld
            go_wp2
            go_meet
            exact ⟨_, a8, c8, rfl, M5.out.done _⟩
        · go_simp
          have m := M1.out.ten (rfl : W1.heap.size = W1.heap.size)
          refine hK _ _ (fun _ => m.d) (fun hh => ?_)
          have hHeld := hh (by decide)
          clear hK K hh
          try simp only [Act.put, List.getElem_toArray, List.getElem_cons_zero, List.getElem_cons_succ, List.setIfInBounds_toArray, List.set_cons_zero, List.set_cons_succ]
          generalize World.alloc _ _ = W2 at m hHeld ⊢
          have M2 := Lib.hid m
          clear m M1
          refine Still.all (rs := [2]) (by kernel_rfl) (by simp) (Still.one (i := 2) rfl rfl (fun K hK => ?_) (by simp))
          go_simp
          have m := M2.out.two (rfl : W2.heap.size = W2.heap.size)
          refine hK _ _ (fun _ => m.d) (fun hh => ?_)
          have hHeld := hh (by decide)
          clear hK K hh
          try simp only [Act.put, List.getElem_toArray, List.getElem_cons_zero, List.getElem_cons_succ, List.setIfInBounds_toArray, List.set_cons_zero, List.set_cons_succ]
          generalize World.alloc _ _ = W3 at m hHeld ⊢
          have M3 := Lib.hid m
          clear m M2
          refine Still.all (rs := [5]) (by kernel_rfl) (by simp) (Still.one (i := 5) rfl rfl (fun K hK => ?_) (by simp))
          refine wp_append_lit (.tmp 100) (.tmp 102) 23 rfl wc.heap.size 3 i0 _ 1 8 Tryd.underlying23 hi0 hz0 hz1 hz2 rfl (by decide) W2.heap.size (by first | rfl | simp [Act.eval, Act.put]) (M3.out.e _ rfl).1 (M3.out.e _ rfl).2 (.slice iao inn.length icap) inn.length (ints inn) (by first | rfl | simp [Act.eval, Act.put]) ((HI.out.up H.out.dd).up M3.out.d) (ints_cell _) (by unfold maxLen; omega) (by omega) ?_
          intro v5 W4 o5 f5 h5
          obtain ⟨a5, c5, rfl⟩ := own_form o5
          have m := M3.out.five o5 f5 h5
          refine hK _ _ (fun _ => m.d) (fun hh => ?_)
          have hHeld := hh (by decide)
          clear hK K hh
          try simp only [Act.put, List.getElem_toArray, List.getElem_cons_zero, List.getElem_cons_succ, List.setIfInBounds_toArray, List.set_cons_zero, List.set_cons_succ]
          have M4 := Lib.hid m
          clear m M3 o5 f5 h5
          refine Still.all (rs := [8]) (by kernel_rfl) (by simp) (Still.one (i := 8) rfl rfl (fun K hK => ?_) (by simp))
          refine wp_append_sl (.tmp 103) (.tmp 105) 23 rfl wc.heap.size 3 i0 _ 1 8 Tryd.underlying23 hi0 hz0 hz1 hz2 rfl (by decide) (.slice a5 inn.length c5) inn.length (ints inn) (by first | rfl | simp [Act.eval, Act.put]) (M4.out.o _ rfl) (.slice (some ⟨W0.heap.size, 0, none⟩) 1 1) 1 (ints [n]) (by first | rfl | simp [Act.eval, Act.put]) (M4.out.s _ rfl) (ints_cell _) (by unfold maxLen; omega) (by omega) M4.out.d.size ?_
          intro v8 W5 o8 f8 h8
          obtain ⟨a8, c8, rfl⟩ := own_form o8
          have m := M4.out.eight o8 f8 h8
          refine hK _ _ (fun _ => m.d) (fun hh => ?_)
          have hHeld := hh (by decide)
          clear hK K hh
          try simp only [Act.put, List.getElem_toArray, List.getElem_cons_zero, List.getElem_cons_succ, List.setIfInBounds_toArray, List.set_cons_zero, List.set_cons_succ]
          have M5 := Lib.hid m
          clear m M4 o8 f8 h8
          refine Still.takeBy (i := 9) [] (by kernel_rfl) (by kernel_rfl) rfl (by kernel_rfl) (by kernel_rfl) (by kernel_rfl) (fun _ _ _ h => h) (yields_build rfl _ _ rfl #[(0, .slice cao l.length ccap), (1, .slice a8 (inn.length + 1) c8)] (by first | rfl | simp [Act.eval, Act.put]) _ (build_part cao a8 l.length ccap (inn.length + 1) c8)) hHeld ?r311
          simp only [Act.put, List.getElem_toArray, List.getElem_cons_zero, List.getElem_cons_succ, List.setIfInBounds_toArray, List.set_cons_zero, List.set_cons_succ]
          refine Still.all (rs := [11]) (by kernel_rfl) (by simp) (Still.one (i := 11) rfl rfl (fun K hK => ?_) (by simp))
          refine wp_store_row 25 _ _ rfl (W1.heap.size) #[.slice cao l.length ccap, .slice a8 (inn.length + 1) c8] (by first | rfl | simp [Act.eval, Act.put]) (by first | rfl | simp [Act.eval, Act.put]) 25 #[.slice none 0 0, .slice none 0 0] (M5.out.r _ rfl).1 sizePart rfl (part_one _ _ rfl rfl) ?_
          refine hK _ _ (fun h => absurd rfl h) (fun _ => ?_)
          clear hK K
          refine Still.over (by kernel_rfl) ?_ _
          clear hHeld
          go_wp2
          go_meet
          exact ⟨_, a8, c8, rfl, M5.out.done _⟩
      · go_simp
        have m := M0.out.ten (rfl : W0.heap.size = W0.heap.size)
        refine hK _ _ (fun _ => m.d) (fun hh => ?_)
        have hHeld := hh (by decide)
        clear hK K hh
        try simp only [Act.put, List.getElem_toArray, List.getElem_cons_zero, List.getElem_cons_succ, List.setIfInBounds_toArray, List.set_cons_zero, List.set_cons_succ]
        generalize World.alloc _ _ = W1 at m hHeld ⊢
        have M1 := Lib.hid m
        clear m M0
        refine Still.all (rs := [2, 7]) (by kernel_rfl) (by simp) (Still.one (i := 2) rfl rfl (fun K hK => ?_) (Still.one (i := 7) rfl rfl (fun K hK => ?_) (by simp)))
        · go_simp
          have m := M1.out.two (rfl : W1.heap.size = W1.heap.size)
          refine hK _ _ (fun _ => m.d) (fun hh => ?_)
          have hHeld := hh (by decide)
          clear hK K hh
          try simp only [Act.put, List.getElem_toArray, List.getElem_cons_zero, List.getElem_cons_succ, List.setIfInBounds_toArray, List.set_cons_zero, List.set_cons_succ]
          generalize World.alloc _ _ = W2 at m hHeld ⊢
          have M2 := Lib.hid m
          clear m M1
          refine Still.all (rs := [5, 7]) (by kernel_rfl) (by simp) (Still.one (i := 5) rfl rfl (fun K hK => ?_) (Still.one (i := 7) rfl rfl (fun K hK => ?_) (by simp)))
          · refine wp_append_lit (.tmp 100) (.tmp 102) 23 rfl wc.heap.size 3 i0 _ 1 8 Tryd.underlying23 hi0 hz0 hz1 hz2 rfl (by decide) W1.heap.size (by first | rfl | simp [Act.eval, Act.put]) (M2.out.e _ rfl).1 (M2.out.e _ rfl).2 (.slice iao inn.length icap) inn.length (ints inn) (by first | rfl | simp [Act.eval, Act.put]) ((HI.out.up H.out.dd).up M2.out.d) (ints_cell _) (by unfold maxLen; omega) (by omega) ?_
            intro v5 W3 o5 f5 h5
            obtain ⟨a5, c5, rfl⟩ := own_form o5
            have m := M2.out.five o5 f5 h5
            refine hK _ _ (fun _ => m.d) (fun hh => ?_)
            have hHeld := hh (by decide)
            clear hK K hh
            try simp only [Act.put, List.getElem_toArray, List.getElem_cons_zero, List.getElem_cons_succ, List.setIfInBounds_toArray, List.set_cons_zero, List.set_cons_succ]
            have M3 := Lib.hid m
            clear m M2 o5 f5 h5
            refine Still.all (rs := [7]) (by kernel_rfl) (by simp) (Still.one (i := 7) rfl rfl (fun K hK => ?_) (by simp))
            go_simp
            have m := M3.out.seven (rfl : W3.heap.size = W3.heap.size)
            refine hK _ _ (fun _ => m.d) (fun hh => ?_)
            have hHeld := hh (by decide)
            clear hK K hh
            try simp only [Act.put, List.getElem_toArray, List.getElem_cons_zero, List.getElem_cons_succ, List.setIfInBounds_toArray, List.set_cons_zero, List.set_cons_succ]
            generalize World.alloc _ _ = W4 at m hHeld ⊢
            have M4 := Lib.hid m
            clear m M3
            refine Still.all (rs := [8]) (by kernel_rfl) (by simp) (Still.one (i := 8) rfl rfl (fun K hK => ?_) (by simp))
            refine wp_append_sl (.tmp 103) (.tmp 105) 23 rfl wc.heap.size 3 i0 _ 1 8 Tryd.underlying23 hi0 hz0 hz1 hz2 rfl (by decide) (.slice a5 inn.length c5) inn.length (ints inn) (by first | rfl | simp [Act.eval, Act.put]) (M4.out.o _ rfl) (.slice (some ⟨W3.heap.size, 0, none⟩) 1 1) 1 (ints [n]) (by first | rfl | simp [Act.eval, Act.put]) (M4.out.s _ rfl) (ints_cell _) (by unfold maxLen; omega) (by omega) M4.out.d.size ?_
            intro v8 W5 o8 f8 h8
            obtain ⟨a8, c8, rfl⟩ := own_form o8
            have m := M4.out.eight o8 f8 h8
            refine hK _ _ (fun _ => m.d) (fun hh => ?_)
            have hHeld := hh (by decide)
            clear hK K hh
            try simp only [Act.put, List.getElem_toArray, List.getElem_cons_zero, List.getElem_cons_succ, List.setIfInBounds_toArray, List.set_cons_zero, List.set_cons_succ]
            have M5 := Lib.hid m
            clear m M4 o8 f8 h8
            refine Still.takeBy (i := 9) [] (by kernel_rfl) (by kernel_rfl) rfl (by kernel_rfl) (by kernel_rfl) (by kernel_rfl) (fun _ _ _ h => h) (yields_build rfl _ _ rfl #[(0, .slice cao l.length ccap), (1, .slice a8 (inn.length + 1) c8)] (by first | rfl | simp [Act.eval, Act.put]) _ (build_part cao a8 l.length ccap (inn.length + 1) c8)) hHeld ?r321
            simp only [Act.put, List.getElem_toArray, List.getElem_cons_zero, List.getElem_cons_succ, List.setIfInBounds_toArray, List.set_cons_zero, List.set_cons_succ]
            refine Still.all (rs := [11]) (by kernel_rfl) (by simp) (Still.one (i := 11) rfl rfl (fun K hK => ?_) (by simp))
            refine wp_store_row 25 _ _ rfl (W0.heap.size) #[.slice cao l.length ccap, .slice a8 (inn.length + 1) c8] (by first | rfl | simp [Act.eval, Act.put]) (by first | rfl | simp [Act.eval, Act.put]) 25 #[.slice none 0 0, .slice none 0 0] (M5.out.r _ rfl).1 sizePart rfl (part_one _ _ rfl rfl) ?_
            refine hK _ _ (fun h => absurd rfl h) (fun _ => ?_)
            clear hK K
            refine Still.over (by kernel_rfl) ?_ _
            clear hHeld
            go_wp2
            go_meet
            exact ⟨_, a8, c8, rfl, M5.out.done _⟩
          · go_simp
            have m := M2.out.seven (rfl : W2.heap.size = W2.heap.size)
            refine hK _ _ (fun _ => m.d) (fun hh => ?_)
            have hHeld := hh (by decide)
            clear hK K hh
            try simp only [Act.put, List.getElem_toArray, List.getElem_cons_zero, List.getElem_cons_succ, List.setIfInBounds_toArray, List.set_cons_zero, List.set_cons_succ]
            generalize World.alloc _ _ = W3 at m hHeld ⊢
            have M3 := Lib.hid m
            clear m M2
            refine Still.all (rs := [5]) (by kernel_rfl) (by simp) (Still.one (i := 5) rfl rfl (fun K hK => ?_) (by simp))
            refine wp_append_lit (.tmp 100) (.tmp 102) 23 rfl wc.heap.size 3 i0 _ 1 8 Tryd.underlying23 hi0 hz0 hz1 hz2 rfl (by decide) W1.heap.size (by first | rfl | simp [Act.eval, Act.put]) (M3.out.e _ rfl).1 (M3.out.e _ rfl).2 (.slice iao inn.length icap) inn.length (ints inn) (by first | rfl | simp [Act.eval, Act.put]) ((HI.out.up H.out.dd).up M3.out.d) (ints_cell _) (by unfold maxLen; omega) (by omega) ?_
            intro v5 W4 o5 f5 h5
            obtain ⟨a5, c5, rfl⟩ := own_form o5
            have m := M3.out.five o5 f5 h5
            refine hK _ _ (fun _ => m.d) (fun hh => ?_)
            have hHeld := hh (by decide)
            clear hK K hh
            try simp only [Act.put, List.getElem_toArray, List.getElem_cons_zero, List.getElem_cons_succ, List.setIfInBounds_toArray, List.set_cons_zero, List.set_cons_succ]
            have M4 := Lib.hid m
            clear m M3 o5 f5 h5
            refine Still.all (rs := [8]) (by kernel_rfl) (by simp) (Still.one (i := 8) rfl rfl (fun K hK => ?_) (by simp))
            refine wp_append_sl (.tmp 103) (.tmp 105) 23 rfl wc.heap.size 3 i0 _ 1 8 Tryd.underlying23 hi0 hz0 hz1 hz2 rfl (by decide) (.slice a5 inn.length c5) inn.length (ints inn) (by first | rfl | simp [Act.eval, Act.put]) (M4.out.o _ rfl) (.slice (some ⟨W2.heap.size, 0, none⟩) 1 1) 1 (ints [n]) (by first | rfl | simp [Act.eval, Act.put]) (M4.out.s _ rfl) (ints_cell _) (by unfold maxLen; omega) (by omega) M4.out.d.size ?_
            intro v8 W5 o8 f8 h8
            obtain ⟨a8, c8, rfl⟩ := own_form o8
            have m := M4.out.eight o8 f8 h8
            refine hK _ _ (fun _ => m.d) (fun hh => ?_)
            have hHeld := hh (by decide)
            clear hK K hh
            try simp only [Act.put, List.getElem_toArray, List.getElem_cons_zero, List.getElem_cons_succ, List.setIfInBounds_toArray, List.set_cons_zero, List.set_cons_succ]
            have M5 := Lib.hid m
            clear m M4 o8 f8 h8
            refine Still.takeBy (i := 9) [] (by kernel_rfl) (by kernel_rfl) rfl (by kernel_rfl) (by kernel_rfl) (by kernel_rfl) (fun _ _ _ h => h) (yields_build rfl _ _ rfl #[(0, .slice cao l.length ccap), (1, .slice a8 (inn.length + 1) c8)] (by first | rfl | simp [Act.eval, Act.put]) _ (build_part cao a8 l.length ccap (inn.length + 1) c8)) hHeld ?r331
            simp only [Act.put, List.getElem_toArray, List.getElem_cons_zero, List.getElem_cons_succ, List.setIfInBounds_toArray, List.set_cons_zero, List.set_cons_succ]
            refine Still.all (rs := [11]) (by kernel_rfl) (by simp) (Still.one (i := 11) rfl rfl (fun K hK => ?_) (by simp))
            refine wp_store_row 25 _ _ rfl (W0.heap.size) #[.slice cao l.length ccap, .slice a8 (inn.length + 1) c8] (by first | rfl | simp [Act.eval, Act.put]) (by first | rfl | simp [Act.eval, Act.put]) 25 #[.slice none 0 0, .slice none 0 0] (M5.out.r _ rfl).1 sizePart rfl (part_one _ _ rfl rfl) ?_
            refine hK _ _ (fun h => absurd rfl h) (fun _ => ?_)
            clear hK K
            refine Still.over (by kernel_rfl) ?_ _
            clear hHeld
            go_wp2
            go_meet
            exact ⟨_, a8, c8, rfl, M5.out.done _⟩
        · go_simp
          have m := M1.out.seven (rfl : W1.heap.size = W1.heap.size)
          refine hK _ _ (fun _ => m.d) (fun hh => ?_)
          have hHeld := hh (by decide)
          clear hK K hh
          try simp only [Act.put, List.getElem_toArray, List.getElem_cons_zero, List.getElem_cons_succ, List.setIfInBounds_toArray, List.set_cons_zero, List.set_cons_succ]
          generalize World.alloc _ _ = W2 at m hHeld ⊢
          have M2 := Lib.hid m
          clear m M1
          refine Still.all (rs := [2]) (by kernel_rfl) (by simp) (Still.one (i := 2) rfl rfl (fun K hK => ?_) (by simp))
          go_simp
          have m := M2.out.two (rfl : W2.heap.size = W2.heap.size)
          refine hK _ _ (fun _ => m.d) (fun hh => ?_)
          have hHeld := hh (by decide)
          clear hK K hh
          try simp only [Act.put, List.getElem_toArray, List.getElem_cons_zero, List.getElem_cons_succ, List.setIfInBounds_toArray, List.set_cons_zero, List.set_cons_succ]
          generalize World.alloc _ _ = W3 at m hHeld ⊢
          have M3 := Lib.hid m
          clear m M2
          refine Still.all (rs := [5]) (by kernel_rfl) (by simp) (Still.one (i := 5) rfl rfl (fun K hK => ?_) (by simp))
          refine wp_append_lit (.tmp 100) (.tmp 102) 23 rfl wc.heap.size 3 i0 _ 1 8 Tryd.underlying23 hi0 hz0 hz1 hz2 rfl (by decide) W2.heap.size (by first | rfl | simp [Act.eval, Act.put]) (M3.out.e _ rfl).1 (M3.out.e _ rfl).2 (.slice iao inn.length icap) inn.length (ints inn) (by first | rfl | simp [Act.eval, Act.put]) ((HI.out.up H.out.dd).up M3.out.d) (ints_cell _) (by unfold maxLen; omega) (by omega) ?_
          intro v5 W4 o5 f5 h5
          obtain ⟨a5, c5, rfl⟩ := own_form o5
          have m := M3.out.five o5 f5 h5
          refine hK _ _ (fun _ => m.d) (fun hh => ?_)
          have hHeld := hh (by decide)
          clear hK K hh
          try simp only [Act.put, List.getElem_toArray, List.getElem_cons_zero, List.getElem_cons_succ, List.setIfInBounds_toArray, List.set_cons_zero, List.set_cons_succ]
          have M4 := Lib.hid m
          clear m M3 o5 f5 h5
          refine Still.all (rs := [8]) (by kernel_rfl) (by simp) (Still.one (i := 8) rfl rfl (fun K hK => ?_) (by simp))
          refine wp_append_sl (.tmp 103) (.tmp 105) 23 rfl wc.heap.size 3 i0 _ 1 8 Tryd.underlying23 hi0 hz0 hz1 hz2 rfl (by decide) (.slice a5 inn.length c5) inn.length (ints inn) (by first | rfl | simp [Act.eval, Act.put]) (M4.out.o _ rfl) (.slice (some ⟨W1.heap.size, 0, none⟩) 1 1) 1 (ints [n]) (by first | rfl | simp [Act.eval, Act.put]) (M4.out.s _ rfl) (ints_cell _) (by unfold maxLen; omega) (by omega) M4.out.d.size ?_
          intro v8 W5 o8 f8 h8
          obtain ⟨a8, c8, rfl⟩ := own_form o8
          have m := M4.out.eight o8 f8 h8
          refine hK _ _ (fun _ => m.d) (fun hh => ?_)
          have hHeld := hh (by decide)
          clear hK K hh
          try simp only [Act.put, List.getElem_toArray, List.getElem_cons_zero, List.getElem_cons_succ, List.setIfInBounds_toArray, List.set_cons_zero, List.set_cons_succ]
          have M5 := Lib.hid m
          clear m M4 o8 f8 h8
          refine Still.takeBy (i := 9) [] (by kernel_rfl) (by kernel_rfl) rfl (by kernel_rfl) (by kernel_rfl) (by kernel_rfl) (fun _ _ _ h => h) (yields_build rfl _ _ rfl #[(0, .slice cao l.length ccap), (1, .slice a8 (inn.length + 1) c8)] (by first | rfl | simp [Act.eval, Act.put]) _ (build_part cao a8 l.length ccap (inn.length + 1) c8)) hHeld ?r341
          simp only [Act.put, List.getElem_toArray, List.getElem_cons_zero, List.getElem_cons_succ, List.setIfInBounds_toArray, List.set_cons_zero, List.set_cons_succ]
          refine Still.all (rs := [11]) (by kernel_rfl) (by simp) (Still.one (i := 11) rfl rfl (fun K hK => ?_) (by simp))
          refine wp_store_row 25 _ _ rfl (W0.heap.size) #[.slice cao l.length ccap, .slice a8 (inn.length + 1) c8] (by first | rfl | simp [Act.eval, Act.put]) (by first | rfl | simp [Act.eval, Act.put]) 25 #[.slice none 0 0, .slice none 0 0] (M5.out.r _ rfl).1 sizePart rfl (part_one _ _ rfl rfl) ?_
          refine hK _ _ (fun h => absurd rfl h) (fun _ => ?_)
          clear hK K
          refine Still.over (by kernel_rfl) ?_ _
          clear hHeld
          go_wp2
          go_meet
          exact ⟨_, a8, c8, rfl, M5.out.done _⟩
    case rest =>
      obtain ⟨g, a8, c8, rfl, HN⟩ := hcut
      have HF := Lib.hid (H.out.up HN.out.d)
      have zN := HN.out.d.size
      have HR10 := Lib.hid HN.out.r
      have HS10 := Lib.hid HN.out.s
      clear H HN k3 k4
      go_wp2_with (first | (refine wpList_load_row rfl 25 (.tmp 10) rfl (g) rfl 25 #[.slice cao l.length ccap, .slice a8 (inn.length + 1) c8] (0, 0) _ HR10.out Tryd.underlying25 rfl sizePart ?_) | (refine wpList_load_row rfl 29 (.tmp 4) rfl (w.heap.size + 1) rfl 29 (c.cs (.slice ao xs.length cap)) (0, 0) _ HF.out.r4 Tryd.underlying29 rfl sizeCell ?_))
      refine (HM'.out (.slice a8 (inn.length + 1) c8) _ (HE.out.up HF.out.dd) (HS.out.up HF.out.dd) HS10.out (HO.out.up HF.out.dd)).mono ?_
      rintro e w5 ⟨ao5, cp5, rfl, o5, b5⟩
      have O5 := Lib.hid (own_sl o5)
      have HF5 := Lib.hid (HF.out.up b5)
      clear b5 o5 HF HM' HR10 HS10
      go_wp2_with (first | (refine wpList_store_row rfl 29 (.tmp 11) (.tmp 112) rfl w5.heap.size (c'.cs (.slice ao5 ys.length cp5)) rfl rfl 29 (celZ.cs (.slice none 0 0)) (by repeat (first | exact Rw.new _ _ _ (by first | rfl | (simp; done) | omega | (simp; omega)) | refine Rw.alloc ?_ _)) sizeCell rfl (Cel.cs_one _ _ (by first | rfl | assumption)) ?_) | (refine wpList_store_rowW rfl 31 (.tmp 12) (.tmp 113) rfl (w5.heap.size + 1) x'.cs rfl rfl 31 #[.int .i64 0, .int .i64 0, .int .i64 0, .int .i64 0, .int .i64 0] (Rw.row_other (by repeat (first | exact Rw.new _ _ _ (by first | rfl | (simp; done) | omega | (simp; omega)) | refine Rw.alloc ?_ _)) _ (by omega)) sizeWant rfl (Wnt.cs_one _) ?_))
      intro W6 HW
      have D6 : Below w5.heap.size w5 W6 := by rw [HW.out]; exact below_row (below_row (((Below.refl _ _).alloc (Nat.le_refl _) _).alloc (by simp) _) (Nat.le_refl _) _) (by omega) _
      have r6 : Rw W6 w5.heap.size 29 (c'.cs (.slice ao5 ys.length cp5)) := by rw [HW.out]; exact Rw.row_other (Rw.row (cs := celZ.cs (.slice none 0 0)) (by repeat (first | exact Rw.new _ _ _ (by first | rfl | (simp; done) | omega | (simp; omega)) | refine Rw.alloc ?_ _)) _) _ (by omega)
      have r6b : Rw W6 (w5.heap.size + 1) 31 x'.cs := by rw [HW.out]; exact Rw.row (cs := #[.int .i64 0, .int .i64 0, .int .i64 0, .int .i64 0, .int .i64 0]) (Rw.row_other (by repeat (first | exact Rw.new _ _ _ (by first | rfl | (simp; done) | omega | (simp; omega)) | refine Rw.alloc ?_ _)) _ (by omega)) _
      have hzW6 : W6.heap.size = w5.heap.size + 2 := by rw [HW.out]; simp
      clear HW
      have O6 := Lib.hid (O5.out.up D6)
      have HF6 := Lib.hid (HF5.out.up D6)
      have R6 := Lib.hid r6
      have R6b : Hid (Rw W6 (w5.heap.size + 1) 31 #[.int .i64 x'.k, .int .i64 x'.ch, .int .i64 x'.reg, .int .i64 x'.flag, .int .i64 x'.val]) := r6b
      clear D6 r6 r6b O5 HF5
      go_wp2_with fail
      refine (cellBegun_any _ (HE.out.up HF6.out.dd)).mono ?_
      rintro e w7 ⟨rfl, b7⟩
      have R7 := Lib.hid (R6.out.up b7 R6.out.lt)
      have R7b := Lib.hid (R6b.out.up b7 R6b.out.lt)
      have O7 := Lib.hid (O6.out.up b7)
      have HF7 := Lib.hid (HF6.out.up b7)
      clear b7 R6 R6b O6 HF6
      go_wp2_with (first | (refine wpList_load_rowG rfl 29 (.tmp 11) rfl (w5.heap.size) rfl 29 (c'.cs (.slice ao5 ys.length cp5)) (0, 0) _ R7.out Tryd.underlying29 rfl sizeCell ?_) | (refine wpList_load_rowG rfl 29 (.tmp 7) rfl (w1.heap.size) rfl 29 (c'.cs (.slice ao1 ys.length cp1)) (0, 0) _ HF7.out.r7 Tryd.underlying29 rfl sizeCell ?_) | (go_at_call 12; refine (sameCells_cs c' ys _ _ _ O7.out HF7.out.s1 (by omega)).mono ?_; rintro e w8 ⟨rfl, b8⟩; have R8b := Lib.hid (R7b.out.up b8 R7b.out.lt); have HF8 := Lib.hid (HF7.out.up b8); have R8 : Hid (Rw w8 (w1.heap.size + 1) 31 #[.int .i64 x'.k, .int .i64 x'.ch, .int .i64 x'.reg, .int .i64 x'.flag, .int .i64 x'.val]) := HF8.out.r8) | (refine wpList_load_rowG rfl 31 (.tmp 12) rfl (w5.heap.size + 1) rfl 31 #[.int .i64 x'.k, .int .i64 x'.ch, .int .i64 x'.reg, .int .i64 x'.flag, .int .i64 x'.val] (0, 0) _ R8b.out Tryd.underlying31 rfl sizeWant ?_) | (refine wpList_load_rowG rfl 31 (.tmp 8) rfl (w1.heap.size + 1) rfl 31 #[.int .i64 x'.k, .int .i64 x'.ch, .int .i64 x'.reg, .int .i64 x'.flag, .int .i64 x'.val] (0, 0) _ R8.out Tryd.underlying31 rfl sizeWant ?_))
      go_ret
      exact ⟨rfl, HF8.out.dd⟩
theorem cellTrue_any (l : List Ins) (inn xs : List Int) (v iv ov : Value) (c : Cel) (n : Int) (w : World) (he : Env w) (hC : Sl w 4 v l.length (codeC l)) (hI : Sl w 1 iv inn.length (ints inn)) (hO : Sl w 1 ov xs.length (ints xs)) :
    Calls Tryd.prog 5 #[partV v iv, c.v ov, .int .i64 n] w fun e w' => e = .returned (.bool true) ∧ Below w.heap.size w w' := by
  by_cases h0 : stepE (chkC l) inn.length (c.fine xs.length) c.read = 0
  · obtain ⟨h1, h2, h3, h4⟩ := stepE_zero h0
    exact cellTrue_ok l inn xs v iv ov c n h1 h2 h3 h4 w he hC hI hO
  · exact cellTrue_bad l inn xs v iv ov c n _ rfl _ rfl _ rfl h0 w he hC hI hO
end Go.Proofs.YtbmocfgkocncpaaDoor

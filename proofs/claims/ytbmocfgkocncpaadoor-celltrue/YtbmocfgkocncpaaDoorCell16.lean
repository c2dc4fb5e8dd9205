/- The law CellSteps answers true, whatever it is handed. -/
import Derived.Test.YtbmocfgkocncpaaDoorCell13
import Derived.Test.YtbmocfgkocncpaaDoorCell15
import Derived.Test.YtbmocfgkocncpaaDoorLastG
namespace Go.Proofs.YtbmocfgkocncpaaDoor
set_option linter.unusedSimpArgs false
set_option linter.unusedVariables false
open Go.RowKit Go.Sort

theorem ent_begun : Enters 9 := enters Tryd.func9 (by kernel_rfl) (by kernel_rfl)
theorem ent_check : Enters 10 := enters Tryd.func10 (by kernel_rfl) (by kernel_rfl)
theorem ent_fine : Enters 11 := enters Tryd.func11 (by kernel_rfl) (by kernel_rfl)
theorem ent_same : Enters 12 := enters Tryd.func12 (by kernel_rfl) (by kernel_rfl)
/-- Where the law stands ahead of its last line. -/
structure Fs (w W : World) (g3 g5 g6 g9 g10 : Nat) (c d : Cel) (o o1 o2 : Value) (x : Wnt) (ys : List Int) : Prop where
  dd : Below w.heap.size w W
  r3 : Rw W g3 29 (c.cs o)
  r5 : Rw W g5 29 (d.cs o1)
  r6 : Rw W g6 31 x.cs
  r9 : Rw W g9 29 (d.cs o2)
  r10 : Rw W g10 31 x.cs
  s1 : Sl W 1 o1 ys.length (ints ys)
  s2 : Sl W 1 o2 ys.length (ints ys)
theorem Fs.up {w W W' : World} {g3 g5 g6 g9 g10 : Nat} {c d : Cel} {o o1 o2 : Value} {x : Wnt} {ys : List Int} (h : Fs w W g3 g5 g6 g9 g10 c d o o1 o2 x ys) (hb : Below W.heap.size W W') : Fs w W' g3 g5 g6 g9 g10 c d o o1 o2 x ys :=
  ⟨h.dd.trans (hb.mono h.dd.size), h.r3.up hb h.r3.lt, h.r5.up hb h.r5.lt, h.r6.up hb h.r6.lt, h.r9.up hb h.r9.lt, h.r10.up hb h.r10.lt, h.s1.up hb, h.s2.up hb⟩
theorem Fs.drew {w W : World} {g3 g5 g6 g9 g10 : Nat} {c d : Cel} {o o1 o2 : Value} {x : Wnt} {ys : List Int} (h : Fs w W g3 g5 g6 g9 g10 c d o o1 o2 x ys) : Fs w W.drew g3 g5 g6 g9 g10 c d o o1 o2 x ys := h.up (Below.refl _ _).drew

set_option maxRecDepth 100000 in
set_option maxHeartbeats 8000000 in
theorem cellSteps_bad (l : List Ins) (hok : ∀ j (hj : j < l.length), l[j].ok) (inn xs : List Int) (v iv ov : Value) (c : Cel) (d : Int) (hd : chkC l = d) (f : Bool) (hf : c.fine xs.length = f) (e0 : Int) (he0 : stepE d inn.length f c.read = e0) (hne : e0 ≠ 0) (w : World) (he : Env w) (hC : Sl w 4 v l.length (codeC l)) (hI : Sl w 1 iv inn.length (ints inn)) (hO : Sl w 1 ov xs.length (ints xs)) :
    Calls Tryd.prog 3 #[partV v iv, c.v ov] w fun e w' => e = .returned (.bool true) ∧ Below w.heap.size w w' := by
  obtain ⟨iao, icap, rfl⟩ := hI.form
  obtain ⟨ao, cap, rfl⟩ := hO.form
  have hne' : (e0 == 0) = false := by simpa using hne
  have HA := Lib.hid fun w he hS => cellStep_bad l v iao inn.length icap c ao xs.length cap d hd f hf e0 he0 hne w he hS
  have HB := Lib.hid fun w hS => he0 ▸ stepError_any l hok v iao inn.length icap c ao xs.length cap d hd f hf w hS
  have hE : c.err xs.length = if f then 0 else 1 := by rw [← hf]; rfl
  have HCK := Lib.hid fun w => hE ▸ cellCheck_any c ao xs.length cap w
  have HCF := Lib.hid fun w => hf ▸ cellFine_any c ao xs.length cap w
  have HE := Lib.hid he
  have HS := Lib.hid hC
  obtain ⟨cao, ccap, rfl⟩ := hC.form
  clear hf he0 hne hC he hI hO hok hd hE
  rw [Cel.v_cs] at HA HB HCK HCF
  rw [Cel.v_cs]
  unfold partV at HA HB
  unfold partV
  go_enter Tryd.func3, Tryd.ntmps3
  go_wp2_with (refine wpList_load_row rfl 29 (.tmp 3) rfl (w.heap.size + 1) rfl 29 (c.cs (.slice ao xs.length cap)) (0, 0) _ (by repeat (first | exact Rw.new _ _ _ (by first | rfl | (simp; done) | omega | (simp; omega)) | refine Rw.alloc ?_ _)) Tryd.underlying29 rfl sizeCell ?_)
  refine (HA.out _ (HE.out.up (by repeat (first | exact Below.refl _ _ | assumption | refine Below.drew ?_ | refine Below.alloc ?_ (by first | (simp; done) | (simp; omega)) _ | refine Below.setCell ?_ (by first | (simp; done) | (simp; omega)) _))) (HS.out.up (by repeat (first | exact Below.refl _ _ | assumption | refine Below.drew ?_ | refine Below.alloc ?_ (by first | (simp; done) | (simp; omega)) _ | refine Below.setCell ?_ (by first | (simp; done) | (simp; omega)) _)))).mono ?_
  rintro e w1 ⟨rfl, b1⟩
  have z1 := b1.size
  simp at z1
  have R0 : Hid (Rw w1 w.heap.size 25 #[.slice cao l.length ccap, .slice iao inn.length icap]) := Rw.up (by repeat (first | exact Rw.new _ _ _ (by first | rfl | (simp; done) | omega | (simp; omega)) | refine Rw.alloc ?_ _)) b1 (by first | omega | (simp; done) | (simp; omega))
  have R1 : Hid (Rw w1 (w.heap.size + 1) 29 (c.cs (.slice ao xs.length cap))) := Rw.up (by repeat (first | exact Rw.new _ _ _ (by first | rfl | (simp; done) | omega | (simp; omega)) | refine Rw.alloc ?_ _)) b1 (by first | omega | (simp; done) | (simp; omega))
  have HD1 : Hid (Below w.heap.size w w1) := by
    refine Below.trans ?_ (b1.mono (by first | omega | (simp; done) | (simp; omega)))
    exact (by repeat (first | exact Below.refl _ _ | assumption | refine Below.drew ?_ | refine Below.alloc ?_ (by first | (simp; done) | (simp; omega)) _ | refine Below.setCell ?_ (by first | (simp; done) | (simp; omega)) _))
  clear b1 HA
  go_wp2_with (first | (refine wpList_store_row rfl 29 (.tmp 5) (.tmp 15) rfl w1.heap.size (celZ.cs (.slice none 0 0)) rfl rfl 29 (celZ.cs (.slice none 0 0)) (by repeat (first | exact Rw.new _ _ _ (by first | rfl | (simp; done) | omega | (simp; omega)) | refine Rw.alloc ?_ _)) sizeCell rfl (Cel.cs_one _ _ (by first | rfl | assumption)) ?_) | (refine wpList_store_rowW rfl 31 (.tmp 6) (.tmp 16) rfl (w1.heap.size + 1) wntZ.cs rfl rfl 31 #[.int .i64 0, .int .i64 0, .int .i64 0, .int .i64 0, .int .i64 0] (Rw.row_other (by repeat (first | exact Rw.new _ _ _ (by first | rfl | (simp; done) | omega | (simp; omega)) | refine Rw.alloc ?_ _)) _ (by omega)) sizeWant rfl (Wnt.cs_one _) ?_))
  intro W2 HW
  have D2 : Below w1.heap.size w1 W2 := by rw [HW.out]; exact below_row (below_row (((Below.refl _ _).alloc (Nat.le_refl _) _).alloc (by simp) _) (Nat.le_refl _) _) (by omega) _
  have r2 : Rw W2 w1.heap.size 29 (celZ.cs (.slice none 0 0)) := by rw [HW.out]; exact Rw.row_other (Rw.row (cs := celZ.cs (.slice none 0 0)) (by repeat (first | exact Rw.new _ _ _ (by first | rfl | (simp; done) | omega | (simp; omega)) | refine Rw.alloc ?_ _)) _) _ (by omega)
  have r2b : Rw W2 (w1.heap.size + 1) 31 wntZ.cs := by rw [HW.out]; exact Rw.row (cs := #[.int .i64 0, .int .i64 0, .int .i64 0, .int .i64 0, .int .i64 0]) (Rw.row_other (by repeat (first | exact Rw.new _ _ _ (by first | rfl | (simp; done) | omega | (simp; omega)) | refine Rw.alloc ?_ _)) _ (by omega)) _
  have hzW2 : W2.heap.size = w1.heap.size + 2 := by rw [HW.out]; simp
  clear HW
  have R02 := R0.out.up D2 (by omega)
  have R12 := Lib.hid (R1.out.up D2 (by omega))
  have HD2 := Lib.hid (HD1.out.trans (D2.mono (by omega)))
  have R22 := Lib.hid r2
  have R2b := Lib.hid r2b
  have q0 := R02.cell (j := 0) (v := .slice cao l.length ccap) rfl
  have q1 := R02.cell (j := 1) (v := .slice iao inn.length icap) rfl
  clear D2 r2 r2b R0 R1 R02 HD1
  go_wp2_with (refine wpList_load_row rfl 29 (.tmp 3) rfl (w.heap.size + 1) rfl 29 (c.cs (.slice ao xs.length cap)) (0, 0) _ R12.out Tryd.underlying29 rfl sizeCell ?_)
  refine (HB.out _ (HS.out.up HD2.out)).mono ?_
  rintro e w3 ⟨rfl, b3⟩
  have z3 := b3.size
  have hF : Fs w ((w3.alloc (.cells #[.int .i64 0, .int .i64 0, .int .i64 0, .int .i64 0, .int .i64 0, .int .i64 0, .int .i64 0, .int .i64 0, .int .i64 0, .int .i64 0, .int .i64 0, .int .i64 0, .int .i64 0, .int .i64 0, .slice none 0 0, .int .i64 0] 29)).alloc (.cells #[.int .i64 0, .int .i64 0, .int .i64 0, .int .i64 0, .int .i64 0] 31)) (w.heap.size + 1) w1.heap.size (w1.heap.size + 1) w3.heap.size (w3.heap.size + 1) c celZ (.slice ao xs.length cap) (.slice none 0 0) (.slice none 0 0) wntZ [] :=
    ⟨((HD2.out.trans (b3.mono (by omega))).alloc (by omega) _).alloc (by simp; omega) _, ((R12.out.up b3 (by omega)).alloc _).alloc _, ((R22.out.up b3 (by omega)).alloc _).alloc _, ((R2b.out.up b3 (by omega)).alloc _).alloc _, (by repeat (first | exact Rw.new _ _ _ (by first | rfl | (simp; done) | omega | (simp; omega)) | refine Rw.alloc ?_ _)), (by repeat (first | exact Rw.new _ _ _ (by first | rfl | (simp; done) | omega | (simp; omega)) | refine Rw.alloc ?_ _)), Sl.nil _ _, Sl.nil _ _⟩
  have HF := Lib.hid hF
  clear hF b3 HB R12 R22 R2b HD2 q0 q1 HS
  go_wp2
  generalize World.alloc _ _ = W4 at HF ⊢
  have hys : ([] : List Int).length < 4294967281 := by simp
  cases f
  · refine region_still (S := fun w' => Fs w w' (w.heap.size + 1) (w1.heap.size) (w1.heap.size + 1) (w3.heap.size) (w3.heap.size + 1) c celZ (.slice ao xs.length cap) (.slice none 0 0) (.slice none 0 0) wntZ []) 24 (by kernel_rfl) HF.out.drew (fun hHeld => ?_)
    refine Still.all (rs := [0]) (by kernel_rfl) (by simp) (Still.one (i := 0) rfl rfl (fun K hK => ?_) (by simp))
    refine wp_call 9 _ _ rfl ent_begun #[] (by first | rfl | simp [Act.eval, Act.put]) ((cellBegun_any _ (HE.out.up HF.out.dd.drew)).mono ?_)
    rintro e V0 ⟨rfl, b1⟩
    refine ⟨_, rfl, hK _ _ (fun _ => hHeld.up b1) (fun hh => ?_)⟩
    have hHeld := hh (by decide)
    clear hK K hh
    try simp only [Act.put, List.getElem_toArray, List.getElem_cons_zero, List.getElem_cons_succ, List.setIfInBounds_toArray, List.set_cons_zero, List.set_cons_succ]
    clear b1
    refine Still.takeBy (i := 1) [] (v := ?v101) (by kernel_rfl) (by kernel_rfl) rfl (by kernel_rfl) (by kernel_rfl) (by kernel_rfl) (fun _ _ _ h => h) (Or.inl ⟨by rfl, ?y101⟩) hHeld ?r101
    case y101 => (intro w' hSw; (try dsimp only at hSw); go_simp; try with_reducible rfl)
    simp only [Act.put, List.getElem_toArray, List.getElem_cons_zero, List.getElem_cons_succ, List.setIfInBounds_toArray, List.set_cons_zero, List.set_cons_succ]
    refine Still.takeBy (i := 2) [] (by kernel_rfl) (by kernel_rfl) rfl (by kernel_rfl) (by kernel_rfl) (by kernel_rfl) (fun _ _ _ h => h) (yields_loadG (by rfl) _ _ rfl _ (by first | rfl | simp [Act.eval, Act.put]) _ (fun w' hSw => Rw.loadAt hSw.r3 Tryd.underlying29 rfl sizeCell)) hHeld ?r102
    simp only [Act.put, List.getElem_toArray, List.getElem_cons_zero, List.getElem_cons_succ, List.setIfInBounds_toArray, List.set_cons_zero, List.set_cons_succ]
    refine Still.takeBy (i := 5) [] (by kernel_rfl) (by kernel_rfl) rfl (by kernel_rfl) (by kernel_rfl) (by kernel_rfl) (fun _ _ _ h => h) (yields_loadG (by rfl) _ _ rfl _ (by first | rfl | simp [Act.eval, Act.put]) _ (fun w' hSw => Rw.loadAt hSw.r3 Tryd.underlying29 rfl sizeCell)) hHeld ?r103
    simp only [Act.put, List.getElem_toArray, List.getElem_cons_zero, List.getElem_cons_succ, List.setIfInBounds_toArray, List.set_cons_zero, List.set_cons_succ]
    refine Still.all (rs := [3]) (by kernel_rfl) (by simp) (Still.oneG (i := 3) rfl (by rfl) (fun K hK => ?_) (by simp))
    refine wp_call 10 _ _ rfl ent_check #[.agg (Cel.cs c (.slice ao xs.length cap))] (by first | rfl | simp [Act.eval, Act.put]) ((HCK.out _).mono ?_)
    rintro e V3 ⟨rfl, b1⟩
    refine ⟨_, rfl, hK _ _ (fun _ => hHeld.up b1) (fun hh => ?_)⟩
    have hHeld := hh (by decide)
    clear hK K hh
    try simp only [Act.put, List.getElem_toArray, List.getElem_cons_zero, List.getElem_cons_succ, List.setIfInBounds_toArray, List.set_cons_zero, List.set_cons_succ]
    clear b1
    refine Still.takeBy (i := 4) [] (v := ?v104) (by kernel_rfl) (by kernel_rfl) rfl (by kernel_rfl) (by kernel_rfl) (by kernel_rfl) (fun _ _ _ h => h) (Or.inl ⟨by rfl, ?y104⟩) hHeld ?r104
    case y104 => (intro w' hSw; (try dsimp only at hSw); go_simp; try with_reducible rfl)
    simp only [Act.put, List.getElem_toArray, List.getElem_cons_zero, List.getElem_cons_succ, List.setIfInBounds_toArray, List.set_cons_zero, List.set_cons_succ]
    refine Still.all (rs := [6]) (by kernel_rfl) (by simp) (Still.oneG (i := 6) rfl (by rfl) (fun K hK => ?_) (by simp))
    refine wp_call 11 _ _ rfl ent_fine #[.agg (Cel.cs c (.slice ao xs.length cap))] (by first | rfl | simp [Act.eval, Act.put]) ((HCF.out _).mono ?_)
    rintro e V6 ⟨rfl, b1⟩
    refine ⟨_, rfl, hK _ _ (fun _ => hHeld.up b1) (fun hh => ?_)⟩
    have hHeld := hh (by decide)
    clear hK K hh
    try simp only [Act.put, List.getElem_toArray, List.getElem_cons_zero, List.getElem_cons_succ, List.setIfInBounds_toArray, List.set_cons_zero, List.set_cons_succ]
    clear b1
    refine Still.takeBy (i := 7) [] (v := ?v105) (by kernel_rfl) (by kernel_rfl) rfl (by kernel_rfl) (by kernel_rfl) (by kernel_rfl) (fun _ _ _ h => h) (Or.inl ⟨by rfl, ?y105⟩) hHeld ?r105
    case y105 => (intro w' hSw; (try dsimp only at hSw); go_simp; try with_reducible rfl)
    simp only [Act.put, List.getElem_toArray, List.getElem_cons_zero, List.getElem_cons_succ, List.setIfInBounds_toArray, List.set_cons_zero, List.set_cons_succ]
    refine Still.takeBy (i := 8) [] (v := ?v106) (by kernel_rfl) (by kernel_rfl) rfl (by kernel_rfl) (by kernel_rfl) (by kernel_rfl) (fun _ _ _ h => h) (Or.inl ⟨by rfl, ?y106⟩) hHeld ?r106
    case y106 => (intro w' hSw; (try dsimp only at hSw); go_simp; try with_reducible rfl)
    simp only [Act.put, List.getElem_toArray, List.getElem_cons_zero, List.getElem_cons_succ, List.setIfInBounds_toArray, List.set_cons_zero, List.set_cons_succ]
    refine Still.takeBy (i := 9) [] (v := ?v107) (by kernel_rfl) (by kernel_rfl) rfl (by kernel_rfl) (by kernel_rfl) (by kernel_rfl) (fun _ _ _ h => h) (Or.inl ⟨by rfl, ?y107⟩) hHeld ?r107
    case y107 => (intro w' hSw; (try dsimp only at hSw); go_simp; try with_reducible rfl)
    simp only [Act.put, List.getElem_toArray, List.getElem_cons_zero, List.getElem_cons_succ, List.setIfInBounds_toArray, List.set_cons_zero, List.set_cons_succ]
    refine Still.takeBy (i := 10) [] (v := ?v108) (by kernel_rfl) (by kernel_rfl) rfl (by kernel_rfl) (by kernel_rfl) (by kernel_rfl) (fun _ _ _ h => h) (Or.inl ⟨by rfl, ?y108⟩) hHeld ?r108
    case y108 => (intro w' hSw; (try dsimp only at hSw); go_simp; try with_reducible rfl)
    simp only [Act.put, List.getElem_toArray, List.getElem_cons_zero, List.getElem_cons_succ, List.setIfInBounds_toArray, List.set_cons_zero, List.set_cons_succ]
    refine Still.takeBy (i := 11) [] (v := ?v109) (by kernel_rfl) (by kernel_rfl) rfl (by kernel_rfl) (by kernel_rfl) (by kernel_rfl) (fun _ _ _ h => h) (Or.inl ⟨by rfl, ?y109⟩) hHeld ?r109
    case y109 => (intro w' hSw; (try dsimp only at hSw); go_simp; try with_reducible rfl)
    simp only [Act.put, List.getElem_toArray, List.getElem_cons_zero, List.getElem_cons_succ, List.setIfInBounds_toArray, List.set_cons_zero, List.set_cons_succ]
    refine Still.takeBy (i := 12) [] (v := ?v110) (by kernel_rfl) (by kernel_rfl) rfl (by kernel_rfl) (by kernel_rfl) (by kernel_rfl) (fun _ _ _ h => h) (Or.inl ⟨by rfl, ?y110⟩) hHeld ?r110
    case y110 => (intro w' hSw; (try dsimp only at hSw); go_simp; try with_reducible rfl)
    simp only [Act.put, List.getElem_toArray, List.getElem_cons_zero, List.getElem_cons_succ, List.setIfInBounds_toArray, List.set_cons_zero, List.set_cons_succ]
    refine Still.takeBy (i := 13) [] (v := ?v111) (by kernel_rfl) (by kernel_rfl) rfl (by kernel_rfl) (by kernel_rfl) (by kernel_rfl) (fun _ _ _ h => h) (Or.inl ⟨by rfl, ?y111⟩) hHeld ?r111
    case y111 => (intro w' hSw; (try dsimp only at hSw); go_simp; try with_reducible rfl)
    simp only [Act.put, List.getElem_toArray, List.getElem_cons_zero, List.getElem_cons_succ, List.setIfInBounds_toArray, List.set_cons_zero, List.set_cons_succ]
    refine Still.takeBy (i := 14) [] (v := ?v112) (by kernel_rfl) (by kernel_rfl) rfl (by kernel_rfl) (by kernel_rfl) (by kernel_rfl) (fun _ _ _ h => h) (Or.inl ⟨by rfl, ?y112⟩) hHeld ?r112
    case y112 => (intro w' hSw; (try dsimp only at hSw); go_simp; try with_reducible rfl)
    simp only [Act.put, List.getElem_toArray, List.getElem_cons_zero, List.getElem_cons_succ, List.setIfInBounds_toArray, List.set_cons_zero, List.set_cons_succ]
    refine Still.takeBy (i := 15) [] (by kernel_rfl) (by kernel_rfl) rfl (by kernel_rfl) (by kernel_rfl) (by kernel_rfl) (fun _ _ _ h => h) (yields_loadG (by rfl) _ _ rfl _ (by first | rfl | simp [Act.eval, Act.put]) _ (fun w' hSw => Rw.loadAt hSw.r5 Tryd.underlying29 rfl sizeCell)) hHeld ?r113
    simp only [Act.put, List.getElem_toArray, List.getElem_cons_zero, List.getElem_cons_succ, List.setIfInBounds_toArray, List.set_cons_zero, List.set_cons_succ]
    refine Still.takeBy (i := 16) [] (by kernel_rfl) (by kernel_rfl) rfl (by kernel_rfl) (by kernel_rfl) (by kernel_rfl) (fun _ _ _ h => h) (yields_loadG (by rfl) _ _ rfl _ (by first | rfl | simp [Act.eval, Act.put]) _ (fun w' hSw => Rw.loadAt hSw.r9 Tryd.underlying29 rfl sizeCell)) hHeld ?r114
    simp only [Act.put, List.getElem_toArray, List.getElem_cons_zero, List.getElem_cons_succ, List.setIfInBounds_toArray, List.set_cons_zero, List.set_cons_succ]
    refine Still.all (rs := [17]) (by kernel_rfl) (by simp) (Still.oneG (i := 17) rfl (by rfl) (fun K hK => ?_) (by simp))
    refine wp_call 12 _ _ rfl ent_same #[.agg (Cel.cs celZ (.slice none 0 0)), .agg (Cel.cs celZ (.slice none 0 0))] (by first | rfl | simp [Act.eval, Act.put]) ((sameCells_cs celZ [] (.slice none 0 0) (.slice none 0 0) _ hHeld.s1 hHeld.s2 hys).mono ?_)
    rintro e V17 ⟨rfl, b1⟩
    refine ⟨_, rfl, hK _ _ (fun _ => hHeld.up b1) (fun hh => ?_)⟩
    have hHeld := hh (by decide)
    clear hK K hh
    try simp only [Act.put, List.getElem_toArray, List.getElem_cons_zero, List.getElem_cons_succ, List.setIfInBounds_toArray, List.set_cons_zero, List.set_cons_succ]
    clear b1
    refine Still.takeBy (i := 18) [] (v := ?v115) (by kernel_rfl) (by kernel_rfl) rfl (by kernel_rfl) (by kernel_rfl) (by kernel_rfl) (fun _ _ _ h => h) (Or.inl ⟨by rfl, ?y115⟩) hHeld ?r115
    case y115 => (intro w' hSw; (try dsimp only at hSw); go_simp; try with_reducible rfl)
    simp only [Act.put, List.getElem_toArray, List.getElem_cons_zero, List.getElem_cons_succ, List.setIfInBounds_toArray, List.set_cons_zero, List.set_cons_succ]
    refine Still.takeBy (i := 19) [] (v := ?v116) (by kernel_rfl) (by kernel_rfl) rfl (by kernel_rfl) (by kernel_rfl) (by kernel_rfl) (fun _ _ _ h => h) (Or.inl ⟨by rfl, ?y116⟩) hHeld ?r116
    case y116 => (intro w' hSw; (try dsimp only at hSw); go_simp; try with_reducible rfl)
    simp only [Act.put, List.getElem_toArray, List.getElem_cons_zero, List.getElem_cons_succ, List.setIfInBounds_toArray, List.set_cons_zero, List.set_cons_succ]
    refine Still.takeBy (i := 20) [] (by kernel_rfl) (by kernel_rfl) rfl (by kernel_rfl) (by kernel_rfl) (by kernel_rfl) (fun _ _ _ h => h) (yields_loadG (by rfl) _ _ rfl _ (by first | rfl | simp [Act.eval, Act.put]) _ (fun w' hSw => Rw.loadAt hSw.r6 Tryd.underlying31 rfl sizeWant)) hHeld ?r117
    simp only [Act.put, List.getElem_toArray, List.getElem_cons_zero, List.getElem_cons_succ, List.setIfInBounds_toArray, List.set_cons_zero, List.set_cons_succ]
    refine Still.takeBy (i := 21) [] (by kernel_rfl) (by kernel_rfl) rfl (by kernel_rfl) (by kernel_rfl) (by kernel_rfl) (fun _ _ _ h => h) (yields_loadG (by rfl) _ _ rfl _ (by first | rfl | simp [Act.eval, Act.put]) _ (fun w' hSw => Rw.loadAt hSw.r10 Tryd.underlying31 rfl sizeWant)) hHeld ?r118
    simp only [Act.put, List.getElem_toArray, List.getElem_cons_zero, List.getElem_cons_succ, List.setIfInBounds_toArray, List.set_cons_zero, List.set_cons_succ]
    refine Still.takeBy (i := 22) [] (v := ?v119) (by kernel_rfl) (by kernel_rfl) rfl (by kernel_rfl) (by kernel_rfl) (by kernel_rfl) (fun _ _ _ h => h) (Or.inl ⟨by rfl, ?y119⟩) hHeld ?r119
    case y119 => (intro w' hSw; (try dsimp only at hSw); have hxcs : Wnt.cs wntZ = #[.int .i64 (Wnt.k wntZ), .int .i64 (Wnt.ch wntZ), .int .i64 (Wnt.reg wntZ), .int .i64 (Wnt.flag wntZ), .int .i64 (Wnt.val wntZ)] := rfl; clear hSw; go_simp; try with_reducible rfl)
    simp only [Act.put, List.getElem_toArray, List.getElem_cons_zero, List.getElem_cons_succ, List.setIfInBounds_toArray, List.set_cons_zero, List.set_cons_succ]
    refine Still.takeBy (i := 23) [] (v := ?v120) (by kernel_rfl) (by kernel_rfl) rfl (by kernel_rfl) (by kernel_rfl) (by kernel_rfl) (fun _ _ _ h => h) (Or.inl ⟨by rfl, ?y120⟩) hHeld ?r120
    case y120 => (intro w' hSw; (try dsimp only at hSw); go_simp; try with_reducible rfl)
    simp only [Act.put, List.getElem_toArray, List.getElem_cons_zero, List.getElem_cons_succ, List.setIfInBounds_toArray, List.set_cons_zero, List.set_cons_succ]
    refine Still.all (rs := [24]) (by kernel_rfl) (by simp) (Still.one (i := 24) rfl rfl (fun K hK => ?_) (by simp))
    go_simp
    refine hK _ _ (fun h => absurd rfl h) (fun _ => ?_)
    clear hK K
    refine Still.over (by kernel_rfl) ?_ _
    have HL := Lib.hid hHeld
    clear hHeld
    go_wp2
    go_ret
    exact ⟨rfl, HL.out.dd⟩
  · refine region_still (S := fun w' => Fs w w' (w.heap.size + 1) (w1.heap.size) (w1.heap.size + 1) (w3.heap.size) (w3.heap.size + 1) c celZ (.slice ao xs.length cap) (.slice none 0 0) (.slice none 0 0) wntZ []) 24 (by kernel_rfl) HF.out.drew (fun hHeld => ?_)
    refine Still.all (rs := [0]) (by kernel_rfl) (by simp) (Still.one (i := 0) rfl rfl (fun K hK => ?_) (by simp))
    refine wp_call 9 _ _ rfl ent_begun #[] (by first | rfl | simp [Act.eval, Act.put]) ((cellBegun_any _ (HE.out.up HF.out.dd.drew)).mono ?_)
    rintro e V0 ⟨rfl, b1⟩
    refine ⟨_, rfl, hK _ _ (fun _ => hHeld.up b1) (fun hh => ?_)⟩
    have hHeld := hh (by decide)
    clear hK K hh
    try simp only [Act.put, List.getElem_toArray, List.getElem_cons_zero, List.getElem_cons_succ, List.setIfInBounds_toArray, List.set_cons_zero, List.set_cons_succ]
    clear b1
    refine Still.takeBy (i := 1) [] (v := ?v201) (by kernel_rfl) (by kernel_rfl) rfl (by kernel_rfl) (by kernel_rfl) (by kernel_rfl) (fun _ _ _ h => h) (Or.inl ⟨by rfl, ?y201⟩) hHeld ?r201
    case y201 => (intro w' hSw; (try dsimp only at hSw); go_simp; try with_reducible rfl)
    simp only [Act.put, List.getElem_toArray, List.getElem_cons_zero, List.getElem_cons_succ, List.setIfInBounds_toArray, List.set_cons_zero, List.set_cons_succ]
    refine Still.takeBy (i := 2) [] (by kernel_rfl) (by kernel_rfl) rfl (by kernel_rfl) (by kernel_rfl) (by kernel_rfl) (fun _ _ _ h => h) (yields_loadG (by rfl) _ _ rfl _ (by first | rfl | simp [Act.eval, Act.put]) _ (fun w' hSw => Rw.loadAt hSw.r3 Tryd.underlying29 rfl sizeCell)) hHeld ?r202
    simp only [Act.put, List.getElem_toArray, List.getElem_cons_zero, List.getElem_cons_succ, List.setIfInBounds_toArray, List.set_cons_zero, List.set_cons_succ]
    refine Still.takeBy (i := 5) [] (by kernel_rfl) (by kernel_rfl) rfl (by kernel_rfl) (by kernel_rfl) (by kernel_rfl) (fun _ _ _ h => h) (yields_loadG (by rfl) _ _ rfl _ (by first | rfl | simp [Act.eval, Act.put]) _ (fun w' hSw => Rw.loadAt hSw.r3 Tryd.underlying29 rfl sizeCell)) hHeld ?r203
    simp only [Act.put, List.getElem_toArray, List.getElem_cons_zero, List.getElem_cons_succ, List.setIfInBounds_toArray, List.set_cons_zero, List.set_cons_succ]
    refine Still.all (rs := [3]) (by kernel_rfl) (by simp) (Still.oneG (i := 3) rfl (by rfl) (fun K hK => ?_) (by simp))
    refine wp_call 10 _ _ rfl ent_check #[.agg (Cel.cs c (.slice ao xs.length cap))] (by first | rfl | simp [Act.eval, Act.put]) ((HCK.out _).mono ?_)
    rintro e V3 ⟨rfl, b1⟩
    refine ⟨_, rfl, hK _ _ (fun _ => hHeld.up b1) (fun hh => ?_)⟩
    have hHeld := hh (by decide)
    clear hK K hh
    try simp only [Act.put, List.getElem_toArray, List.getElem_cons_zero, List.getElem_cons_succ, List.setIfInBounds_toArray, List.set_cons_zero, List.set_cons_succ]
    clear b1
    refine Still.takeBy (i := 4) [] (v := ?v204) (by kernel_rfl) (by kernel_rfl) rfl (by kernel_rfl) (by kernel_rfl) (by kernel_rfl) (fun _ _ _ h => h) (Or.inl ⟨by rfl, ?y204⟩) hHeld ?r204
    case y204 => (intro w' hSw; (try dsimp only at hSw); go_simp; try with_reducible rfl)
    simp only [Act.put, List.getElem_toArray, List.getElem_cons_zero, List.getElem_cons_succ, List.setIfInBounds_toArray, List.set_cons_zero, List.set_cons_succ]
    refine Still.all (rs := [6]) (by kernel_rfl) (by simp) (Still.oneG (i := 6) rfl (by rfl) (fun K hK => ?_) (by simp))
    refine wp_call 11 _ _ rfl ent_fine #[.agg (Cel.cs c (.slice ao xs.length cap))] (by first | rfl | simp [Act.eval, Act.put]) ((HCF.out _).mono ?_)
    rintro e V6 ⟨rfl, b1⟩
    refine ⟨_, rfl, hK _ _ (fun _ => hHeld.up b1) (fun hh => ?_)⟩
    have hHeld := hh (by decide)
    clear hK K hh
    try simp only [Act.put, List.getElem_toArray, List.getElem_cons_zero, List.getElem_cons_succ, List.setIfInBounds_toArray, List.set_cons_zero, List.set_cons_succ]
    clear b1
    refine Still.takeBy (i := 7) [] (v := ?v205) (by kernel_rfl) (by kernel_rfl) rfl (by kernel_rfl) (by kernel_rfl) (by kernel_rfl) (fun _ _ _ h => h) (Or.inl ⟨by rfl, ?y205⟩) hHeld ?r205
    case y205 => (intro w' hSw; (try dsimp only at hSw); go_simp; try with_reducible rfl)
    simp only [Act.put, List.getElem_toArray, List.getElem_cons_zero, List.getElem_cons_succ, List.setIfInBounds_toArray, List.set_cons_zero, List.set_cons_succ]
    refine Still.takeBy (i := 8) [] (v := ?v206) (by kernel_rfl) (by kernel_rfl) rfl (by kernel_rfl) (by kernel_rfl) (by kernel_rfl) (fun _ _ _ h => h) (Or.inl ⟨by rfl, ?y206⟩) hHeld ?r206
    case y206 => (intro w' hSw; (try dsimp only at hSw); go_simp; try with_reducible rfl)
    simp only [Act.put, List.getElem_toArray, List.getElem_cons_zero, List.getElem_cons_succ, List.setIfInBounds_toArray, List.set_cons_zero, List.set_cons_succ]
    refine Still.takeBy (i := 9) [] (v := ?v207) (by kernel_rfl) (by kernel_rfl) rfl (by kernel_rfl) (by kernel_rfl) (by kernel_rfl) (fun _ _ _ h => h) (Or.inl ⟨by rfl, ?y207⟩) hHeld ?r207
    case y207 => (intro w' hSw; (try dsimp only at hSw); go_simp; try with_reducible rfl)
    simp only [Act.put, List.getElem_toArray, List.getElem_cons_zero, List.getElem_cons_succ, List.setIfInBounds_toArray, List.set_cons_zero, List.set_cons_succ]
    refine Still.takeBy (i := 10) [] (v := ?v208) (by kernel_rfl) (by kernel_rfl) rfl (by kernel_rfl) (by kernel_rfl) (by kernel_rfl) (fun _ _ _ h => h) (Or.inl ⟨by rfl, ?y208⟩) hHeld ?r208
    case y208 => (intro w' hSw; (try dsimp only at hSw); go_simp; try with_reducible rfl)
    simp only [Act.put, List.getElem_toArray, List.getElem_cons_zero, List.getElem_cons_succ, List.setIfInBounds_toArray, List.set_cons_zero, List.set_cons_succ]
    refine Still.takeBy (i := 11) [] (v := ?v209) (by kernel_rfl) (by kernel_rfl) rfl (by kernel_rfl) (by kernel_rfl) (by kernel_rfl) (fun _ _ _ h => h) (Or.inl ⟨by rfl, ?y209⟩) hHeld ?r209
    case y209 => (intro w' hSw; (try dsimp only at hSw); go_simp; try with_reducible rfl)
    simp only [Act.put, List.getElem_toArray, List.getElem_cons_zero, List.getElem_cons_succ, List.setIfInBounds_toArray, List.set_cons_zero, List.set_cons_succ]
    refine Still.takeBy (i := 12) [] (v := ?v210) (by kernel_rfl) (by kernel_rfl) rfl (by kernel_rfl) (by kernel_rfl) (by kernel_rfl) (fun _ _ _ h => h) (Or.inl ⟨by rfl, ?y210⟩) hHeld ?r210
    case y210 => (intro w' hSw; (try dsimp only at hSw); go_simp; try with_reducible rfl)
    simp only [Act.put, List.getElem_toArray, List.getElem_cons_zero, List.getElem_cons_succ, List.setIfInBounds_toArray, List.set_cons_zero, List.set_cons_succ]
    refine Still.takeBy (i := 13) [] (v := ?v211) (by kernel_rfl) (by kernel_rfl) rfl (by kernel_rfl) (by kernel_rfl) (by kernel_rfl) (fun _ _ _ h => h) (Or.inl ⟨by rfl, ?y211⟩) hHeld ?r211
    case y211 => (intro w' hSw; (try dsimp only at hSw); go_simp; try with_reducible rfl)
    simp only [Act.put, List.getElem_toArray, List.getElem_cons_zero, List.getElem_cons_succ, List.setIfInBounds_toArray, List.set_cons_zero, List.set_cons_succ]
    refine Still.takeBy (i := 14) [] (v := ?v212) (by kernel_rfl) (by kernel_rfl) rfl (by kernel_rfl) (by kernel_rfl) (by kernel_rfl) (fun _ _ _ h => h) (Or.inl ⟨by rfl, ?y212⟩) hHeld ?r212
    case y212 => (intro w' hSw; (try dsimp only at hSw); go_simp; try with_reducible rfl)
    simp only [Act.put, List.getElem_toArray, List.getElem_cons_zero, List.getElem_cons_succ, List.setIfInBounds_toArray, List.set_cons_zero, List.set_cons_succ]
    refine Still.takeBy (i := 15) [] (by kernel_rfl) (by kernel_rfl) rfl (by kernel_rfl) (by kernel_rfl) (by kernel_rfl) (fun _ _ _ h => h) (yields_loadG (by rfl) _ _ rfl _ (by first | rfl | simp [Act.eval, Act.put]) _ (fun w' hSw => Rw.loadAt hSw.r5 Tryd.underlying29 rfl sizeCell)) hHeld ?r213
    simp only [Act.put, List.getElem_toArray, List.getElem_cons_zero, List.getElem_cons_succ, List.setIfInBounds_toArray, List.set_cons_zero, List.set_cons_succ]
    refine Still.takeBy (i := 16) [] (by kernel_rfl) (by kernel_rfl) rfl (by kernel_rfl) (by kernel_rfl) (by kernel_rfl) (fun _ _ _ h => h) (yields_loadG (by rfl) _ _ rfl _ (by first | rfl | simp [Act.eval, Act.put]) _ (fun w' hSw => Rw.loadAt hSw.r9 Tryd.underlying29 rfl sizeCell)) hHeld ?r214
    simp only [Act.put, List.getElem_toArray, List.getElem_cons_zero, List.getElem_cons_succ, List.setIfInBounds_toArray, List.set_cons_zero, List.set_cons_succ]
    refine Still.all (rs := [17]) (by kernel_rfl) (by simp) (Still.oneG (i := 17) rfl (by rfl) (fun K hK => ?_) (by simp))
    refine wp_call 12 _ _ rfl ent_same #[.agg (Cel.cs celZ (.slice none 0 0)), .agg (Cel.cs celZ (.slice none 0 0))] (by first | rfl | simp [Act.eval, Act.put]) ((sameCells_cs celZ [] (.slice none 0 0) (.slice none 0 0) _ hHeld.s1 hHeld.s2 hys).mono ?_)
    rintro e V17 ⟨rfl, b1⟩
    refine ⟨_, rfl, hK _ _ (fun _ => hHeld.up b1) (fun hh => ?_)⟩
    have hHeld := hh (by decide)
    clear hK K hh
    try simp only [Act.put, List.getElem_toArray, List.getElem_cons_zero, List.getElem_cons_succ, List.setIfInBounds_toArray, List.set_cons_zero, List.set_cons_succ]
    clear b1
    refine Still.takeBy (i := 18) [] (v := ?v215) (by kernel_rfl) (by kernel_rfl) rfl (by kernel_rfl) (by kernel_rfl) (by kernel_rfl) (fun _ _ _ h => h) (Or.inl ⟨by rfl, ?y215⟩) hHeld ?r215
    case y215 => (intro w' hSw; (try dsimp only at hSw); go_simp; try with_reducible rfl)
    simp only [Act.put, List.getElem_toArray, List.getElem_cons_zero, List.getElem_cons_succ, List.setIfInBounds_toArray, List.set_cons_zero, List.set_cons_succ]
    refine Still.takeBy (i := 19) [] (v := ?v216) (by kernel_rfl) (by kernel_rfl) rfl (by kernel_rfl) (by kernel_rfl) (by kernel_rfl) (fun _ _ _ h => h) (Or.inl ⟨by rfl, ?y216⟩) hHeld ?r216
    case y216 => (intro w' hSw; (try dsimp only at hSw); go_simp; try with_reducible rfl)
    simp only [Act.put, List.getElem_toArray, List.getElem_cons_zero, List.getElem_cons_succ, List.setIfInBounds_toArray, List.set_cons_zero, List.set_cons_succ]
    refine Still.takeBy (i := 20) [] (by kernel_rfl) (by kernel_rfl) rfl (by kernel_rfl) (by kernel_rfl) (by kernel_rfl) (fun _ _ _ h => h) (yields_loadG (by rfl) _ _ rfl _ (by first | rfl | simp [Act.eval, Act.put]) _ (fun w' hSw => Rw.loadAt hSw.r6 Tryd.underlying31 rfl sizeWant)) hHeld ?r217
    simp only [Act.put, List.getElem_toArray, List.getElem_cons_zero, List.getElem_cons_succ, List.setIfInBounds_toArray, List.set_cons_zero, List.set_cons_succ]
    refine Still.takeBy (i := 21) [] (by kernel_rfl) (by kernel_rfl) rfl (by kernel_rfl) (by kernel_rfl) (by kernel_rfl) (fun _ _ _ h => h) (yields_loadG (by rfl) _ _ rfl _ (by first | rfl | simp [Act.eval, Act.put]) _ (fun w' hSw => Rw.loadAt hSw.r10 Tryd.underlying31 rfl sizeWant)) hHeld ?r218
    simp only [Act.put, List.getElem_toArray, List.getElem_cons_zero, List.getElem_cons_succ, List.setIfInBounds_toArray, List.set_cons_zero, List.set_cons_succ]
    refine Still.takeBy (i := 22) [] (v := ?v219) (by kernel_rfl) (by kernel_rfl) rfl (by kernel_rfl) (by kernel_rfl) (by kernel_rfl) (fun _ _ _ h => h) (Or.inl ⟨by rfl, ?y219⟩) hHeld ?r219
    case y219 => (intro w' hSw; (try dsimp only at hSw); have hxcs : Wnt.cs wntZ = #[.int .i64 (Wnt.k wntZ), .int .i64 (Wnt.ch wntZ), .int .i64 (Wnt.reg wntZ), .int .i64 (Wnt.flag wntZ), .int .i64 (Wnt.val wntZ)] := rfl; clear hSw; go_simp; try with_reducible rfl)
    simp only [Act.put, List.getElem_toArray, List.getElem_cons_zero, List.getElem_cons_succ, List.setIfInBounds_toArray, List.set_cons_zero, List.set_cons_succ]
    refine Still.takeBy (i := 23) [] (v := ?v220) (by kernel_rfl) (by kernel_rfl) rfl (by kernel_rfl) (by kernel_rfl) (by kernel_rfl) (fun _ _ _ h => h) (Or.inl ⟨by rfl, ?y220⟩) hHeld ?r220
    case y220 => (intro w' hSw; (try dsimp only at hSw); go_simp; try with_reducible rfl)
    simp only [Act.put, List.getElem_toArray, List.getElem_cons_zero, List.getElem_cons_succ, List.setIfInBounds_toArray, List.set_cons_zero, List.set_cons_succ]
    refine Still.all (rs := [24]) (by kernel_rfl) (by simp) (Still.one (i := 24) rfl rfl (fun K hK => ?_) (by simp))
    go_simp
    refine hK _ _ (fun h => absurd rfl h) (fun _ => ?_)
    clear hK K
    refine Still.over (by kernel_rfl) ?_ _
    have HL := Lib.hid hHeld
    clear hHeld
    go_wp2
    go_ret
    exact ⟨rfl, HL.out.dd⟩

theorem tellL_len (xs : List Int) (n : Int) : (tellL xs n).length ≤ xs.length + 1 := by
  unfold tellL
  split <;> simp
theorem doC_len {i : Ins} {inn xs xs' : List Int} {c c' : Cel} {x x' : Wnt} (h : doC i inn xs c x = some (c', xs', x')) : xs'.length ≤ xs.length + 1 := by
  have ht := tellL_len xs (c.reg i.a)
  unfold doC at h
  by_cases h1 : i.op = 1
  · rw [if_pos h1] at h; injection h with h; injection h with _ h; injection h with h _; subst h; first | omega | exact ht
  rw [if_neg h1] at h
  by_cases h2 : i.op = 2
  · rw [if_pos h2] at h; injection h with h; injection h with _ h; injection h with h _; subst h; first | omega | exact ht
  rw [if_neg h2] at h
  by_cases h3 : i.op = 3
  · rw [if_pos h3] at h; injection h with h; injection h with _ h; injection h with h _; subst h; first | omega | exact ht
  rw [if_neg h3] at h
  by_cases h4 : i.op = 4
  · rw [if_pos h4] at h; injection h with h; injection h with _ h; injection h with h _; subst h; first | omega | exact ht
  rw [if_neg h4] at h
  by_cases h5 : i.op = 5
  · rw [if_pos h5] at h; injection h with h; injection h with _ h; injection h with h _; subst h; first | omega | exact ht
  rw [if_neg h5] at h
  by_cases h6 : i.op = 6
  · rw [if_pos h6] at h
    by_cases hm : c.reg i.b < 0 ∨ 8 ≤ c.reg i.b
    · rw [if_pos hm] at h; cases h
    · rw [if_neg hm] at h; injection h with h; injection h with _ h; injection h with h _; subst h; first | omega | exact ht
  rw [if_neg h6] at h
  by_cases h7 : i.op = 7
  · rw [if_pos h7] at h
    by_cases hm : c.reg i.b < 0 ∨ 8 ≤ c.reg i.b
    · rw [if_pos hm] at h; cases h
    · rw [if_neg hm] at h; injection h with h; injection h with _ h; injection h with h _; subst h; first | omega | exact ht
  rw [if_neg h7] at h
  by_cases h8 : i.op = 8
  · rw [if_pos h8] at h; injection h with h; injection h with _ h; injection h with h _; subst h; first | omega | exact ht
  rw [if_neg h8] at h
  by_cases h9 : i.op = 9
  · rw [if_pos h9] at h; injection h with h; injection h with _ h; injection h with h _; subst h; first | omega | exact ht
  rw [if_neg h9] at h
  by_cases h10 : i.op = 10
  · rw [if_pos h10] at h; injection h with h; injection h with _ h; injection h with h _; subst h; first | omega | exact ht
  rw [if_neg h10] at h
  by_cases h11 : i.op = 11
  · rw [if_pos h11] at h; injection h with h; injection h with _ h; injection h with h _; subst h; first | omega | exact ht
  rw [if_neg h11] at h
  by_cases h12 : i.op = 12
  · rw [if_pos h12] at h; injection h with h; injection h with _ h; injection h with h _; subst h; first | omega | exact ht
  rw [if_neg h12] at h
  by_cases h13 : i.op = 13
  · rw [if_pos h13] at h; injection h with h; injection h with _ h; injection h with h _; subst h; first | omega | exact ht
  rw [if_neg h13] at h
  by_cases h14 : i.op = 14
  · rw [if_pos h14] at h; injection h with h; injection h with _ h; injection h with h _; subst h; first | omega | exact ht
  rw [if_neg h14] at h
  injection h with h; injection h with _ h; injection h with h _; subst h; first | omega | exact ht
theorem stepC_len (l : List Ins) (inn xs : List Int) (c : Cel) : (stepC l inn xs c).2.1.length ≤ xs.length + 1 := by
  unfold stepC
  split
  · unfold runC
    split
    · simp
    · rename_i i _
      cases h : doC i inn xs c wntZ with
      | none => simp
      | some r =>
        obtain ⟨c', xs', x'⟩ := r
        exact doC_len h
  · simp
theorem stepOf_to (l : List Ins) (inn xs : List Int) (c c' : Cel) (xs' : List Int) (x' : Wnt) (hst : stepC l inn xs c = (c', xs', x')) (v iv ov : Value) (hl : chkC l = 0) (hi : inn.length ≤ 12) (hf : c.fine xs.length = true) (hr : c.read ≤ inn.length) (w : World) (hC : Sl w 4 v l.length (codeC l)) (hI : Sl w 1 iv inn.length (ints inn)) (hO : Sl w 1 ov xs.length (ints xs)) :
    Calls Tryd.prog 8 #[.agg #[v, iv], .agg (c.cs ov)] w fun e w' => ∃ ao cap, e = .returned (.tuple #[.agg (c'.cs (.slice ao xs'.length cap)), .agg x'.cs]) ∧ w'.ownsRow w.heap.size 3 1 (.slice ao xs'.length cap) xs'.length (ints xs') ∧ Below w.heap.size w w' := by
  have h := stepOf_any l inn xs v iv ov c hl hi hf hr w hC hI hO
  rw [hst] at h
  refine h.mono ?_
  rintro e w' ⟨o', rfl, h1, h2⟩
  obtain ⟨ao, cap, rfl⟩ := own_form h1
  exact ⟨ao, cap, rfl, h1, h2⟩
set_option maxRecDepth 100000 in
set_option maxHeartbeats 8000000 in
theorem cellSteps_ok (l : List Ins) (hok : ∀ j (hj : j < l.length), l[j].ok) (inn xs : List Int) (v iv ov : Value) (c : Cel) (hl : chkC l = 0) (hi : inn.length ≤ 12) (hf : c.fine xs.length = true) (hr : c.read ≤ inn.length) (w : World) (he : Env w) (hC : Sl w 4 v l.length (codeC l)) (hI : Sl w 1 iv inn.length (ints inn)) (hO : Sl w 1 ov xs.length (ints xs)) :
    Calls Tryd.prog 3 #[partV v iv, c.v ov] w fun e w' => e = .returned (.bool true) ∧ Below w.heap.size w w' := by
  obtain ⟨iao, icap, rfl⟩ := hI.form
  obtain ⟨ao, cap, rfl⟩ := hO.form
  have hlx := ((fine_iff c _).1 hf).2.2.2.2.2.2
  have hlen := stepC_len l inn xs c
  obtain ⟨⟨c', ys, x'⟩, hst⟩ : ∃ r, stepC l inn xs c = r := ⟨_, rfl⟩
  rw [hst] at hlen
  have hys : ys.length < 4294967281 := by simp only at hlen; omega
  have he0 : stepE (chkC l) inn.length true c.read = 0 := by
    unfold stepE
    rw [hl, if_neg (by simp), if_neg (by omega), if_neg (by simp), if_neg (by omega)]
  have HA := Lib.hid fun w he hC hI hO => cellStep_to l inn xs c c' ys x' hst v (.slice iao inn.length icap) (.slice ao xs.length cap) hl hi hf hr w he hC hI hO
  have HG := Lib.hid fun w hC hI hO => stepOf_to l inn xs c c' ys x' hst v (.slice iao inn.length icap) (.slice ao xs.length cap) hl hi hf hr w hC hI hO
  have HB := Lib.hid fun w hS => he0 ▸ stepError_any l hok v iao inn.length icap c ao xs.length cap (chkC l) rfl true hf w hS
  have hE : c.err xs.length = 0 := by unfold Cel.err; rw [hf]; rfl
  have HCK := Lib.hid fun w => hE ▸ cellCheck_any c ao xs.length cap w
  have HCF := Lib.hid fun w => hf ▸ cellFine_any c ao xs.length cap w
  have HE := Lib.hid he
  have HS := Lib.hid hC
  have HI := Lib.hid hI
  have HO := Lib.hid hO
  obtain ⟨cao, ccap, rfl⟩ := hC.form
  clear hf he0 hC he hI hO hok hE hst hlen hl hi hr hlx
  rw [Cel.v_cs] at HB HCK HCF
  rw [Cel.v_cs]
  unfold partV at HB
  unfold partV
  go_enter Tryd.func3, Tryd.ntmps3
  go_wp2_with (refine wpList_load_row rfl 29 (.tmp 3) rfl (w.heap.size + 1) rfl 29 (c.cs (.slice ao xs.length cap)) (0, 0) _ (by repeat (first | exact Rw.new _ _ _ (by first | rfl | (simp; done) | omega | (simp; omega)) | refine Rw.alloc ?_ _)) Tryd.underlying29 rfl sizeCell ?_)
  refine (HA.out _ (HE.out.up (by repeat (first | exact Below.refl _ _ | assumption | refine Below.drew ?_ | refine Below.alloc ?_ (by first | (simp; done) | (simp; omega)) _ | refine Below.setCell ?_ (by first | (simp; done) | (simp; omega)) _))) (HS.out.up (by repeat (first | exact Below.refl _ _ | assumption | refine Below.drew ?_ | refine Below.alloc ?_ (by first | (simp; done) | (simp; omega)) _ | refine Below.setCell ?_ (by first | (simp; done) | (simp; omega)) _))) (HI.out.up (by repeat (first | exact Below.refl _ _ | assumption | refine Below.drew ?_ | refine Below.alloc ?_ (by first | (simp; done) | (simp; omega)) _ | refine Below.setCell ?_ (by first | (simp; done) | (simp; omega)) _))) (HO.out.up (by repeat (first | exact Below.refl _ _ | assumption | refine Below.drew ?_ | refine Below.alloc ?_ (by first | (simp; done) | (simp; omega)) _ | refine Below.setCell ?_ (by first | (simp; done) | (simp; omega)) _)))).mono ?_
  rintro e w1 ⟨ao1, cp1, rfl, o1, b1⟩
  have z1 := b1.size
  simp at z1
  have O1 := Lib.hid (own_sl o1)
  have R0 : Hid (Rw w1 w.heap.size 25 #[.slice cao l.length ccap, .slice iao inn.length icap]) := Rw.up (by repeat (first | exact Rw.new _ _ _ (by first | rfl | (simp; done) | omega | (simp; omega)) | refine Rw.alloc ?_ _)) b1 (by first | omega | (simp; done) | (simp; omega))
  have R1 : Hid (Rw w1 (w.heap.size + 1) 29 (c.cs (.slice ao xs.length cap))) := Rw.up (by repeat (first | exact Rw.new _ _ _ (by first | rfl | (simp; done) | omega | (simp; omega)) | refine Rw.alloc ?_ _)) b1 (by first | omega | (simp; done) | (simp; omega))
  have HD1 : Hid (Below w.heap.size w w1) := by
    refine Below.trans ?_ (b1.mono (by first | omega | (simp; done) | (simp; omega)))
    exact (by repeat (first | exact Below.refl _ _ | assumption | refine Below.drew ?_ | refine Below.alloc ?_ (by first | (simp; done) | (simp; omega)) _ | refine Below.setCell ?_ (by first | (simp; done) | (simp; omega)) _))
  clear b1 HA o1
  go_wp2_with (first | (refine wpList_store_row rfl 29 (.tmp 5) (.tmp 15) rfl w1.heap.size (c'.cs (.slice ao1 ys.length cp1)) rfl rfl 29 (celZ.cs (.slice none 0 0)) (by repeat (first | exact Rw.new _ _ _ (by first | rfl | (simp; done) | omega | (simp; omega)) | refine Rw.alloc ?_ _)) sizeCell rfl (Cel.cs_one _ _ (by first | rfl | assumption)) ?_) | (refine wpList_store_rowW rfl 31 (.tmp 6) (.tmp 16) rfl (w1.heap.size + 1) x'.cs rfl rfl 31 #[.int .i64 0, .int .i64 0, .int .i64 0, .int .i64 0, .int .i64 0] (Rw.row_other (by repeat (first | exact Rw.new _ _ _ (by first | rfl | (simp; done) | omega | (simp; omega)) | refine Rw.alloc ?_ _)) _ (by omega)) sizeWant rfl (Wnt.cs_one _) ?_))
  intro W2 HW
  have D2 : Below w1.heap.size w1 W2 := by rw [HW.out]; exact below_row (below_row (((Below.refl _ _).alloc (Nat.le_refl _) _).alloc (by simp) _) (Nat.le_refl _) _) (by omega) _
  have r2 : Rw W2 w1.heap.size 29 (c'.cs (.slice ao1 ys.length cp1)) := by rw [HW.out]; exact Rw.row_other (Rw.row (cs := celZ.cs (.slice none 0 0)) (by repeat (first | exact Rw.new _ _ _ (by first | rfl | (simp; done) | omega | (simp; omega)) | refine Rw.alloc ?_ _)) _) _ (by omega)
  have r2b : Rw W2 (w1.heap.size + 1) 31 x'.cs := by rw [HW.out]; exact Rw.row (cs := #[.int .i64 0, .int .i64 0, .int .i64 0, .int .i64 0, .int .i64 0]) (Rw.row_other (by repeat (first | exact Rw.new _ _ _ (by first | rfl | (simp; done) | omega | (simp; omega)) | refine Rw.alloc ?_ _)) _ (by omega)) _
  have hzW2 : W2.heap.size = w1.heap.size + 2 := by rw [HW.out]; simp
  clear HW
  have R02 := R0.out.up D2 (by omega)
  have R12 := Lib.hid (R1.out.up D2 (by omega))
  have HD2 := Lib.hid (HD1.out.trans (D2.mono (by omega)))
  have O2 := Lib.hid (O1.out.up D2)
  have R22 := Lib.hid r2
  have R2b := Lib.hid r2b
  have R02a := Lib.hid R02
  have q0 := R02.cell (j := 0) (v := .slice cao l.length ccap) rfl
  have q1 := R02.cell (j := 1) (v := .slice iao inn.length icap) rfl
  clear D2 r2 r2b R0 R1 R02 HD1 O1
  go_wp2_with (refine wpList_load_row rfl 29 (.tmp 3) rfl (w.heap.size + 1) rfl 29 (c.cs (.slice ao xs.length cap)) (0, 0) _ R12.out Tryd.underlying29 rfl sizeCell ?_)
  refine (HB.out _ (HS.out.up HD2.out)).mono ?_
  rintro e w3 ⟨rfl, b3⟩
  have z3 := b3.size
  have R03 := R02a.out.up b3 (by omega)
  have R13 := Lib.hid (R12.out.up b3 (by omega))
  have R23 := Lib.hid (R22.out.up b3 (by omega))
  have R3b := Lib.hid (R2b.out.up b3 (by omega))
  have O3 := Lib.hid (O2.out.up b3)
  have HD3 := Lib.hid (HD2.out.trans (b3.mono (by omega)))
  clear q0 q1
  have q0 := R03.cell (j := 0) (v := .slice cao l.length ccap) rfl
  have q1 := R03.cell (j := 1) (v := .slice iao inn.length icap) rfl
  have hg0 : w.heap.size < w3.heap.size := by omega
  have hg0' : w.heap.size ≠ w3.heap.size := by omega
  have hg1' : w.heap.size ≠ w3.heap.size + 1 := by omega
  have b3' : Below w.heap.size w ((w3.alloc (.cells #[.int .i64 0, .int .i64 0, .int .i64 0, .int .i64 0, .int .i64 0, .int .i64 0, .int .i64 0, .int .i64 0, .int .i64 0, .int .i64 0, .int .i64 0, .int .i64 0, .int .i64 0, .int .i64 0, .slice none 0 0, .int .i64 0] 29)).alloc (.cells #[.int .i64 0, .int .i64 0, .int .i64 0, .int .i64 0, .int .i64 0] 31)) := (HD3.out.alloc (by omega) _).alloc (by simp; omega) _
  have HB3 := Lib.hid b3'
  clear b3 b3' HB R12 R22 R2b HD2 O2 R02a R03
  go_wp2_with (refine wpList_load_row rfl 29 (.tmp 3) rfl (w.heap.size + 1) rfl 29 (c.cs (.slice ao xs.length cap)) (0, 0) _ ((R13.out.alloc _).alloc _) Tryd.underlying29 rfl sizeCell ?_)
  refine (HG.out _ (HS.out.up HB3.out) (HI.out.up HB3.out) (HO.out.up HB3.out)).mono ?_
  rintro e w4 ⟨ao4, cp4, rfl, o4, b4⟩
  have z4 := b4.size
  simp at z4
  have o4b := own_block o4
  simp at o4b
  have b4' : Below w3.heap.size w3 w4 := Below.trans (((Below.refl _ _).alloc (Nat.le_refl _) _).alloc (by simp) _) (b4.mono (by simp; omega))
  have R14 := Lib.hid (R13.out.up b4' (by omega))
  have R24 := Lib.hid (R23.out.up b4' (by omega))
  have R4b := Lib.hid (R3b.out.up b4' (by omega))
  have R94 : Hid (Rw w4 w3.heap.size 29 (celZ.cs (.slice none 0 0))) := Rw.up (by repeat (first | exact Rw.new _ _ _ (by first | rfl | (simp; done) | omega | (simp; omega)) | refine Rw.alloc ?_ _)) b4 (by first | omega | (simp; done) | (simp; omega))
  have R04 : Hid (Rw w4 (w3.heap.size + 1) 31 wntZ.cs) := Rw.up (by repeat (first | exact Rw.new _ _ _ (by first | rfl | (simp; done) | omega | (simp; omega)) | refine Rw.alloc ?_ _)) b4 (by first | omega | (simp; done) | (simp; omega))
  have O4a := Lib.hid (O3.out.up b4')
  have O4b := Lib.hid (own_sl o4)
  have HD4 := Lib.hid (HD3.out.trans (b4'.mono (by omega)))
  have hl1 : ∀ k, 0 < ys.length → (Value.slice ao1 ys.length cp1).ownBlock = some k → k < w3.heap.size := fun k h0 e => by
    obtain ⟨b, off, cp, he1, _, hb, _⟩ := O3.out.open h0
    injection he1 with e1 _ _
    subst e1
    simp [Value.ownBlock] at e
    omega
  have HL1 := Lib.hid hl1
  have HL4 := Lib.hid o4b
  clear hl1 o4b b4 b4' o4 HG HB3 R13 R23 R3b O3 HD3 q0 q1
  go_wp2_with (first | (refine wpList_store_row rfl 29 (.tmp 9) (.tmp 27) rfl w3.heap.size (c'.cs (.slice ao4 ys.length cp4)) rfl rfl 29 (celZ.cs (.slice none 0 0)) R94.out sizeCell rfl (Cel.cs_one _ _ rfl) ?_) | (refine wpList_store_rowW rfl 31 (.tmp 10) (.tmp 28) rfl (w3.heap.size + 1) x'.cs rfl rfl 31 wntZ.cs (R04.out.row_other _ (by omega)) sizeWant rfl (Wnt.cs_one _) ?_))
  intro W4 HW
  have hF : Fs w W4 (w.heap.size + 1) w1.heap.size (w1.heap.size + 1) w3.heap.size (w3.heap.size + 1) c c' (.slice ao xs.length cap) (.slice ao1 ys.length cp1) (.slice ao4 ys.length cp4) x' ys := by
    rw [HW.out]
    exact ⟨below_row (below_row HD4.out (by omega) _) (by omega) _, (R14.out.row_other _ (by omega)).row_other _ (by omega), (R24.out.row_other _ (by omega)).row_other _ (by omega), (R4b.out.row_other _ (by omega)).row_other _ (by omega), (R94.out.row _).row_other _ (by omega), Rw.row (R04.out.row_other _ (by omega)) _,
      sl_row0 (sl_row0 O4a.out (fun h0 e => by have := HL1.out _ h0 e; omega)) (fun h0 e => by have := HL1.out _ h0 e; omega), (O4b.out.row _ (fun e => by have := HL4.out _ e; omega)).row _ (fun e => by have := HL4.out _ e; omega)⟩
  have HF := Lib.hid hF
  clear hF HW R14 R24 R4b R94 R04 O4a O4b HD4 HL1 HL4
  go_wp2
  refine region_still (S := fun w' => Fs w w' (w.heap.size + 1) (w1.heap.size) (w1.heap.size + 1) (w3.heap.size) (w3.heap.size + 1) c c' (.slice ao xs.length cap) (.slice ao1 ys.length cp1) (.slice ao4 ys.length cp4) x' ys) 24 (by kernel_rfl) HF.out.drew (fun hHeld => ?_)
  refine Still.all (rs := [0]) (by kernel_rfl) (by simp) (Still.one (i := 0) rfl rfl (fun K hK => ?_) (by simp))
  refine wp_call 9 _ _ rfl ent_begun #[] (by first | rfl | simp [Act.eval, Act.put]) ((cellBegun_any _ (HE.out.up HF.out.dd.drew)).mono ?_)
  rintro e V0 ⟨rfl, b1⟩
  refine ⟨_, rfl, hK _ _ (fun _ => hHeld.up b1) (fun hh => ?_)⟩
  have hHeld := hh (by decide)
  clear hK K hh
  try simp only [Act.put, List.getElem_toArray, List.getElem_cons_zero, List.getElem_cons_succ, List.setIfInBounds_toArray, List.set_cons_zero, List.set_cons_succ]
  clear b1
  refine Still.takeBy (i := 1) [] (v := ?v301) (by kernel_rfl) (by kernel_rfl) rfl (by kernel_rfl) (by kernel_rfl) (by kernel_rfl) (fun _ _ _ h => h) (Or.inl ⟨by rfl, ?y301⟩) hHeld ?r301
  case y301 => (intro w' hSw; (try dsimp only at hSw); go_simp; try with_reducible rfl)
  simp only [Act.put, List.getElem_toArray, List.getElem_cons_zero, List.getElem_cons_succ, List.setIfInBounds_toArray, List.set_cons_zero, List.set_cons_succ]
  refine Still.takeBy (i := 2) [] (by kernel_rfl) (by kernel_rfl) rfl (by kernel_rfl) (by kernel_rfl) (by kernel_rfl) (fun _ _ _ h => h) (yields_loadG (by rfl) _ _ rfl _ (by first | rfl | simp [Act.eval, Act.put]) _ (fun w' hSw => Rw.loadAt hSw.r3 Tryd.underlying29 rfl sizeCell)) hHeld ?r302
  simp only [Act.put, List.getElem_toArray, List.getElem_cons_zero, List.getElem_cons_succ, List.setIfInBounds_toArray, List.set_cons_zero, List.set_cons_succ]
  refine Still.takeBy (i := 5) [] (by kernel_rfl) (by kernel_rfl) rfl (by kernel_rfl) (by kernel_rfl) (by kernel_rfl) (fun _ _ _ h => h) (yields_loadG (by rfl) _ _ rfl _ (by first | rfl | simp [Act.eval, Act.put]) _ (fun w' hSw => Rw.loadAt hSw.r3 Tryd.underlying29 rfl sizeCell)) hHeld ?r303
  simp only [Act.put, List.getElem_toArray, List.getElem_cons_zero, List.getElem_cons_succ, List.setIfInBounds_toArray, List.set_cons_zero, List.set_cons_succ]
  refine Still.all (rs := [3]) (by kernel_rfl) (by simp) (Still.oneG (i := 3) rfl (by rfl) (fun K hK => ?_) (by simp))
  refine wp_call 10 _ _ rfl ent_check #[.agg (Cel.cs c (.slice ao xs.length cap))] (by first | rfl | simp [Act.eval, Act.put]) ((HCK.out _).mono ?_)
  rintro e V3 ⟨rfl, b1⟩
  refine ⟨_, rfl, hK _ _ (fun _ => hHeld.up b1) (fun hh => ?_)⟩
  have hHeld := hh (by decide)
  clear hK K hh
  try simp only [Act.put, List.getElem_toArray, List.getElem_cons_zero, List.getElem_cons_succ, List.setIfInBounds_toArray, List.set_cons_zero, List.set_cons_succ]
  clear b1
  refine Still.takeBy (i := 4) [] (v := ?v304) (by kernel_rfl) (by kernel_rfl) rfl (by kernel_rfl) (by kernel_rfl) (by kernel_rfl) (fun _ _ _ h => h) (Or.inl ⟨by rfl, ?y304⟩) hHeld ?r304
  case y304 => (intro w' hSw; (try dsimp only at hSw); go_simp; try with_reducible rfl)
  simp only [Act.put, List.getElem_toArray, List.getElem_cons_zero, List.getElem_cons_succ, List.setIfInBounds_toArray, List.set_cons_zero, List.set_cons_succ]
  refine Still.all (rs := [6]) (by kernel_rfl) (by simp) (Still.oneG (i := 6) rfl (by rfl) (fun K hK => ?_) (by simp))
  refine wp_call 11 _ _ rfl ent_fine #[.agg (Cel.cs c (.slice ao xs.length cap))] (by first | rfl | simp [Act.eval, Act.put]) ((HCF.out _).mono ?_)
  rintro e V6 ⟨rfl, b1⟩
  refine ⟨_, rfl, hK _ _ (fun _ => hHeld.up b1) (fun hh => ?_)⟩
  have hHeld := hh (by decide)
  clear hK K hh
  try simp only [Act.put, List.getElem_toArray, List.getElem_cons_zero, List.getElem_cons_succ, List.setIfInBounds_toArray, List.set_cons_zero, List.set_cons_succ]
  clear b1
  refine Still.takeBy (i := 7) [] (v := ?v305) (by kernel_rfl) (by kernel_rfl) rfl (by kernel_rfl) (by kernel_rfl) (by kernel_rfl) (fun _ _ _ h => h) (Or.inl ⟨by rfl, ?y305⟩) hHeld ?r305
  case y305 => (intro w' hSw; (try dsimp only at hSw); go_simp; try with_reducible rfl)
  simp only [Act.put, List.getElem_toArray, List.getElem_cons_zero, List.getElem_cons_succ, List.setIfInBounds_toArray, List.set_cons_zero, List.set_cons_succ]
  refine Still.takeBy (i := 8) [] (v := ?v306) (by kernel_rfl) (by kernel_rfl) rfl (by kernel_rfl) (by kernel_rfl) (by kernel_rfl) (fun _ _ _ h => h) (Or.inl ⟨by rfl, ?y306⟩) hHeld ?r306
  case y306 => (intro w' hSw; (try dsimp only at hSw); go_simp; try with_reducible rfl)
  simp only [Act.put, List.getElem_toArray, List.getElem_cons_zero, List.getElem_cons_succ, List.setIfInBounds_toArray, List.set_cons_zero, List.set_cons_succ]
  refine Still.takeBy (i := 9) [] (v := ?v307) (by kernel_rfl) (by kernel_rfl) rfl (by kernel_rfl) (by kernel_rfl) (by kernel_rfl) (fun _ _ _ h => h) (Or.inl ⟨by rfl, ?y307⟩) hHeld ?r307
  case y307 => (intro w' hSw; (try dsimp only at hSw); go_simp; try with_reducible rfl)
  simp only [Act.put, List.getElem_toArray, List.getElem_cons_zero, List.getElem_cons_succ, List.setIfInBounds_toArray, List.set_cons_zero, List.set_cons_succ]
  refine Still.takeBy (i := 10) [] (v := ?v308) (by kernel_rfl) (by kernel_rfl) rfl (by kernel_rfl) (by kernel_rfl) (by kernel_rfl) (fun _ _ _ h => h) (Or.inl ⟨by rfl, ?y308⟩) hHeld ?r308
  case y308 => (intro w' hSw; (try dsimp only at hSw); go_simp; try with_reducible rfl)
  simp only [Act.put, List.getElem_toArray, List.getElem_cons_zero, List.getElem_cons_succ, List.setIfInBounds_toArray, List.set_cons_zero, List.set_cons_succ]
  refine Still.takeBy (i := 11) [] (v := ?v309) (by kernel_rfl) (by kernel_rfl) rfl (by kernel_rfl) (by kernel_rfl) (by kernel_rfl) (fun _ _ _ h => h) (Or.inl ⟨by rfl, ?y309⟩) hHeld ?r309
  case y309 => (intro w' hSw; (try dsimp only at hSw); go_simp; try with_reducible rfl)
  simp only [Act.put, List.getElem_toArray, List.getElem_cons_zero, List.getElem_cons_succ, List.setIfInBounds_toArray, List.set_cons_zero, List.set_cons_succ]
  refine Still.takeBy (i := 12) [] (v := ?v310) (by kernel_rfl) (by kernel_rfl) rfl (by kernel_rfl) (by kernel_rfl) (by kernel_rfl) (fun _ _ _ h => h) (Or.inl ⟨by rfl, ?y310⟩) hHeld ?r310
  case y310 => (intro w' hSw; (try dsimp only at hSw); go_simp; try with_reducible rfl)
  simp only [Act.put, List.getElem_toArray, List.getElem_cons_zero, List.getElem_cons_succ, List.setIfInBounds_toArray, List.set_cons_zero, List.set_cons_succ]
  refine Still.takeBy (i := 13) [] (v := ?v311) (by kernel_rfl) (by kernel_rfl) rfl (by kernel_rfl) (by kernel_rfl) (by kernel_rfl) (fun _ _ _ h => h) (Or.inl ⟨by rfl, ?y311⟩) hHeld ?r311
  case y311 => (intro w' hSw; (try dsimp only at hSw); go_simp; try with_reducible rfl)
  simp only [Act.put, List.getElem_toArray, List.getElem_cons_zero, List.getElem_cons_succ, List.setIfInBounds_toArray, List.set_cons_zero, List.set_cons_succ]
  refine Still.takeBy (i := 14) [] (v := ?v312) (by kernel_rfl) (by kernel_rfl) rfl (by kernel_rfl) (by kernel_rfl) (by kernel_rfl) (fun _ _ _ h => h) (Or.inl ⟨by rfl, ?y312⟩) hHeld ?r312
  case y312 => (intro w' hSw; (try dsimp only at hSw); go_simp; try with_reducible rfl)
  simp only [Act.put, List.getElem_toArray, List.getElem_cons_zero, List.getElem_cons_succ, List.setIfInBounds_toArray, List.set_cons_zero, List.set_cons_succ]
  refine Still.takeBy (i := 15) [] (by kernel_rfl) (by kernel_rfl) rfl (by kernel_rfl) (by kernel_rfl) (by kernel_rfl) (fun _ _ _ h => h) (yields_loadG (by rfl) _ _ rfl _ (by first | rfl | simp [Act.eval, Act.put]) _ (fun w' hSw => Rw.loadAt hSw.r5 Tryd.underlying29 rfl sizeCell)) hHeld ?r313
  simp only [Act.put, List.getElem_toArray, List.getElem_cons_zero, List.getElem_cons_succ, List.setIfInBounds_toArray, List.set_cons_zero, List.set_cons_succ]
  refine Still.takeBy (i := 16) [] (by kernel_rfl) (by kernel_rfl) rfl (by kernel_rfl) (by kernel_rfl) (by kernel_rfl) (fun _ _ _ h => h) (yields_loadG (by rfl) _ _ rfl _ (by first | rfl | simp [Act.eval, Act.put]) _ (fun w' hSw => Rw.loadAt hSw.r9 Tryd.underlying29 rfl sizeCell)) hHeld ?r314
  simp only [Act.put, List.getElem_toArray, List.getElem_cons_zero, List.getElem_cons_succ, List.setIfInBounds_toArray, List.set_cons_zero, List.set_cons_succ]
  refine Still.all (rs := [17]) (by kernel_rfl) (by simp) (Still.oneG (i := 17) rfl (by rfl) (fun K hK => ?_) (by simp))
  refine wp_call 12 _ _ rfl ent_same #[.agg (Cel.cs c' (.slice ao1 ys.length cp1)), .agg (Cel.cs c' (.slice ao4 ys.length cp4))] (by first | rfl | simp [Act.eval, Act.put]) ((sameCells_cs c' ys (.slice ao1 ys.length cp1) (.slice ao4 ys.length cp4) _ hHeld.s1 hHeld.s2 hys).mono ?_)
  rintro e V17 ⟨rfl, b1⟩
  refine ⟨_, rfl, hK _ _ (fun _ => hHeld.up b1) (fun hh => ?_)⟩
  have hHeld := hh (by decide)
  clear hK K hh
  try simp only [Act.put, List.getElem_toArray, List.getElem_cons_zero, List.getElem_cons_succ, List.setIfInBounds_toArray, List.set_cons_zero, List.set_cons_succ]
  clear b1
  refine Still.takeBy (i := 18) [] (v := ?v315) (by kernel_rfl) (by kernel_rfl) rfl (by kernel_rfl) (by kernel_rfl) (by kernel_rfl) (fun _ _ _ h => h) (Or.inl ⟨by rfl, ?y315⟩) hHeld ?r315
  case y315 => (intro w' hSw; (try dsimp only at hSw); go_simp; try with_reducible rfl)
  simp only [Act.put, List.getElem_toArray, List.getElem_cons_zero, List.getElem_cons_succ, List.setIfInBounds_toArray, List.set_cons_zero, List.set_cons_succ]
  refine Still.takeBy (i := 19) [] (v := ?v316) (by kernel_rfl) (by kernel_rfl) rfl (by kernel_rfl) (by kernel_rfl) (by kernel_rfl) (fun _ _ _ h => h) (Or.inl ⟨by rfl, ?y316⟩) hHeld ?r316
  case y316 => (intro w' hSw; (try dsimp only at hSw); go_simp; try with_reducible rfl)
  simp only [Act.put, List.getElem_toArray, List.getElem_cons_zero, List.getElem_cons_succ, List.setIfInBounds_toArray, List.set_cons_zero, List.set_cons_succ]
  refine Still.takeBy (i := 20) [] (by kernel_rfl) (by kernel_rfl) rfl (by kernel_rfl) (by kernel_rfl) (by kernel_rfl) (fun _ _ _ h => h) (yields_loadG (by rfl) _ _ rfl _ (by first | rfl | simp [Act.eval, Act.put]) _ (fun w' hSw => Rw.loadAt hSw.r6 Tryd.underlying31 rfl sizeWant)) hHeld ?r317
  simp only [Act.put, List.getElem_toArray, List.getElem_cons_zero, List.getElem_cons_succ, List.setIfInBounds_toArray, List.set_cons_zero, List.set_cons_succ]
  refine Still.takeBy (i := 21) [] (by kernel_rfl) (by kernel_rfl) rfl (by kernel_rfl) (by kernel_rfl) (by kernel_rfl) (fun _ _ _ h => h) (yields_loadG (by rfl) _ _ rfl _ (by first | rfl | simp [Act.eval, Act.put]) _ (fun w' hSw => Rw.loadAt hSw.r10 Tryd.underlying31 rfl sizeWant)) hHeld ?r318
  simp only [Act.put, List.getElem_toArray, List.getElem_cons_zero, List.getElem_cons_succ, List.setIfInBounds_toArray, List.set_cons_zero, List.set_cons_succ]
  refine Still.takeBy (i := 22) [] (v := ?v319) (by kernel_rfl) (by kernel_rfl) rfl (by kernel_rfl) (by kernel_rfl) (by kernel_rfl) (fun _ _ _ h => h) (Or.inl ⟨by rfl, ?y319⟩) hHeld ?r319
  case y319 => (intro w' hSw; (try dsimp only at hSw); have hxcs : Wnt.cs x' = #[.int .i64 (Wnt.k x'), .int .i64 (Wnt.ch x'), .int .i64 (Wnt.reg x'), .int .i64 (Wnt.flag x'), .int .i64 (Wnt.val x')] := rfl; clear hSw; go_simp; try with_reducible rfl)
  simp only [Act.put, List.getElem_toArray, List.getElem_cons_zero, List.getElem_cons_succ, List.setIfInBounds_toArray, List.set_cons_zero, List.set_cons_succ]
  refine Still.takeBy (i := 23) [] (v := ?v320) (by kernel_rfl) (by kernel_rfl) rfl (by kernel_rfl) (by kernel_rfl) (by kernel_rfl) (fun _ _ _ h => h) (Or.inl ⟨by rfl, ?y320⟩) hHeld ?r320
  case y320 => (intro w' hSw; (try dsimp only at hSw); go_simp; try with_reducible rfl)
  simp only [Act.put, List.getElem_toArray, List.getElem_cons_zero, List.getElem_cons_succ, List.setIfInBounds_toArray, List.set_cons_zero, List.set_cons_succ]
  refine Still.all (rs := [24]) (by kernel_rfl) (by simp) (Still.one (i := 24) rfl rfl (fun K hK => ?_) (by simp))
  go_simp
  refine hK _ _ (fun h => absurd rfl h) (fun _ => ?_)
  clear hK K
  refine Still.over (by kernel_rfl) ?_ _
  have HL := Lib.hid hHeld
  clear hHeld
  go_wp2
  go_ret
  exact ⟨rfl, HL.out.dd⟩
theorem stepE_zero {d : Int} {i : Nat} {f : Bool} {r : Int} (h : stepE d i f r = 0) : d = 0 ∧ i ≤ 12 ∧ f = true ∧ r ≤ i := by
  unfold stepE at h
  split at h
  · rename_i hd
    simp at hd
    omega
  · rename_i hd
    simp at hd
    split at h
    · omega
    · split at h
      · omega
      · rename_i h1 h2
        split at h
        · omega
        · simp at h2
          exact ⟨hd, by omega, h2, by omega⟩
theorem cellSteps_any (l : List Ins) (hok : ∀ j (hj : j < l.length), l[j].ok) (inn xs : List Int) (v iv ov : Value) (c : Cel) (w : World) (he : Env w) (hC : Sl w 4 v l.length (codeC l)) (hI : Sl w 1 iv inn.length (ints inn)) (hO : Sl w 1 ov xs.length (ints xs)) :
    Calls Tryd.prog 3 #[partV v iv, c.v ov] w fun e w' => e = .returned (.bool true) ∧ Below w.heap.size w w' := by
  by_cases h0 : stepE (chkC l) inn.length (c.fine xs.length) c.read = 0
  · obtain ⟨h1, h2, h3, h4⟩ := stepE_zero h0
    exact cellSteps_ok l hok inn xs v iv ov c h1 h2 h3 h4 w he hC hI hO
  · exact cellSteps_bad l hok inn xs v iv ov c _ rfl _ rfl _ rfl h0 w he hC hI hO
end Go.Proofs.YtbmocfgkocncpaaDoor

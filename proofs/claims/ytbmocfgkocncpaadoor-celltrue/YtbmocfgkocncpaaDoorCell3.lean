/- A cell's copy: copied and the reference's OwnCell. -/
import Derived.Test.YtbmocfgkocncpaaDoorCell2
import Derived.Test.YtbmocfgkocncpaaDoorAppSl
namespace Go.Proofs.YtbmocfgkocncpaaDoor
set_option linter.unusedSimpArgs false
set_option linter.unusedVariables false
open Go.RowKit Go.Sort

/-- A cell's sixteen places. -/
def Cel.cs (c : Cel) (o : Value) : Array Value := #[.int .i64 c.at_, .int .i64 c.r0, .int .i64 c.r1, .int .i64 c.r2, .int .i64 c.r3, .int .i64 c.m0, .int .i64 c.m1, .int .i64 c.m2, .int .i64 c.m3, .int .i64 c.m4, .int .i64 c.m5, .int .i64 c.m6, .int .i64 c.m7, .int .i64 c.read, o, .int .i64 c.en]
theorem Cel.v_cs (c : Cel) (o : Value) : c.v o = .agg (c.cs o) := rfl
theorem Cel.cs_set (c : Cel) (o o' : Value) : (c.cs o).setIfInBounds 14 o' = c.cs o' := rfl
theorem Cel.cs_one (c : Cel) (o : Value) (h : o.oneCell' = true) : (c.cs o).all (·.oneCell') = true := by
  simp [Cel.cs, h]
  simp [Value.oneCell']
def celZ : Cel := ⟨0, 0, 0, 0, 0, 0, 0, 0, 0, 0, 0, 0, 0, 0, 0⟩
theorem infoInt : (Tryd.prog.info? 3).map (fun i => (i.zero, i.size, i.bytes)) = some (some (.int .i64 0), 1, 8) := by kernel_rfl
theorem sizeCell : (Tryd.prog.info? 29).map (·.size) = some 16 := by kernel_rfl
theorem row_lt {w : World} {g : Nat} {t : TypeId} {cs : Array Value} (h : Rw w g t cs) : g < w.heap.size := h.lt
set_option maxRecDepth 100000 in
set_option maxHeartbeats 4000000 in
theorem copied_any (c : Cel) (xs : List Int) (hx : xs.length ≤ 1000) (v : Value) (w : World) (hS : Sl w 1 v xs.length (ints xs)) :
    Calls Tryd.prog 18 #[c.v v] w fun e w' => ∃ v', e = .returned (c.v v') ∧ w'.ownsRow w.heap.size 3 1 v' xs.length (ints xs) ∧ Below w.heap.size w w' := by
  obtain ⟨i0, hi, hz0, hz1, hz2⟩ := info_parts infoInt
  rw [Cel.v_cs]
  have h14 : (c.cs v)[14]? = some v := rfl
  have HS := Lib.hid hS
  clear hS
  go_enter Tryd.func18, Tryd.ntmps18
  go_wp2_with (at_builtin; refine wpList_append_nil rfl (.const (.slice none 0 0)) (.tmp 4) 23 rfl 3 i0 _ 1 8 Tryd.underlying23 hi hz0 hz1 hz2 rfl (by decide) rfl v xs.length (ints xs) rfl (HS.out.up (by repeat (first | exact Below.refl _ _ | assumption | refine Below.drew ?_ | refine Below.alloc ?_ (by first | (simp; done) | (simp; omega)) _ | refine Below.setCell ?_ (by first | (simp; done) | (simp; omega)) _))) (ints_cell xs) (by unfold maxLen; omega) (by omega) ?_)
  intro v' W ho hb
  have z2 : w.heap.size + 2 ≤ W.heap.size := by have := hb.size; simp at this; omega
  have D : Below w.heap.size w W := by
    refine Below.trans ?_ (hb.mono (by first | omega | (simp; done) | (simp; omega)))
    exact (by repeat (first | exact Below.refl _ _ | assumption | refine Below.drew ?_ | refine Below.alloc ?_ (by first | (simp; done) | (simp; omega)) _ | refine Below.setCell ?_ (by first | (simp; done) | (simp; omega)) _))
  have r1 : Rw W w.heap.size 29 (c.cs v) := Rw.up ((Rw.new w _ _ rfl).alloc _) hb (by first | omega | (simp; done) | (simp; omega))
  have r2 : Rw W (w.heap.size + 1) 29 (celZ.cs (.slice none 0 0)) := (Rw.new _ 29 _ (by simp)).up hb (by first | omega | (simp; done) | (simp; omega))
  have k1 := r1.cell h14
  have k2 := r1.fr 14
  have hv := own_block ho
  obtain ⟨ao, cap, rfl⟩ := own_form ho
  have R1 := Lib.hid (r1.set 14 (.slice ao xs.length cap))
  have R2 := Lib.hid (r2.set_other (a := ⟨w.heap.size, 14, none⟩) (.slice ao xs.length cap) (by simp))
  have DD := Lib.hid (D.setCell (p := ⟨w.heap.size, 14, none⟩) (Nat.le_refl _) (.slice ao xs.length cap))
  have HO := Lib.hid (own_set (a := ⟨w.heap.size, 14, none⟩) ho (.slice ao xs.length cap) (fun e => by have := hv _ e; simp at this; omega))
  clear r1 r2 D hb ho HS h14
  go_wp2_with (first | (refine wpList_load_row rfl 29 (.tmp 1) rfl w.heap.size rfl 29 (c.cs (.slice ao xs.length cap)) (0, 0) _ R1.out Tryd.underlying29 rfl sizeCell ?_) | (refine wpList_store_row rfl 29 (.tmp 2) (.tmp 7) rfl (w.heap.size + 1) (c.cs (.slice ao xs.length cap)) rfl rfl 29 _ R2.out sizeCell rfl (c.cs_one _ rfl) ?_))
  refine bodyPost_ret (results_cell_row Tryd.results18 _ _ (w.heap.size + 1) 29 (c.cs (.slice ao xs.length cap)) (0, 0) _ rfl (R2.out.row _) Tryd.underlying29 rfl sizeCell) rfl ⟨_, rfl, ?_, below_row DD.out (by omega) _⟩
  exact own_low (own_row HO.out _ (fun e => by have := hv _ e; omega)) (by omega)

set_option maxRecDepth 100000 in
set_option maxHeartbeats 4000000 in
/-- The reference's OwnCell. -/
theorem ownCell_any (c : Cel) (xs : List Int) (hx : xs.length ≤ 1000) (v : Value) (w : World) (hS : Sl w 1 v xs.length (ints xs)) :
    Calls Tryd.prog 21 #[c.v v] w fun e w' => ∃ v', e = .returned (c.v v') ∧ w'.ownsRow w.heap.size 3 1 v' xs.length (ints xs) ∧ Below w.heap.size w w' := by
  obtain ⟨i0, hi, hz0, hz1, hz2⟩ := info_parts infoInt
  rw [Cel.v_cs]
  have h14 : (c.cs v)[14]? = some v := rfl
  have HS := Lib.hid hS
  clear hS
  go_enter Tryd.func21, Tryd.ntmps21
  go_wp2_with (at_builtin; refine wpList_append_lit rfl (.tmp 3) (.tmp 5) 23 rfl (w.heap.size + 2) 3 i0 _ 1 8 Tryd.underlying23 hi hz0 hz1 hz2 rfl (by decide) (w.heap.size + 2) rfl (Rw.new _ 3 _ (by simp)) (Nat.le_refl _) v xs.length (ints xs) rfl (HS.out.up (by repeat (first | exact Below.refl _ _ | assumption | refine Below.drew ?_ | refine Below.alloc ?_ (by first | (simp; done) | (simp; omega)) _ | refine Below.setCell ?_ (by first | (simp; done) | (simp; omega)) _))) (ints_cell xs) (by unfold maxLen; omega) (by omega) ?_)
  intro v' W ho hb _
  have z2 : w.heap.size + 2 ≤ W.heap.size := by have := hb.size; simp at this; omega
  have D : Below w.heap.size w W := by
    refine Below.trans ?_ (hb.mono (by first | omega | (simp; done) | (simp; omega)))
    exact (by repeat (first | exact Below.refl _ _ | assumption | refine Below.drew ?_ | refine Below.alloc ?_ (by first | (simp; done) | (simp; omega)) _ | refine Below.setCell ?_ (by first | (simp; done) | (simp; omega)) _))
  have r1 : Rw W w.heap.size 29 (c.cs v) := Rw.up (((Rw.new w _ _ rfl).alloc _).alloc _) hb (by first | omega | (simp; done) | (simp; omega))
  have r2 : Rw W (w.heap.size + 1) 29 (celZ.cs (.slice none 0 0)) := Rw.up ((Rw.new _ 29 _ (by simp)).alloc _) hb (by first | omega | (simp; done) | (simp; omega))
  have k1 := r1.cell h14
  have k2 := r1.fr 14
  have hv := own_block ho
  obtain ⟨ao, cap, rfl⟩ := own_form ho
  have R1 := Lib.hid (r1.set 14 (.slice ao xs.length cap))
  have R2 := Lib.hid (r2.set_other (a := ⟨w.heap.size, 14, none⟩) (.slice ao xs.length cap) (by simp))
  have DD := Lib.hid (D.setCell (p := ⟨w.heap.size, 14, none⟩) (Nat.le_refl _) (.slice ao xs.length cap))
  have HO := Lib.hid (own_set (a := ⟨w.heap.size, 14, none⟩) ho (.slice ao xs.length cap) (fun e => by have := hv _ e; simp at this; omega))
  clear r1 r2 D hb ho HS h14
  go_wp2_with (first | (refine wpList_load_row rfl 29 (.tmp 1) rfl w.heap.size rfl 29 (c.cs (.slice ao xs.length cap)) (0, 0) _ R1.out Tryd.underlying29 rfl sizeCell ?_) | (refine wpList_store_row rfl 29 (.tmp 2) (.tmp 8) rfl (w.heap.size + 1) (c.cs (.slice ao xs.length cap)) rfl rfl 29 _ R2.out sizeCell rfl (c.cs_one _ rfl) ?_))
  refine bodyPost_ret (results_cell_row Tryd.results21 _ _ (w.heap.size + 1) 29 (c.cs (.slice ao xs.length cap)) (0, 0) _ rfl (R2.out.row _) Tryd.underlying29 rfl sizeCell) rfl ⟨_, rfl, ?_, below_row DD.out (by omega) _⟩
  exact own_low (own_row HO.out _ (fun e => by have := hv _ e; omega)) (by omega)
end Go.Proofs.YtbmocfgkocncpaaDoor

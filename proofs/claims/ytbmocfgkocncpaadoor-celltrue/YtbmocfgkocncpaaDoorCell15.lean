/- The law CellReplies answers true, whatever it is handed. -/
import Derived.Test.YtbmocfgkocncpaaDoorCell14
namespace Go.Proofs.YtbmocfgkocncpaaDoor
set_option linter.unusedSimpArgs false
set_option linter.unusedVariables false
open Go.RowKit Go.Sort

theorem sl_row0 {w : World} {size : Nat} {v : Value} {n : Nat} {xs : List Value} (h : Sl w size v n xs) {g : Nat} {cs : Array Value} (hne : 0 < n → v.ownBlock ≠ some g) : Sl (w.setRow g cs) size v n xs := by
  obtain ⟨h1, ao, cap, rfl, h3, h4⟩ := h
  refine ⟨h1, ao, cap, rfl, h3, fun hn => ?_⟩
  obtain ⟨b, off, rfl, hlt, hc⟩ := h4 hn
  exact ⟨b, off, rfl, by rw [setRow_size]; exact hlt, fun k u' hk => (cell_setRow_other w g cs _ (by simpa [Value.ownBlock] using hne hn)).trans (hc k u' hk)⟩
/-- A whole row is loaded, where a guard wants it. -/
theorem wpList_load_rowG {P : Program} {ops : Array Oper} {rest : List Oper} {o : Oper} {a : Act} {w : World} {Q : Exit → Act → World → Prop} (hgd : Region.wanted o (yielded ops a.tmps) = true) (ty : TypeId) (x : Operand) (ho : o.op = .load ty x)
    (g : Nat) (hx : a.eval x = .pointer (some ⟨g, 0, none⟩)) (t : TypeId) (cs : Array Value) (fr : Nat × Nat) (d : TypeDesc) (hg : w.heap[g]? = some (.cells cs t fr))
    (hu : P.underlying ty = some d) (hd : (match d with | .struct _ | .array _ _ => true | _ => false) = true) (hi : (P.info? ty).map (·.size) = some cs.size)
    (h : wpList P ops Q rest (a.put o.dst (.agg cs)) w) : wpList P ops Q (o :: rest) a w :=
  BigFrame.wpList_want hgd fun _ hK => wp_load_row ty x ho g hx t cs fr d hg hu hd hi (hK _ _ h)
theorem sameCells_cs (c : Cel) (xs : List Int) (v u : Value) (w : World) (hx : Sl w 1 v xs.length (ints xs)) (hy : Sl w 1 u xs.length (ints xs)) (hm : xs.length < 4294967281) :
    Calls Tryd.prog 12 #[.agg (c.cs v), .agg (c.cs u)] w fun e w' => e = .returned (.bool true) ∧ Below w.heap.size w w' := sameCells_yes c xs v u w hx hy hm
set_option maxRecDepth 100000 in
set_option maxHeartbeats 8000000 in
theorem cellReplies_bad (c : Cel) (xs : List Int) (v : Value) (k ch reg flag val kind vl : Int) (is : Bool) (f : Bool) (hf : c.fine xs.length = f) (e0 : Int) (he0 : replyE f k reg flag kind = e0) (hne : e0 ≠ 0) (w : World) (he : Env w) (hS : Sl w 1 v xs.length (ints xs)) :
    Calls Tryd.prog 4 #[c.v v, wantV k ch reg flag val, .int .i64 kind, .int .i64 vl, .bool is] w fun e w' => e = .returned (.bool true) ∧ Below w.heap.size w w' := by
  obtain ⟨ao, cap, rfl⟩ := hS.form
  have hne' : (e0 == 0) = false := by simpa using hne
  have HA := Lib.hid fun w => reply_bad c ao xs.length cap k ch reg flag val kind vl is f hf e0 he0 hne w
  have HB := Lib.hid fun w => he0 ▸ replyError_any c ao xs.length cap k ch reg flag val kind f hf w
  have HE := Lib.hid he
  clear hf he0 hne hS he
  rw [Cel.v_cs] at HA HB
  rw [Cel.v_cs]
  unfold wantV at HA HB
  unfold wantV
  go_enter Tryd.func4, Tryd.ntmps4
  go_wp2_with (refine wpList_load_row rfl 29 (.tmp 5) rfl (w.heap.size) rfl 29 (c.cs (.slice ao xs.length cap)) (0, 0) _ (by repeat (first | exact Rw.new _ _ _ (by first | rfl | (simp; done) | omega | (simp; omega)) | refine Rw.alloc ?_ _)) Tryd.underlying29 rfl sizeCell ?_)
  refine (HA.out _).mono ?_
  rintro e w1 ⟨rfl, b1⟩
  have z1 := b1.size
  simp at z1
  have R0 : Hid (Rw w1 w.heap.size 29 (c.cs (.slice ao xs.length cap))) := Rw.up (by repeat (first | exact Rw.new _ _ _ (by first | rfl | (simp; done) | omega | (simp; omega)) | refine Rw.alloc ?_ _)) b1 (by first | omega | (simp; done) | (simp; omega))
  have R1 : Hid (Rw w1 (w.heap.size + 1) 31 (wantCs k ch reg flag val)) := Rw.up (by repeat (first | exact Rw.new _ _ _ (by first | rfl | (simp; done) | omega | (simp; omega)) | refine Rw.alloc ?_ _)) b1 (by first | omega | (simp; done) | (simp; omega))
  have HD1 : Hid (Below w.heap.size w w1) := by
    refine Below.trans ?_ (b1.mono (by first | omega | (simp; done) | (simp; omega)))
    exact (by repeat (first | exact Below.refl _ _ | assumption | refine Below.drew ?_ | refine Below.alloc ?_ (by first | (simp; done) | (simp; omega)) _ | refine Below.setCell ?_ (by first | (simp; done) | (simp; omega)) _))
  clear b1 HA
  go_wp2_with (refine wpList_store_rowW rfl 29 (.tmp 11) (.tmp 22) rfl w1.heap.size (celZ.cs (.slice none 0 0)) rfl rfl 29 (celZ.cs (.slice none 0 0)) (by repeat (first | exact Rw.new _ _ _ (by first | rfl | (simp; done) | omega | (simp; omega)) | refine Rw.alloc ?_ _)) sizeCell rfl (Cel.cs_one _ _ (by first | rfl | assumption)) ?_)
  intro W2 HW
  have D2 : Below w1.heap.size w1 W2 := by rw [HW.out]; exact below_row ((Below.refl _ _).alloc (Nat.le_refl _) _) (Nat.le_refl _) _
  have r2 : Rw W2 w1.heap.size 29 (celZ.cs (.slice none 0 0)) := by rw [HW.out]; exact Rw.row (cs := celZ.cs (.slice none 0 0)) (by repeat (first | exact Rw.new _ _ _ (by first | rfl | (simp; done) | omega | (simp; omega)) | refine Rw.alloc ?_ _)) _
  have hzW2 : W2.heap.size = w1.heap.size + 1 := by rw [HW.out]; simp
  clear HW
  have R02 := Lib.hid (R0.out.up D2 (by omega))
  have R12 := R1.out.up D2 (by omega)
  have HD2 := Lib.hid (HD1.out.trans (D2.mono (by omega)))
  have R22 := Lib.hid r2
  have q0 := R12.cell (j := 0) (v := .int .i64 k) rfl
  have q1 := R12.cell (j := 1) (v := .int .i64 ch) rfl
  have q2 := R12.cell (j := 2) (v := .int .i64 reg) rfl
  have q3 := R12.cell (j := 3) (v := .int .i64 flag) rfl
  have q4 := R12.cell (j := 4) (v := .int .i64 val) rfl
  clear D2 r2 R0 R1 R12 HD1
  go_wp2_with (refine wpList_load_row rfl 29 (.tmp 5) rfl (w.heap.size) rfl 29 (c.cs (.slice ao xs.length cap)) (0, 0) _ R02.out Tryd.underlying29 rfl sizeCell ?_)
  refine (HB.out _).mono ?_
  rintro e w3 ⟨rfl, b3⟩
  have z3 := b3.size
  have HD3 := Lib.hid (HD2.out.trans (b3.mono (by omega)))
  have R23 := Lib.hid (R22.out.up b3 (by omega))
  clear b3 HB R02 R22 q0 q1 q2 q3 q4 HD2
  go_wp2_with fail
  refine (cellBegun_any _ (HE.out.up (by repeat (first | exact HD3.out | refine Below.alloc ?_ (by first | omega | (simp; done) | (simp; omega)) _)))).mono ?_
  rintro e w4 ⟨rfl, b4⟩
  have z4 := b4.size
  simp at z4
  have b4' : Below w3.heap.size w3 w4 := Below.trans ((Below.refl _ _).alloc (Nat.le_refl _) _) (b4.mono (by simp))
  have R24 := Lib.hid (R23.out.up b4' (by omega))
  have R34 : Hid (Rw w4 w3.heap.size 29 (celZ.cs (.slice none 0 0))) := Rw.up (by repeat (first | exact Rw.new _ _ _ (by first | rfl | (simp; done) | omega | (simp; omega)) | refine Rw.alloc ?_ _)) b4 (by simp)
  have HD4 := Lib.hid (HD3.out.trans (b4'.mono (by omega)))
  clear b4 b4' R23 HD3
  go_wp2_with (first | (refine wpList_load_rowG rfl 29 (.tmp 11) rfl (w1.heap.size) rfl 29 (celZ.cs (.slice none 0 0)) (0, 0) _ R24.out Tryd.underlying29 rfl sizeCell ?_) | (refine wpList_load_rowG rfl 29 (.tmp 14) rfl (w3.heap.size) rfl 29 (celZ.cs (.slice none 0 0)) (0, 0) _ R34.out Tryd.underlying29 rfl sizeCell ?_) | (go_at_call 12; refine (sameCells_cs celZ [] _ _ _ (Sl.nil _ _) (Sl.nil _ _) (by simp)).mono ?_; rintro e w5 ⟨rfl, b5⟩))
  go_ret
  exact ⟨rfl, HD4.out.trans (b5.mono HD4.out.size)⟩

set_option maxRecDepth 100000 in
set_option maxHeartbeats 8000000 in
theorem cellReplies_ok (c : Cel) (xs : List Int) (v : Value) (k ch reg flag val kind vl : Int) (is : Bool) (hf : c.fine xs.length = true) (he0 : replyE true k reg flag kind = 0) (w : World) (he : Env w) (hS : Sl w 1 v xs.length (ints xs)) :
    Calls Tryd.prog 4 #[c.v v, wantV k ch reg flag val, .int .i64 kind, .int .i64 vl, .bool is] w fun e w' => e = .returned (.bool true) ∧ Below w.heap.size w w' := by
  obtain ⟨ao, cap, rfl⟩ := hS.form
  have hl := ((fine_iff c _).1 hf).2.2.2.2.2.2
  have HA := Lib.hid fun w hS => reply_ok c xs (.slice ao xs.length cap) k ch reg flag val kind vl is hf he0 w hS
  have HB := Lib.hid fun w => he0 ▸ replyError_any c ao xs.length cap k ch reg flag val kind true hf w
  have HC := Lib.hid fun w hS => replyOf_any c xs (.slice ao xs.length cap) k ch reg flag val kind vl is hl he0 w hS
  have HE := Lib.hid he
  have HS := Lib.hid hS
  clear hf he0 hS he
  generalize c.replied k reg flag kind vl is = c' at HA HC
  rw [Cel.v_cs] at HA HB HC
  rw [Cel.v_cs]
  unfold wantV at HA HB HC
  unfold wantV
  go_enter Tryd.func4, Tryd.ntmps4
  go_wp2_with (refine wpList_load_row rfl 29 (.tmp 5) rfl (w.heap.size) rfl 29 (c.cs (.slice ao xs.length cap)) (0, 0) _ (by repeat (first | exact Rw.new _ _ _ (by first | rfl | (simp; done) | omega | (simp; omega)) | refine Rw.alloc ?_ _)) Tryd.underlying29 rfl sizeCell ?_)
  refine (HA.out _ (HS.out.up (by repeat (first | exact Below.refl _ _ | assumption | refine Below.drew ?_ | refine Below.alloc ?_ (by first | (simp; done) | (simp; omega)) _ | refine Below.setCell ?_ (by first | (simp; done) | (simp; omega)) _)))).mono ?_
  rintro e w1 ⟨v1, rfl, o1, b1⟩
  have z1 := b1.size
  simp at z1
  obtain ⟨ao1, cp1, rfl⟩ := own_form o1
  have O1 := Lib.hid (own_sl o1)
  have R0 : Hid (Rw w1 w.heap.size 29 (c.cs (.slice ao xs.length cap))) := Rw.up (by repeat (first | exact Rw.new _ _ _ (by first | rfl | (simp; done) | omega | (simp; omega)) | refine Rw.alloc ?_ _)) b1 (by first | omega | (simp; done) | (simp; omega))
  have R1 : Hid (Rw w1 (w.heap.size + 1) 31 (wantCs k ch reg flag val)) := Rw.up (by repeat (first | exact Rw.new _ _ _ (by first | rfl | (simp; done) | omega | (simp; omega)) | refine Rw.alloc ?_ _)) b1 (by first | omega | (simp; done) | (simp; omega))
  have HD1 : Hid (Below w.heap.size w w1) := by
    refine Below.trans ?_ (b1.mono (by first | omega | (simp; done) | (simp; omega)))
    exact (by repeat (first | exact Below.refl _ _ | assumption | refine Below.drew ?_ | refine Below.alloc ?_ (by first | (simp; done) | (simp; omega)) _ | refine Below.setCell ?_ (by first | (simp; done) | (simp; omega)) _))
  clear b1 HA o1
  go_wp2_with (refine wpList_store_rowW rfl 29 (.tmp 11) (.tmp 22) rfl w1.heap.size (c'.cs (.slice ao1 xs.length cp1)) rfl rfl 29 (celZ.cs (.slice none 0 0)) (by repeat (first | exact Rw.new _ _ _ (by first | rfl | (simp; done) | omega | (simp; omega)) | refine Rw.alloc ?_ _)) sizeCell rfl (Cel.cs_one _ _ (by first | rfl | assumption)) ?_)
  intro W2 HW
  have D2 : Below w1.heap.size w1 W2 := by rw [HW.out]; exact below_row ((Below.refl _ _).alloc (Nat.le_refl _) _) (Nat.le_refl _) _
  have r2 : Rw W2 w1.heap.size 29 (c'.cs (.slice ao1 xs.length cp1)) := by rw [HW.out]; exact Rw.row (cs := celZ.cs (.slice none 0 0)) (by repeat (first | exact Rw.new _ _ _ (by first | rfl | (simp; done) | omega | (simp; omega)) | refine Rw.alloc ?_ _)) _
  have hzW2 : W2.heap.size = w1.heap.size + 1 := by rw [HW.out]; simp
  clear HW
  have R02 := Lib.hid (R0.out.up D2 (by omega))
  have R12 := R1.out.up D2 (by omega)
  have HD2 := Lib.hid (HD1.out.trans (D2.mono (by omega)))
  have O2 := Lib.hid (O1.out.up D2)
  have R22 := Lib.hid r2
  have R12a := Lib.hid R12
  have q0 := R12.cell (j := 0) (v := .int .i64 k) rfl
  have q1 := R12.cell (j := 1) (v := .int .i64 ch) rfl
  have q2 := R12.cell (j := 2) (v := .int .i64 reg) rfl
  have q3 := R12.cell (j := 3) (v := .int .i64 flag) rfl
  have q4 := R12.cell (j := 4) (v := .int .i64 val) rfl
  clear D2 r2 R0 R1 R12 HD1 O1
  go_wp2_with (refine wpList_load_row rfl 29 (.tmp 5) rfl (w.heap.size) rfl 29 (c.cs (.slice ao xs.length cap)) (0, 0) _ R02.out Tryd.underlying29 rfl sizeCell ?_)
  refine (HB.out _).mono ?_
  rintro e w3 ⟨rfl, b3⟩
  have z3 := b3.size
  have HD3 := Lib.hid (HD2.out.trans (b3.mono (by omega)))
  have R03 := Lib.hid (R02.out.up b3 (by omega))
  have R13 := R12a.out.up b3 (by omega)
  have R23 := Lib.hid (R22.out.up b3 (by omega))
  have O3 := Lib.hid (O2.out.up b3)
  clear q0 q1 q2 q3 q4
  have q0 := R13.cell (j := 0) (v := .int .i64 k) rfl
  have q1 := R13.cell (j := 1) (v := .int .i64 ch) rfl
  have q2 := R13.cell (j := 2) (v := .int .i64 reg) rfl
  have q3 := R13.cell (j := 3) (v := .int .i64 flag) rfl
  have q4 := R13.cell (j := 4) (v := .int .i64 val) rfl
  have hg1 : w.heap.size + 1 < w3.heap.size := by omega
  have hg1' : w.heap.size + 1 ≠ w3.heap.size := by omega
  clear b3 HB R02 R22 HD2 O2 R13 R12a
  go_wp2_with (refine wpList_load_row rfl 29 (.tmp 5) rfl (w.heap.size) rfl 29 (c.cs (.slice ao xs.length cap)) (0, 0) _ (R03.out.alloc _) Tryd.underlying29 rfl sizeCell ?_)
  refine (HC.out _ (HS.out.up (by repeat (first | exact HD3.out | refine Below.alloc ?_ (by first | omega | (simp; done) | (simp; omega)) _)))).mono ?_
  rintro e w4 ⟨v4, rfl, o4, b4⟩
  have z4 := b4.size
  simp at z4
  obtain ⟨ao4, cp4, rfl⟩ := own_form o4
  have o4b := own_block o4
  simp at o4b
  have b4' : Below w3.heap.size w3 w4 := Below.trans ((Below.refl _ _).alloc (Nat.le_refl _) _) (b4.mono (by simp))
  have R24 := Lib.hid (R23.out.up b4' (by omega))
  have R34 : Hid (Rw w4 w3.heap.size 29 (celZ.cs (.slice none 0 0))) := Rw.up (by repeat (first | exact Rw.new _ _ _ (by first | rfl | (simp; done) | omega | (simp; omega)) | refine Rw.alloc ?_ _)) b4 (by simp)
  have HD4 := Lib.hid (HD3.out.trans (b4'.mono (by omega)))
  have O4a := Lib.hid (O3.out.up b4')
  have O4b := Lib.hid (own_sl o4)
  have hne : ∀ k, (Value.slice ao4 xs.length cp4).ownBlock = some k → k ≠ w3.heap.size := fun k e => by have := o4b k e; omega
  have O1L := O3.out
  have hne1 : ∀ k, 0 < xs.length → (Value.slice ao1 xs.length cp1).ownBlock = some k → k < w3.heap.size := fun k h0 e => by
    obtain ⟨b, off, cp, he1, _, hb, _⟩ := O1L.open h0
    injection he1 with e1 _ _
    subst e1
    simp [Value.ownBlock] at e
    omega
  have HNE := Lib.hid hne
  have HNE1 := Lib.hid hne1
  clear b4 b4' R23 HD3 o4 o4b q0 q1 q2 q3 q4 R03 O3 hne hne1 O1L HC
  rw [Cel.v_cs]
  go_wp2_with (refine wpList_store_rowW rfl 29 (.tmp 14) (.tmp 35) rfl w3.heap.size (c'.cs (.slice ao4 xs.length cp4)) rfl rfl 29 (celZ.cs (.slice none 0 0)) R34.out sizeCell rfl (Cel.cs_one _ _ rfl) ?_)
  intro W5 HW
  have R25 : Hid (Rw W5 w1.heap.size 29 (c'.cs (.slice ao1 xs.length cp1))) := by rw [HW.out]; exact R24.out.row_other _ (by omega)
  have R35 : Hid (Rw W5 w3.heap.size 29 (c'.cs (.slice ao4 xs.length cp4))) := by rw [HW.out]; exact R34.out.row _
  have O5a : Hid (Sl W5 1 (.slice ao1 xs.length cp1) xs.length (ints xs)) := by rw [HW.out]; exact sl_row0 O4a.out (fun h0 e => by have := HNE1.out _ h0 e; omega)
  have O5b : Hid (Sl W5 1 (.slice ao4 xs.length cp4) xs.length (ints xs)) := by rw [HW.out]; exact O4b.out.row _ (fun e => HNE.out _ e rfl)
  have HD5 : Hid (Below w.heap.size w W5) := by rw [HW.out]; exact below_row HD4.out (by omega) _
  have z5 : W5.heap.size = w4.heap.size := by rw [HW.out]; simp
  clear HW R24 R34 O4a O4b HD4 HNE HNE1
  go_wp2_with fail
  refine (cellBegun_any _ (HE.out.up HD5.out)).mono ?_
  rintro e w6 ⟨rfl, b6⟩
  have R26 := Lib.hid (R25.out.up b6 (by omega))
  have R36 := Lib.hid (R35.out.up b6 (by omega))
  have O6a := Lib.hid (O5a.out.up b6)
  have O6b := Lib.hid (O5b.out.up b6)
  have HD6 := Lib.hid (HD5.out.trans (b6.mono HD5.out.size))
  clear b6 R25 R35 O5a O5b HD5
  go_wp2_with (first | (refine wpList_load_rowG rfl 29 (.tmp 11) rfl (w1.heap.size) rfl 29 (c'.cs (.slice ao1 xs.length cp1)) (0, 0) _ R26.out Tryd.underlying29 rfl sizeCell ?_) | (refine wpList_load_rowG rfl 29 (.tmp 14) rfl (w3.heap.size) rfl 29 (c'.cs (.slice ao4 xs.length cp4)) (0, 0) _ R36.out Tryd.underlying29 rfl sizeCell ?_) | (go_at_call 12; refine (sameCells_cs c' xs _ _ _ O6a.out O6b.out (by omega)).mono ?_; rintro e w7 ⟨rfl, b7⟩))
  go_ret
  exact ⟨rfl, HD6.out.trans (b7.mono HD6.out.size)⟩
theorem replyE_bad {f : Bool} {k reg flag kind : Int} (h : replyE f k reg flag kind = 0) : f = true := by
  cases f
  · simp [replyE] at h
  · rfl
theorem cellReplies_any (c : Cel) (xs : List Int) (v : Value) (k ch reg flag val kind vl : Int) (is : Bool) (w : World) (he : Env w) (hS : Sl w 1 v xs.length (ints xs)) :
    Calls Tryd.prog 4 #[c.v v, wantV k ch reg flag val, .int .i64 kind, .int .i64 vl, .bool is] w fun e w' => e = .returned (.bool true) ∧ Below w.heap.size w w' := by
  by_cases h0 : replyE (c.fine xs.length) k reg flag kind = 0
  · have hf := replyE_bad h0
    rw [hf] at h0
    exact cellReplies_ok c xs v k ch reg flag val kind vl is hf h0 w he hS
  · exact cellReplies_bad c xs v k ch reg flag val kind vl is _ rfl _ rfl h0 w he hS
end Go.Proofs.YtbmocfgkocncpaaDoor

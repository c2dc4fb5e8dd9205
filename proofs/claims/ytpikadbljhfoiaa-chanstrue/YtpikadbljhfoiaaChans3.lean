/- Channels: Put into a queue. -/
import Derived.Test.YtpikadbljhfoiaaChans2
import Derived.OneCell
import Derived.BigQuiet
namespace Go.Proofs.Ytpikadbljhfoiaa
set_option linter.unusedSimpArgs false
set_option linter.unusedVariables false
open Go.RowKit Go.Sort

theorem room2 (w : World) : Calls Try.prog 15 #[.int .i64 2] w fun e w' => e = .returned (.int .i64 3) ∧ w' = w := room_any 2 w

theorem int_cell (z : Int) : ∀ u ∈ [Value.int .i64 z], u.oneCell' = true := by
  intro u hu; simp at hu; subst hu; rfl

set_option maxHeartbeats 2000000 in
theorem put_full (xs : List Int) (v : Value) (val : Int) (w : World) (hx : xs.length = 3) (hS : Sl w 1 v xs.length (ints xs)) :
    Calls Try.prog 5 #[.int .i64 2, .agg #[v], .int .i64 val] w fun e w' => ∃ v', e = .returned (.tuple #[.agg #[v'], .bool false, .int .i64 0]) ∧ SlN w w' v' xs.length (ints xs) ∧ Below w.heap.size w w' := by
  obtain ⟨ao, cap, rfl⟩ := hS.form
  have HS := Lib.hid hS
  have HX := Lib.hid hx
  clear hS hx
  go_enter Try.func5, Try.ntmps5
  go_wp2_with fail
  refine (chk_any 2 ao xs.length cap _ 0 (by unfold chkL; simp; have := HX.out; omega)).mono ?_
  rintro e w1 ⟨rfl, b1⟩
  have u1 : Below w.heap.size w w1 := Below.trans (by repeat (first | exact Below.refl _ _ | assumption | refine Below.drew ?_ | refine Below.alloc ?_ (by first | (simp; done) | (simp; omega)) _ | refine Below.setCell ?_ (by first | (simp; done) | (simp; omega)) _)) (b1.mono (by simp; omega))
  have s1 : w.heap.size + 2 ≤ w1.heap.size := by have := b1.size; simp at this; omega
  have k0 : w1.cell? ⟨w.heap.size, 0, none⟩ = some (.slice ao xs.length cap) := bcl b1 (by simp; omega) (cl_alloc _ (by simp) (by simp))
  have z0 : w1.cell? ⟨w.heap.size + 1, 0, none⟩ = some (.slice none 0 0) := bcl b1 (by simp) (by simp)
  have y0 : w1.frozen? ⟨w.heap.size + 1, 0, none⟩ = false := bfr b1 (by simp) (by simp)
  clear b1
  go_wp2_with fail
  refine (line_any xs (by have := HX.out; omega) _ _ (HS.out.up u1)).mono ?_
  rintro e w2 ⟨v', rfl, o2, b2⟩
  have u2 : Below w.heap.size w w2 := Below.trans u1 (b2.mono (by omega))
  have s2 : w.heap.size + 2 ≤ w2.heap.size := by have := b2.size; omega
  have z0 : w2.cell? ⟨w.heap.size + 1, 0, none⟩ = some (.slice none 0 0) := bcl b2 (by omega) z0
  have y0 : w2.frozen? ⟨w.heap.size + 1, 0, none⟩ = false := bfr b2 (by omega) y0
  have o2' := own_low o2 (show w.heap.size + 2 ≤ _ by omega)
  obtain ⟨a2, c2, rfl⟩ := own_form o2
  have HO := Lib.hid o2'
  have q3 : ((xs.length : Int) == 3) = true := by simp; have := HX.out; omega
  have z0 : (w2.alloc (.cells #[.slice a2 xs.length c2] 24)).cell? ⟨w.heap.size + 1, 0, none⟩ = some (.slice none 0 0) := cl_alloc _ (by omega) z0
  have y0 : (w2.alloc (.cells #[.slice a2 xs.length c2] 24)).frozen? ⟨w.heap.size + 1, 0, none⟩ = false := fr_alloc _ (by omega) y0
  have hne : w.heap.size + 1 ≠ w2.heap.size := by omega
  have hne2 : w2.heap.size ≠ w.heap.size + 1 := by omega
  clear b2 o2 o2' k0
  go_wp2
  go_quiet ((go_at_call 15; refine Calls.quiet_of_same (room2 _)))
  go_wp2
  refine bodyPost_ret (v := .tuple #[.agg #[.slice a2 xs.length c2], .bool false, .int .i64 0]) ?_ rfl ⟨_, rfl, ?_, ?_⟩
  · simp [results, Try.results5, go_sem, *]
  · exact own_sln (by omega) (ownsRow_setCell_below (own_drewN (HO.out.alloc _) nq) (by simp) _)
  · exact (below_drewN (u2.alloc (by omega) _) nq).setCell (by simp) _
set_option maxHeartbeats 2000000 in
theorem put_room (xs : List Int) (v : Value) (val : Int) (w : World) (hx : xs.length < 3) (hS : Sl w 1 v xs.length (ints xs)) :
    Calls Try.prog 5 #[.int .i64 2, .agg #[v], .int .i64 val] w fun e w' => ∃ v', e = .returned (.tuple #[.agg #[v'], .bool true, .int .i64 0]) ∧ SlN w w' v' (xs ++ [val]).length (ints (xs ++ [val])) ∧ Below w.heap.size w w' := by
  obtain ⟨ao, cap, rfl⟩ := hS.form
  obtain ⟨i0, hi, hz0, hz1, hz2⟩ := info_parts info3
  have HS := Lib.hid hS
  have HX := Lib.hid hx
  clear hS hx
  go_enter Try.func5, Try.ntmps5
  go_wp2_with fail
  refine (chk_any 2 ao xs.length cap _ 0 (by unfold chkL; simp; have := HX.out; omega)).mono ?_
  rintro e w1 ⟨rfl, b1⟩
  have u1 : Below w.heap.size w w1 := Below.trans (by repeat (first | exact Below.refl _ _ | assumption | refine Below.drew ?_ | refine Below.alloc ?_ (by first | (simp; done) | (simp; omega)) _ | refine Below.setCell ?_ (by first | (simp; done) | (simp; omega)) _)) (b1.mono (by simp; omega))
  have s1 : w.heap.size + 2 ≤ w1.heap.size := by have := b1.size; simp at this; omega
  have k0 : w1.cell? ⟨w.heap.size, 0, none⟩ = some (.slice ao xs.length cap) := bcl b1 (by simp; omega) (cl_alloc _ (by simp) (by simp))
  have z0 : w1.cell? ⟨w.heap.size + 1, 0, none⟩ = some (.slice none 0 0) := bcl b1 (by simp) (by simp)
  have y0 : w1.frozen? ⟨w.heap.size + 1, 0, none⟩ = false := bfr b1 (by simp) (by simp)
  clear b1
  go_wp2_with fail
  refine (line_any xs (by have := HX.out; omega) _ _ (HS.out.up u1)).mono ?_
  rintro e w2 ⟨v', rfl, o2, b2⟩
  have u2 : Below w.heap.size w w2 := Below.trans u1 (b2.mono (by omega))
  have s2 : w.heap.size + 2 ≤ w2.heap.size := by have := b2.size; omega
  have z0 : w2.cell? ⟨w.heap.size + 1, 0, none⟩ = some (.slice none 0 0) := bcl b2 (by omega) z0
  have y0 : w2.frozen? ⟨w.heap.size + 1, 0, none⟩ = false := bfr b2 (by omega) y0
  have o2' := own_low o2 (show w.heap.size + 2 ≤ _ by omega)
  obtain ⟨a2, c2, rfl⟩ := own_form o2
  have HO := Lib.hid o2'
  have q3 : ((xs.length : Int) == 3) = false := by simp; have := HX.out; omega
  have z0 : (w2.alloc (.cells #[.slice a2 xs.length c2] 24)).cell? ⟨w.heap.size + 1, 0, none⟩ = some (.slice none 0 0) := cl_alloc _ (by omega) z0
  have y0 : (w2.alloc (.cells #[.slice a2 xs.length c2] 24)).frozen? ⟨w.heap.size + 1, 0, none⟩ = false := fr_alloc _ (by omega) y0
  have hne : w.heap.size + 1 ≠ w2.heap.size := by omega
  have hne2 : w2.heap.size ≠ w.heap.size + 1 := by omega
  clear b2 o2 o2' k0
  go_wp2
  go_quiet ((go_at_call 15; refine Calls.quiet_of_same (room2 _)))
  have s3 : w2.heap.size < (w2.alloc (.cells #[.slice a2 xs.length c2] 24)).heap.size := by simp
  go_wp2_with (at_builtin; refine wpList_append_lies _ rfl (.tmp 34) (.tmp 36) 22 rfl (w.heap.size + 2) 3 i0 (.int .i64 0) 1 8 Try.underlying22 hi hz0 hz1 hz2 rfl (by decide) (.slice a2 xs.length c2) xs.length (ints xs) rfl ((own_drewN (HO.out.alloc _) nq).alloc _) ⟨_, 0, none⟩ 1 1 [.int .i64 val] rfl rfl (one_at _ _ 3 _ (by simp)) (int_cell _) (by decide) (by have := HX.out; unfold maxLen; omega) (by have := HX.out; omega) (by simp; omega) _ rfl ?_)
  intro g cap1 w3 hown hgrow hat hglt
  have hkb := own_block (own_drewN (HO.out.alloc (.cells #[.slice a2 xs.length c2] 24)) nq)
  have hkl : ∀ k, Value.ownBlock (.slice a2 xs.length c2) = some k → k < w2.heap.size := fun k hk => (HO.out.lt k hk).2
  have hgn : g ≠ w2.heap.size := by
    intro e
    rcases hat with hat | hat
    · have := hkl g hat; omega
    · omega
  have hgb : w.heap.size + 2 ≤ g := by
    rcases hat with hat | hat
    · exact hkb g hat
    · omega
  have u3 : Below w.heap.size w w3 := ((below_drewN (u2.alloc (by omega) _) nq).alloc (by simp; omega) _).grown hgrow (by simp; omega) (fun k hk => by have := hkb k hk; omega)
  have hf1 : ∀ p : Addr, p.block < w2.heap.size + 1 → p.block = w.heap.size + 1 ∨ p.block = w2.heap.size → some p.block ≠ Value.ownBlock (.slice a2 xs.length c2) := by
    intro p hp hq e
    have h1 := hkb _ e.symm
    have h2 := hkl _ e.symm
    omega
  have z1 : w3.cell? ⟨w.heap.size + 1, 0, none⟩ = some (.slice none 0 0) := (hgrow.cell_far ⟨w.heap.size + 1, 0, none⟩ (by simp; omega) (hf1 _ (by simp; omega) (by simp))).trans (cl_alloc _ (by simp; omega) z0)
  have y1 : w3.frozen? ⟨w.heap.size + 1, 0, none⟩ = false := (hgrow.frozen_far ⟨w.heap.size + 1, 0, none⟩ (by simp; omega) (hf1 _ (by simp; omega) (by simp))).trans (fr_alloc _ (by simp; omega) y0)
  have z2 : w3.cell? ⟨w2.heap.size, 0, none⟩ = some (.slice a2 xs.length c2) := (hgrow.cell_far ⟨w2.heap.size, 0, none⟩ (by simp; omega) (hf1 _ (by simp) (by simp))).trans (cl_alloc _ (by simp) (by simp))
  have y2 : w3.frozen? ⟨w2.heap.size, 0, none⟩ = false := (hgrow.frozen_far ⟨w2.heap.size, 0, none⟩ (by simp; omega) (hf1 _ (by simp) (by simp))).trans (fr_alloc _ (by simp) (by simp))
  have hown2 : w3.ownsRow (w.heap.size + 2) 3 1 (.slice (some ⟨g, 0, none⟩) (xs.length + 1) cap1) (xs ++ [val]).length (ints (xs ++ [val])) := by simpa [ints] using hown
  have HW := Lib.hid hown2
  clear hown hown2 hgrow hat hkb hkl hf1 z0 y0
  go_wp2
  refine bodyPost_ret (v := .tuple #[.agg #[.slice (some ⟨g, 0, none⟩) (xs.length + 1) cap1], .bool true, .int .i64 0]) ?_ rfl ⟨_, rfl, ?_, ?_⟩
  · simp [results, Try.results5, go_sem, *]
  · exact own_sln (by omega) (ownsRow_setCell_below (ownsRow_setCell_other HW.out (by simp [Value.ownBlock]; omega) _) (by simp) _)
  · exact (u3.setCell (by simp; omega) _).setCell (by simp) _
end Go.Proofs.Ytpikadbljhfoiaa

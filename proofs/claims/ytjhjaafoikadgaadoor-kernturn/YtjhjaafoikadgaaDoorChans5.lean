/- Channels: the reference's PutOf. -/
import Derived.Test.YtjhjaafoikadgaaDoorChans4
import Derived.Test.YtjhjaafoikadgaaDoorJd
namespace Go.Proofs.YtjhjaafoikadgaaDoor
set_option linter.unusedSimpArgs false
set_option linter.unusedVariables false
open Go.RowKit Go.Sort

theorem lit_own {base : Nat} (w : World) (t : TypeId) (hb : base ≤ w.heap.size) : (w.alloc (.cells #[] t)).ownsRow base t 1 (.slice (some ⟨w.heap.size, 0, none⟩) 0 0) 0 (ints []) :=
  World.ownsRow_made w #[] 0 hb (Nat.zero_le _) rfl
theorem lit_at {base : Nat} (w : World) (t : TypeId) (b : Nat) (hbb : b = w.heap.size) (hb : base ≤ w.heap.size) : (w.alloc (.cells #[] t)).ownsRow base t 1 (.slice (some ⟨b, 0, none⟩) 0 0) 0 (ints []) := hbb ▸ lit_own w t hb

set_option maxHeartbeats 1000000 in
theorem putRef_one (ao : Option Addr) (n cap : Nat) (val : Int) (w : World) :
    Calls Tryd.prog 40 #[.int .i64 1, .agg #[.slice ao n cap], .int .i64 val] w fun e w' => ∃ v', e = .returned (.tuple #[.agg #[v'], .bool true]) ∧ SlN w w' v' 1 (ints [val]) ∧ Below w.heap.size w w' := by
  go_enter Tryd.func40, Tryd.ntmps40
  go_wp2
  refine bodyPost_ret (v := .tuple #[.agg #[.slice (some ⟨w.heap.size + 2, 0, none⟩) 1 1], .bool true]) ?_ rfl ⟨_, rfl, ?_, (by repeat (first | exact Below.refl _ _ | assumption | refine Below.drew ?_ | refine Below.alloc ?_ (by first | (simp; done) | (simp; omega)) _ | refine Below.setCell ?_ (by first | (simp; done) | (simp; omega)) _))⟩
  · simp [results, Tryd.results40, go_sem]
  · refine ⟨sl_one_at _ _ _ _ _ ?_ ?_, fun k hk => ?_⟩
    · simp
    · simp
    · simp [Value.ownBlock] at hk; omega

set_option maxHeartbeats 2000000 in
theorem putRef_full (xs : List Int) (v : Value) (val : Int) (w : World) (hx : xs.length = 3) (hS : Sl w 1 v xs.length (ints xs)) :
    Calls Tryd.prog 40 #[.int .i64 2, .agg #[v], .int .i64 val] w fun e w' => ∃ v', e = .returned (.tuple #[.agg #[v'], .bool false]) ∧ SlN w w' v' xs.length (ints xs) ∧ Below w.heap.size w w' := by
  obtain ⟨i0, hi, hz0, hz1, hz2⟩ := info_parts infoLn3
  obtain ⟨b, off, cap, rfl, hcap, hbw, hcs⟩ := hS.open (by omega)
  have HX := Lib.hid hx
  have HC := Lib.hid hcs
  have q3 : ((xs.length : Int) == 3) = true := by simp; omega
  clear hS hx hcs
  go_enter Tryd.func40, Tryd.ntmps40
  go_wp2_with (at_builtin; refine wpList_append_lies _ rfl (.tmp 17) (.tmp 19) 52 rfl (w.heap.size + 2) 3 i0 (.int .i64 0) 1 8 Tryd.underlying52 hi hz0 hz1 hz2 rfl (by decide) (.slice (some ⟨w.heap.size + 2, 0, none⟩) 0 0) 0 (ints []) rfl (lit_at _ _ _ (by simp) (by simp)) ⟨b, off, none⟩ xs.length cap (ints xs) rfl (by simp [ints]) (sl_src fun j u hj => cl_alloc _ (by simp; omega) (cl_alloc _ (by simp; omega) (cl_alloc _ hbw (HC.out j u hj)))) (ints_cell xs) (by have := HX.out; omega) (by have := HX.out; unfold maxLen; omega) (by have := HX.out; omega) (by simp) _ rfl ?_)
  intro g cap1 w3 hown hgrow hat hglt
  have u3 : Below w.heap.size w w3 := ((by repeat (first | exact Below.refl _ _ | assumption | refine Below.drew ?_ | refine Below.alloc ?_ (by first | (simp; done) | (simp; omega)) _ | refine Below.setCell ?_ (by first | (simp; done) | (simp; omega)) _)) : Below w.heap.size w _).grown hgrow (by simp; omega) (fun k hk => by simp [Value.ownBlock] at hk; omega)
  have z1 : w3.cell? ⟨w.heap.size + 1, 0, none⟩ = some (.slice none 0 0) := (hgrow.cell_far ⟨w.heap.size + 1, 0, none⟩ (by simp) (by simp [Value.ownBlock])).trans (cl_alloc _ (by simp) (by simp))
  have y1 : w3.frozen? ⟨w.heap.size + 1, 0, none⟩ = false := (hgrow.frozen_far ⟨w.heap.size + 1, 0, none⟩ (by simp) (by simp [Value.ownBlock])).trans (fr_alloc _ (by simp) (by simp))
  have hown2 : w3.ownsRow (w.heap.size + 2) 3 1 (.slice (some ⟨g, 0, none⟩) xs.length cap1) xs.length (ints xs) := by simpa [ints] using hown
  have HW := Lib.hid hown2
  clear hown hown2 hgrow hat HC
  go_wp2
  refine bodyPost_ret (v := .tuple #[.agg #[.slice (some ⟨g, 0, none⟩) xs.length cap1], .bool false]) ?_ rfl ⟨_, rfl, own_sln (by omega) (ownsRow_setCell_below HW.out (by simp) _), u3.setCell (by simp) _⟩
  simp [results, Tryd.results40, go_sem, *]
set_option maxHeartbeats 2000000 in
theorem putRef_more (xs : List Int) (v : Value) (val : Int) (w : World) (h0 : 0 < xs.length) (hx : xs.length < 3) (hS : Sl w 1 v xs.length (ints xs)) :
    Calls Tryd.prog 40 #[.int .i64 2, .agg #[v], .int .i64 val] w fun e w' => ∃ v', e = .returned (.tuple #[.agg #[v'], .bool true]) ∧ SlN w w' v' (xs ++ [val]).length (ints (xs ++ [val])) ∧ Below w.heap.size w w' := by
  obtain ⟨i0, hi, hz0, hz1, hz2⟩ := info_parts infoLn3
  obtain ⟨b, off, cap, rfl, hcap, hbw, hcs⟩ := hS.open (by omega)
  have HX := Lib.hid hx
  have HC := Lib.hid hcs
  have q3 : ((xs.length : Int) == 3) = false := by simp; omega
  have H0 := Lib.hid h0
  clear hS hx hcs h0
  go_enter Tryd.func40, Tryd.ntmps40
  go_wp2_with (at_builtin; refine wpList_append_lies _ rfl (.tmp 22) (.tmp 24) 52 rfl (w.heap.size + 2) 3 i0 (.int .i64 0) 1 8 Tryd.underlying52 hi hz0 hz1 hz2 rfl (by decide) (.slice (some ⟨w.heap.size + 2, 0, none⟩) 0 0) 0 (ints []) rfl (lit_at _ _ _ (by simp) (by simp)) ⟨b, off, none⟩ xs.length cap (ints xs) rfl (by simp [ints]) (sl_src fun j u hj => cl_alloc _ (by simp; omega) (cl_alloc _ (by simp; omega) (cl_alloc _ hbw (HC.out j u hj)))) (ints_cell xs) H0.out (by have := HX.out; unfold maxLen; omega) (by have := HX.out; omega) (by simp) _ rfl ?_)
  intro g cap1 w3 hown hgrow hat hglt
  have u3 : Below w.heap.size w w3 := ((by repeat (first | exact Below.refl _ _ | assumption | refine Below.drew ?_ | refine Below.alloc ?_ (by first | (simp; done) | (simp; omega)) _ | refine Below.setCell ?_ (by first | (simp; done) | (simp; omega)) _)) : Below w.heap.size w _).grown hgrow (by simp; omega) (fun k hk => by simp [Value.ownBlock] at hk; omega)
  have z1 : w3.cell? ⟨w.heap.size + 1, 0, none⟩ = some (.slice none 0 0) := (hgrow.cell_far ⟨w.heap.size + 1, 0, none⟩ (by simp) (by simp [Value.ownBlock])).trans (cl_alloc _ (by simp) (by simp))
  have y1 : w3.frozen? ⟨w.heap.size + 1, 0, none⟩ = false := (hgrow.frozen_far ⟨w.heap.size + 1, 0, none⟩ (by simp) (by simp [Value.ownBlock])).trans (fr_alloc _ (by simp) (by simp))
  have hown2 : w3.ownsRow (w.heap.size + 2) 3 1 (.slice (some ⟨g, 0, none⟩) xs.length cap1) xs.length (ints xs) := by simpa [ints] using hown
  have HW := Lib.hid hown2
  clear hown hown2 hgrow HC
  have hg2 : w.heap.size + 2 ≤ g := by
    rcases hat with hat | hat
    · simp [Value.ownBlock] at hat; omega
    · omega
  clear hat
  go_wp2_with (at_builtin; refine wpList_append_lies _ rfl (.tmp 25) (.tmp 27) 52 rfl (w.heap.size + 2) 3 i0 (.int .i64 0) 1 8 Tryd.underlying52 hi hz0 hz1 hz2 rfl (by decide) (.slice (some ⟨g, 0, none⟩) xs.length cap1) xs.length (ints xs) rfl (HW.out.alloc _) ⟨_, 0, none⟩ 1 1 [.int .i64 val] rfl rfl (one_at _ _ 3 _ rfl) (int_cellL _) (by decide) (by have := HX.out; unfold maxLen; omega) (by have := HX.out; omega) (by have := u3.size; simp; omega) _ rfl ?_)
  intro g' cap2 w4 hown hgrow hat hglt'
  have u4 : Below w.heap.size w w4 := (u3.alloc u3.size _).grown hgrow (by have := u3.size; simp; omega) (fun k hk => by simp [Value.ownBlock] at hk; omega)
  have hs3 : w.heap.size + 2 < w3.heap.size := by omega
  have z2 : w4.cell? ⟨w.heap.size + 1, 0, none⟩ = some (.slice none 0 0) := (hgrow.cell_far ⟨w.heap.size + 1, 0, none⟩ (by simp; omega) (by simp [Value.ownBlock]; omega)).trans (cl_alloc _ (by omega) z1)
  have y2 : w4.frozen? ⟨w.heap.size + 1, 0, none⟩ = false := (hgrow.frozen_far ⟨w.heap.size + 1, 0, none⟩ (by simp; omega) (by simp [Value.ownBlock]; omega)).trans (fr_alloc _ (by omega) y1)
  have hown2 : w4.ownsRow (w.heap.size + 2) 3 1 (.slice (some ⟨g', 0, none⟩) (xs.length + 1) cap2) (xs ++ [val]).length (ints (xs ++ [val])) := by simpa [ints] using hown
  have HV := Lib.hid hown2
  clear hown hown2 hgrow hat z1 y1 HW
  go_wp2
  refine bodyPost_ret (v := .tuple #[.agg #[.slice (some ⟨g', 0, none⟩) (xs.length + 1) cap2], .bool true]) ?_ rfl ⟨_, rfl, own_sln (by omega) (ownsRow_setCell_below HV.out (by simp) _), u4.setCell (by simp) _⟩
  simp [results, Tryd.results40, go_sem, *]
end Go.Proofs.YtjhjaafoikadgaaDoor

/- Channels: Put. -/
import Derived.Test.YtehhhiodfcdnmaaGreatDoorR8
import Derived.OneCell
import Derived.BigQuiet
import Derived.Deep.RegionWith
import Derived.Deep.DrawnRows
import Derived.Test.YtehhhiodfcdnmaaGreatDoorR0
namespace Go.Proofs.YtehhhiodfcdnmaaGreatDoor
set_option linter.unusedSimpArgs false
set_option linter.unusedVariables false
set_option maxHeartbeats 4000000
open Go.RowKit Go.Sort
def putS (kind : Int) (xs : List Int) (val : Int) : List Int × Bool := if kind = 1 then ([val], true) else if xs.length = 3 then (xs, false) else (xs ++ [val], true)
theorem put_no (kind : Int) (ao : Option Addr) (n cap : Nat) (val : Int) (w : World) (c : Int) (hc : chkL kind n = c) (h0 : c ≠ 0) :
  Calls Tryz.prog 142 #[.int .i64 kind, .agg #[.slice ao n cap], .int .i64 val] w fun e w' => e = .returned (.tuple #[.agg #[.slice none 0 0], .bool false, .int .i64 c]) ∧ Below w.heap.size w w' := by
 have h0' : (c != 0) = true := by simpa using h0
 clear h0
 go_enter Tryz.func142, Tryz.ntmps142
 go_wp2_with fail
 refine (chkLine_any kind ao n cap _ c hc).mono ?_
 rintro e w1 ⟨rfl, b1⟩
 have u1 : Below w.heap.size w w1 := Below.trans up0 (b1.mono so)
 have z0 : w1.cell? ⟨w.heap.size + 1, 0, none⟩ = some (.slice none 0 0) := bcl b1 (by simp) (by simp)
 have y0 : w1.frozen? ⟨w.heap.size + 1, 0, none⟩ = false := bfr b1 (by simp) (by simp)
 clear b1
 go_wp2
 refine bodyPost_ret (v := .tuple #[.agg #[.slice none 0 0], .bool false, .int .i64 c]) ?_ rfl ⟨rfl, up0⟩
 simp [results, Tryz.results142, go_sem, *]
theorem put_one (xs : List Int) (ao : Option Addr) (cap : Nat) (val : Int) (w : World) (hx : xs.length ≤ 1) :
  Calls Tryz.prog 142 #[.int .i64 1, .agg #[.slice ao xs.length cap], .int .i64 val] w fun e w' => ∃ v', e = .returned (.tuple #[.agg #[v'], .bool true, .int .i64 0]) ∧ SlN w w' v' 1 (ints [val]) ∧ Below w.heap.size w w' := by
 go_enter Tryz.func142, Tryz.ntmps142
 go_wp2_with fail
 refine (chkLine_any 1 ao xs.length cap _ 0 (by unfold chkL; simp; omega)).mono ?_
 rintro e w1 ⟨rfl, b1⟩
 have u1 : Below w.heap.size w w1 := Below.trans up0 (b1.mono so)
 have s1 : w.heap.size + 2 ≤ w1.heap.size := by have := b1.size; simp at this; omega
 have z0 : w1.cell? ⟨w.heap.size + 1, 0, none⟩ = some (.slice none 0 0) := bcl b1 (by simp) (by simp)
 have y0 : w1.frozen? ⟨w.heap.size + 1, 0, none⟩ = false := bfr b1 (by simp) (by simp)
 clear b1
 go_wp2_with fail
 refine (line_any [val] (by simp) _ _ (sl_one _ _ _ _ (by simp))).mono ?_
 rintro e w2 ⟨v', rfl, o2, b2⟩
 have u2 : Below w.heap.size w w2 := Below.trans (u1.alloc om _) (b2.mono so)
 have z0 : w2.cell? ⟨w.heap.size + 1, 0, none⟩ = some (.slice none 0 0) := bcl b2 so (cl_alloc _ om z0)
 have y0 : w2.frozen? ⟨w.heap.size + 1, 0, none⟩ = false := bfr b2 so (fr_alloc _ om y0)
 have o2' := own_low o2 (show w.heap.size + 2 ≤ _ by simp; omega)
 obtain ⟨a2, c2, rfl⟩ := own_form o2
 have HO := hd o2'
 clear b2 o2 o2'
 go_wp2
 refine bodyPost_ret (v := .tuple #[.agg #[.slice a2 1 c2], .bool true, .int .i64 0]) ?_ rfl ⟨_, rfl, own_sln om (ownsRow_setCell_below HO.out (by simp) _), u2.setCell (by simp) _⟩
 simp [results, Tryz.results142, go_sem, *]
theorem room2 (w : World) : Calls Tryz.prog 146 #[.int .i64 2] w fun e w' => e = .returned (.int .i64 3) ∧ w' = w := room_any 2 w
theorem int_cellL (z : Int) : ∀ u ∈ [Value.int .i64 z], u.oneCell' = true := by
 intro u hu; simp at hu; subst hu; rfl
theorem put_full (xs : List Int) (v : Value) (val : Int) (w : World) (hx : xs.length = 3) (hS : Sl w 1 v xs.length (ints xs)) :
  Calls Tryz.prog 142 #[.int .i64 2, .agg #[v], .int .i64 val] w fun e w' => ∃ v', e = .returned (.tuple #[.agg #[v'], .bool false, .int .i64 0]) ∧ SlN w w' v' xs.length (ints xs) ∧ Below w.heap.size w w' := by
 obtain ⟨ao, cap, rfl⟩ := hS.form
 have HS := hd hS
 have HX := hd hx
 clear hS hx
 go_enter Tryz.func142, Tryz.ntmps142
 go_wp2_with fail
 refine (chkLine_any 2 ao xs.length cap _ 0 (by unfold chkL; simp; have := HX.out; omega)).mono ?_
 rintro e w1 ⟨rfl, b1⟩
 have u1 : Below w.heap.size w w1 := Below.trans up0 (b1.mono so)
 have s1 : w.heap.size + 2 ≤ w1.heap.size := by have := b1.size; simp at this; omega
 have k0 : w1.cell? ⟨w.heap.size, 0, none⟩ = some (.slice ao xs.length cap) := bcl b1 so (cl_alloc _ (by simp) (by simp))
 have z0 : w1.cell? ⟨w.heap.size + 1, 0, none⟩ = some (.slice none 0 0) := bcl b1 (by simp) (by simp)
 have y0 : w1.frozen? ⟨w.heap.size + 1, 0, none⟩ = false := bfr b1 (by simp) (by simp)
 clear b1
 go_wp2_with fail
 refine (line_any xs (by have := HX.out; omega) _ _ (HS.out.up u1)).mono ?_
 rintro e w2 ⟨v', rfl, o2, b2⟩
 have u2 : Below w.heap.size w w2 := Below.trans u1 (b2.mono om)
 have s2 : w.heap.size + 2 ≤ w2.heap.size := by have := b2.size; omega
 have z0 : w2.cell? ⟨w.heap.size + 1, 0, none⟩ = some (.slice none 0 0) := bcl b2 om z0
 have y0 : w2.frozen? ⟨w.heap.size + 1, 0, none⟩ = false := bfr b2 om y0
 have o2' := own_low o2 (show w.heap.size + 2 ≤ _ by omega)
 obtain ⟨a2, c2, rfl⟩ := own_form o2
 have HO := hd o2'
 have q3 : ((xs.length : Int) == 3) = true := by simp; have := HX.out; omega
 have z0 : (w2.alloc (.cells #[.slice a2 xs.length c2] 81)).cell? ⟨w.heap.size + 1, 0, none⟩ = some (.slice none 0 0) := cl_alloc _ om z0
 have y0 : (w2.alloc (.cells #[.slice a2 xs.length c2] 81)).frozen? ⟨w.heap.size + 1, 0, none⟩ = false := fr_alloc _ om y0
 have hne : w.heap.size + 1 ≠ w2.heap.size := by omega
 have hne2 : w2.heap.size ≠ w.heap.size + 1 := by omega
 clear b2 o2 o2' k0
 go_wp2
 go_quiet ((go_at_call 146; refine Calls.quiet_of_same (room2 _)))
 go_wp2
 refine bodyPost_ret (v := .tuple #[.agg #[.slice a2 xs.length c2], .bool false, .int .i64 0]) ?_ rfl ⟨_, rfl, ?_, ?_⟩
 ·simp [results, Tryz.results142, go_sem, *]
 ·exact own_sln om (ownsRow_setCell_below (own_drewN (HO.out.alloc _) nq) (by simp) _)
 ·exact (below_drewN (u2.alloc om _) nq).setCell (by simp) _
theorem put_room (xs : List Int) (v : Value) (val : Int) (w : World) (hx : xs.length < 3) (hS : Sl w 1 v xs.length (ints xs)) :
  Calls Tryz.prog 142 #[.int .i64 2, .agg #[v], .int .i64 val] w fun e w' => ∃ v', e = .returned (.tuple #[.agg #[v'], .bool true, .int .i64 0]) ∧ SlN w w' v' (xs ++ [val]).length (ints (xs ++ [val])) ∧ Below w.heap.size w w' := by
 obtain ⟨ao, cap, rfl⟩ := hS.form
 obtain ⟨i0, hi, hz0, hz1, hz2⟩ := info_parts infoLn3
 have HS := hd hS
 have HX := hd hx
 clear hS hx
 go_enter Tryz.func142, Tryz.ntmps142
 go_wp2_with fail
 refine (chkLine_any 2 ao xs.length cap _ 0 (by unfold chkL; simp; have := HX.out; omega)).mono ?_
 rintro e w1 ⟨rfl, b1⟩
 have u1 : Below w.heap.size w w1 := Below.trans up0 (b1.mono so)
 have s1 : w.heap.size + 2 ≤ w1.heap.size := by have := b1.size; simp at this; omega
 have k0 : w1.cell? ⟨w.heap.size, 0, none⟩ = some (.slice ao xs.length cap) := bcl b1 so (cl_alloc _ (by simp) (by simp))
 have z0 : w1.cell? ⟨w.heap.size + 1, 0, none⟩ = some (.slice none 0 0) := bcl b1 (by simp) (by simp)
 have y0 : w1.frozen? ⟨w.heap.size + 1, 0, none⟩ = false := bfr b1 (by simp) (by simp)
 clear b1
 go_wp2_with fail
 refine (line_any xs (by have := HX.out; omega) _ _ (HS.out.up u1)).mono ?_
 rintro e w2 ⟨v', rfl, o2, b2⟩
 have u2 : Below w.heap.size w w2 := Below.trans u1 (b2.mono om)
 have s2 : w.heap.size + 2 ≤ w2.heap.size := by have := b2.size; omega
 have z0 : w2.cell? ⟨w.heap.size + 1, 0, none⟩ = some (.slice none 0 0) := bcl b2 om z0
 have y0 : w2.frozen? ⟨w.heap.size + 1, 0, none⟩ = false := bfr b2 om y0
 have o2' := own_low o2 (show w.heap.size + 2 ≤ _ by omega)
 obtain ⟨a2, c2, rfl⟩ := own_form o2
 have HO := hd o2'
 have q3 : ((xs.length : Int) == 3) = false := by simp; have := HX.out; omega
 have z0 : (w2.alloc (.cells #[.slice a2 xs.length c2] 81)).cell? ⟨w.heap.size + 1, 0, none⟩ = some (.slice none 0 0) := cl_alloc _ om z0
 have y0 : (w2.alloc (.cells #[.slice a2 xs.length c2] 81)).frozen? ⟨w.heap.size + 1, 0, none⟩ = false := fr_alloc _ om y0
 have hne : w.heap.size + 1 ≠ w2.heap.size := by omega
 have hne2 : w2.heap.size ≠ w.heap.size + 1 := by omega
 clear b2 o2 o2' k0
 go_wp2
 go_quiet ((go_at_call 146; refine Calls.quiet_of_same (room2 _)))
 have s3 : w2.heap.size < (w2.alloc (.cells #[.slice a2 xs.length c2] 81)).heap.size := by simp
 go_wp2_with (at_builtin; refine wpList_append_lies _ rfl (.tmp 34) (.tmp 36) 33 rfl (w.heap.size + 2) 3 i0 (.int .i64 0) 1 8 Tryz.underlying33 hi hz0 hz1 hz2 rfl (by decide) (.slice a2 xs.length c2) xs.length (ints xs) rfl ((own_drewN (HO.out.alloc _) nq).alloc _) ⟨_, 0, none⟩ 1 1 [.int .i64 val] rfl rfl (one_at _ _ 3 _ (by simp)) (int_cellL _) (by decide) (by have := HX.out; unfold maxLen; omega) (by have := HX.out; omega) so _ rfl ?_)
 intro g cap1 w3 hown hgrow hat hglt
 have hkb := own_block (own_drewN (HO.out.alloc (.cells #[.slice a2 xs.length c2] 81)) nq)
 have hkl : ∀ k, Value.ownBlock (.slice a2 xs.length c2) = some k → k < w2.heap.size := fun k hk => (HO.out.lt k hk).2
 have hgn : g ≠ w2.heap.size := by
  intro e
  rcases hat with hat | hat
  ·have := hkl g hat; omega
  ·omega
 have hgb : w.heap.size + 2 ≤ g := by
  rcases hat with hat | hat
  ·exact hkb g hat
  ·omega
 have u3 : Below w.heap.size w w3 := ((below_drewN (u2.alloc om _) nq).alloc so _).grown hgrow so (fun k hk => by have := hkb k hk; omega)
 have hf1 : ∀ p : Addr, p.block < w2.heap.size + 1 → p.block = w.heap.size + 1 ∨ p.block = w2.heap.size → some p.block ≠ Value.ownBlock (.slice a2 xs.length c2) := by
  intro p hp hq e
  have h1 := hkb _ e.symm
  have h2 := hkl _ e.symm
  omega
 have z1 : w3.cell? ⟨w.heap.size + 1, 0, none⟩ = some (.slice none 0 0) := (hgrow.cell_far ⟨w.heap.size + 1, 0, none⟩ so (hf1 _ so (by simp))).trans (cl_alloc _ so z0)
 have y1 : w3.frozen? ⟨w.heap.size + 1, 0, none⟩ = false := (hgrow.frozen_far ⟨w.heap.size + 1, 0, none⟩ so (hf1 _ so (by simp))).trans (fr_alloc _ so y0)
 have z2 : w3.cell? ⟨w2.heap.size, 0, none⟩ = some (.slice a2 xs.length c2) := (hgrow.cell_far ⟨w2.heap.size, 0, none⟩ so (hf1 _ (by simp) (by simp))).trans (cl_alloc _ (by simp) (by simp))
 have y2 : w3.frozen? ⟨w2.heap.size, 0, none⟩ = false := (hgrow.frozen_far ⟨w2.heap.size, 0, none⟩ so (hf1 _ (by simp) (by simp))).trans (fr_alloc _ (by simp) (by simp))
 have hown2 : w3.ownsRow (w.heap.size + 2) 3 1 (.slice (some ⟨g, 0, none⟩) (xs.length + 1) cap1) (xs ++ [val]).length (ints (xs ++ [val])) := by simpa [ints] using hown
 have HW := hd hown2
 clear hown hown2 hgrow hat hkb hkl hf1 z0 y0
 go_wp2
 refine bodyPost_ret (v := .tuple #[.agg #[.slice (some ⟨g, 0, none⟩) (xs.length + 1) cap1], .bool true, .int .i64 0]) ?_ rfl ⟨_, rfl, ?_, ?_⟩
 ·simp [results, Tryz.results142, go_sem, *]
 ·exact own_sln om (ownsRow_setCell_below (ownsRow_setCell_other HW.out (by simp [Value.ownBlock]; omega) _) (by simp) _)
 ·exact (u3.setCell so _).setCell (by simp) _
theorem get_no (kind : Int) (ao : Option Addr) (n cap : Nat) (w : World) (c : Int) (hc : chkL kind n = c) (h0 : c ≠ 0) :
  Calls Tryz.prog 143 #[.int .i64 kind, .agg #[.slice ao n cap]] w fun e w' => e = .returned (.tuple #[.agg #[.slice none 0 0], .int .i64 0, .bool false, .int .i64 c]) ∧ Below w.heap.size w w' := by
 have h0' : (c != 0) = true := by simpa using h0
 clear h0
 go_enter Tryz.func143, Tryz.ntmps143
 go_wp2_with fail
 refine (chkLine_any kind ao n cap _ c hc).mono ?_
 rintro e w1 ⟨rfl, b1⟩
 have u1 : Below w.heap.size w w1 := Below.trans up0 (b1.mono so)
 have z0 : w1.cell? ⟨w.heap.size + 1, 0, none⟩ = some (.slice none 0 0) := bcl b1 (by simp) (by simp)
 have y0 : w1.frozen? ⟨w.heap.size + 1, 0, none⟩ = false := bfr b1 (by simp) (by simp)
 clear b1
 go_wp2
 refine bodyPost_ret (v := .tuple #[.agg #[.slice none 0 0], .int .i64 0, .bool false, .int .i64 c]) ?_ rfl ⟨rfl, up0⟩
 simp [results, Tryz.results143, go_sem, *]
theorem get_none (kind : Int) (hk : kind = 1 ∨ kind = 2) (ao : Option Addr) (cap : Nat) (w : World) :
  Calls Tryz.prog 143 #[.int .i64 kind, .agg #[.slice ao 0 cap]] w fun e w' => e = .returned (.tuple #[.agg #[.slice none 0 0], .int .i64 0, .bool false, .int .i64 0]) ∧ Below w.heap.size w w' := by
 have hc : chkL kind 0 = 0 := by rcases hk with rfl | rfl <;> rfl
 go_enter Tryz.func143, Tryz.ntmps143
 go_wp2_with fail
 refine (chkLine_any kind ao 0 cap _ 0 hc).mono ?_
 rintro e w1 ⟨rfl, b1⟩
 have u1 : Below w.heap.size w w1 := Below.trans up0 (b1.mono so)
 have k0 : w1.cell? ⟨w.heap.size, 0, none⟩ = some (.slice ao 0 cap) := bcl b1 so (cl_alloc _ (by simp) (by simp))
 have z0 : w1.cell? ⟨w.heap.size + 1, 0, none⟩ = some (.slice none 0 0) := bcl b1 (by simp) (by simp)
 have y0 : w1.frozen? ⟨w.heap.size + 1, 0, none⟩ = false := bfr b1 (by simp) (by simp)
 clear b1
 go_wp2
 refine bodyPost_ret (v := .tuple #[.agg #[.slice none 0 0], .int .i64 0, .bool false, .int .i64 0]) ?_ rfl ⟨rfl, up0⟩
 simp [results, Tryz.results143, go_sem, *]
def stay (kind : Int) (xs : List Int) : List Int := if kind = 2 then xs.tail else xs
theorem get_sample (x : Int) (v : Value) (w : World) (hS : Sl w 1 v 1 (ints [x])) :
  Calls Tryz.prog 143 #[.int .i64 1, .agg #[v]] w fun e w' => ∃ v', e = .returned (.tuple #[.agg #[v'], .int .i64 x, .bool true, .int .i64 0]) ∧ SlN w w' v' 1 (ints [x]) ∧ Below w.heap.size w w' := by
 obtain ⟨b, off, cap, rfl, hcap, hbw, hcs⟩ := hS.open om
 have HS := hd hS
 have HX := hd (hcs 0 (.int .i64 x) rfl)
 clear hS hcs
 go_enter Tryz.func143, Tryz.ntmps143
 go_wp2_with fail
 refine (chkLine_any 1 _ 1 cap _ 0 rfl).mono ?_
 rintro e w1 ⟨rfl, b1⟩
 have u1 : Below w.heap.size w w1 := Below.trans up0 (b1.mono so)
 have s1 : w.heap.size + 2 ≤ w1.heap.size := by have := b1.size; simp at this; omega
 have k0 : w1.cell? ⟨w.heap.size, 0, none⟩ = some (.slice (some ⟨b, off, none⟩) 1 cap) := bcl b1 so (cl_alloc _ (by simp) (by simp))
 have z0 : w1.cell? ⟨w.heap.size + 1, 0, none⟩ = some (.slice none 0 0) := bcl b1 (by simp) (by simp)
 have y0 : w1.frozen? ⟨w.heap.size + 1, 0, none⟩ = false := bfr b1 (by simp) (by simp)
 have x0 : w1.cell? ⟨b, off, none⟩ = some (.int .i64 x) := bcl u1 hbw HX.out
 have hb1 : b ≠ w.heap.size + 1 := by omega
 clear b1
 go_wp2
 go_region_with (go_at_call 165; refine (line_any [x] (by simp) _ _ (Sl.up HS.out (by first | exact u1 | exact u1.drew))).mono ?_; rintro e w2 ⟨v', rfl, o2, b2⟩; have u2 : Below w.heap.size w w2 := Below.trans (by first | exact u1 | exact u1.drew) (b2.mono so); have k0 : w2.cell? ⟨w.heap.size, 0, none⟩ = some (.slice (some ⟨b, off, none⟩) 1 cap) := bcl b2 so (by simpa using k0); have z0 : w2.cell? ⟨w.heap.size + 1, 0, none⟩ = some (.slice none 0 0) := bcl b2 so (by simpa using z0); have y0 : w2.frozen? ⟨w.heap.size + 1, 0, none⟩ = false := bfr b2 so (by simpa using y0); have x0 : w2.cell? ⟨b, off, none⟩ = some (.int .i64 x) := bcl u2 hbw HX.out; obtain ⟨a2, c2, rfl⟩ := own_form o2; have HO : Hid (w2.ownsRow (w.heap.size + 2) 3 1 (.slice a2 1 c2) 1 (ints [x])) := own_low o2 so; clear b2 o2)
 all_goals go_wp2
 all_goals
  refine bodyPost_ret (v := .tuple #[.agg #[.slice a2 1 c2], .int .i64 x, .bool true, .int .i64 0]) ?_ rfl ⟨_, rfl, own_sln om (ownsRow_setCell_below HO.out (by simp) _), u2.setCell (by simp) _⟩
  simp [results, Tryz.results143, go_sem, *]
theorem sl_tail {w : World} {b off cap : Nat} {x : Int} {r : List Int} (hbw : b < w.heap.size) (hcap : r.length + 1 ≤ cap) (hcs : ∀ j u, (ints (x :: r))[j]? = some u → w.cell? ⟨b, off + j, none⟩ = some u) (hz : Fz w b off (ints (x :: r)).length) :
  Sl w 1 (.slice (some ⟨b, off + 1, none⟩) r.length (cap - 1)) r.length (ints r) := by
 refine ⟨by simp [ints], _, _, rfl, by omega, fun _ => ⟨b, off + 1, rfl, hbw, fun j u hj => ?_, fun j hj => by rw [show off + 1 + j = off + (j + 1) by omega]; exact hz (j + 1) (by simp [ints] at hj ⊢; omega)⟩⟩
 have := hcs (j + 1) u (by simpa [ints] using hj)
 rw [show off + 1 + j = off + (j + 1) by omega]
 exact this
theorem get_queue (x : Int) (r : List Int) (hr : r.length ≤ 2) (v : Value) (w : World) (hS : Sl w 1 v (r.length + 1) (ints (x :: r))) :
  Calls Tryz.prog 143 #[.int .i64 2, .agg #[v]] w fun e w' => ∃ v', e = .returned (.tuple #[.agg #[v'], .int .i64 x, .bool true, .int .i64 0]) ∧ SlN w w' v' r.length (ints r) ∧ Below w.heap.size w w' := by
 obtain ⟨b, off, cap, rfl, hcap, hbw, hcs, hzz⟩ := hS.openZ om
 by_cases hc1 : cap = 1
 ·subst hc1
  obtain rfl : r = [] := List.length_eq_zero_iff.1 om
  have HS : Hid (Sl w 1 (.slice (some ⟨b, off, none⟩) 0 0) 0 (ints [])) := ⟨rfl, _, _, rfl, Nat.le_refl _, fun h => by omega⟩
  have HX := hd (hcs 0 (.int .i64 x) rfl)
  clear hS hcs hcap hzz
  go_enter Tryz.func143, Tryz.ntmps143
  go_wp2_with fail
  refine (chkLine_any 2 _ 1 1 _ 0 rfl).mono ?_
  rintro e w1 ⟨rfl, b1⟩
  have u1 : Below w.heap.size w w1 := Below.trans up0 (b1.mono so)
  have s1 : w.heap.size + 2 ≤ w1.heap.size := by have := b1.size; simp at this; omega
  have k0 : w1.cell? ⟨w.heap.size, 0, none⟩ = some (.slice (some ⟨b, off, none⟩) 1 1) := bcl b1 so (cl_alloc _ (by simp) (by simp))
  have z0 : w1.cell? ⟨w.heap.size + 1, 0, none⟩ = some (.slice none 0 0) := bcl b1 (by simp) (by simp)
  have y0 : w1.frozen? ⟨w.heap.size + 1, 0, none⟩ = false := bfr b1 (by simp) (by simp)
  have x0 : w1.cell? ⟨b, off, none⟩ = some (.int .i64 x) := bcl u1 hbw HX.out
  have hb1 : b ≠ w.heap.size + 1 := by omega
  clear b1
  go_wp2
  go_region_with (go_at_call 165; refine (line_any [] (by simp) _ _ (Sl.up HS.out (by first | exact u1 | exact u1.drew))).mono ?_; rintro e w2 ⟨v', rfl, o2, b2⟩; have u2 : Below w.heap.size w w2 := Below.trans (by first | exact u1 | exact u1.drew) (b2.mono so); have k0 : w2.cell? ⟨w.heap.size, 0, none⟩ = some (.slice (some ⟨b, off, none⟩) 1 1) := bcl b2 so (by simpa using k0); have z0 : w2.cell? ⟨w.heap.size + 1, 0, none⟩ = some (.slice none 0 0) := bcl b2 so (by simpa using z0); have y0 : w2.frozen? ⟨w.heap.size + 1, 0, none⟩ = false := bfr b2 so (by simpa using y0); have x0 : w2.cell? ⟨b, off, none⟩ = some (.int .i64 x) := bcl u2 hbw HX.out; obtain ⟨a2, c2, rfl⟩ := own_form o2; have HO : Hid (w2.ownsRow (w.heap.size + 2) 3 1 (.slice a2 0 c2) 0 (ints [])) := own_low o2 so; clear b2 o2)
  all_goals go_wp2
  all_goals
   refine bodyPost_ret (v := .tuple #[.agg #[.slice a2 0 c2], .int .i64 x, .bool true, .int .i64 0]) ?_ rfl ⟨_, rfl, own_sln om (ownsRow_setCell_below HO.out (by simp) _), u2.setCell (by simp) _⟩
   simp [results, Tryz.results143, go_sem, *]
 ·have hc1' : (cap == 1) = false := by simpa using hc1
  have HS : Hid (Sl w 1 (.slice (some ⟨b, off + 1, none⟩) r.length (cap - 1)) r.length (ints r)) := sl_tail hbw hcap hcs hzz
  have HX := hd (hcs 0 (.int .i64 x) rfl)
  clear hS hcs hcap hzz
  go_enter Tryz.func143, Tryz.ntmps143
  go_wp2_with fail
  refine (chkLine_any 2 _ (r.length + 1) cap _ 0 (by unfold chkL; simp; omega)).mono ?_
  rintro e w1 ⟨rfl, b1⟩
  have u1 : Below w.heap.size w w1 := Below.trans up0 (b1.mono so)
  have s1 : w.heap.size + 2 ≤ w1.heap.size := by have := b1.size; simp at this; omega
  have k0 : w1.cell? ⟨w.heap.size, 0, none⟩ = some (.slice (some ⟨b, off, none⟩) (r.length + 1) cap) := bcl b1 so (cl_alloc _ (by simp) (by simp))
  have z0 : w1.cell? ⟨w.heap.size + 1, 0, none⟩ = some (.slice none 0 0) := bcl b1 (by simp) (by simp)
  have y0 : w1.frozen? ⟨w.heap.size + 1, 0, none⟩ = false := bfr b1 (by simp) (by simp)
  have x0 : w1.cell? ⟨b, off, none⟩ = some (.int .i64 x) := bcl u1 hbw HX.out
  have hb1 : b ≠ w.heap.size + 1 := by omega
  clear b1
  go_wp2
  go_region_with (go_at_call 165; refine (line_any r om _ _ (Sl.up HS.out (by first | exact u1 | exact u1.drew))).mono ?_; rintro e w2 ⟨v', rfl, o2, b2⟩; have u2 : Below w.heap.size w w2 := Below.trans (by first | exact u1 | exact u1.drew) (b2.mono so); have k0 : w2.cell? ⟨w.heap.size, 0, none⟩ = some (.slice (some ⟨b, off, none⟩) (r.length + 1) cap) := bcl b2 so (by simpa using k0); have z0 : w2.cell? ⟨w.heap.size + 1, 0, none⟩ = some (.slice none 0 0) := bcl b2 so (by simpa using z0); have y0 : w2.frozen? ⟨w.heap.size + 1, 0, none⟩ = false := bfr b2 so (by simpa using y0); have x0 : w2.cell? ⟨b, off, none⟩ = some (.int .i64 x) := bcl u2 hbw HX.out; obtain ⟨a2, c2, rfl⟩ := own_form o2; have HO : Hid (w2.ownsRow (w.heap.size + 2) 3 1 (.slice a2 r.length c2) r.length (ints r)) := own_low o2 so; clear b2 o2)
  all_goals go_wp2
  all_goals
   refine bodyPost_ret (v := .tuple #[.agg #[.slice a2 r.length c2], .int .i64 x, .bool true, .int .i64 0]) ?_ rfl ⟨_, rfl, own_sln om (ownsRow_setCell_below HO.out (by simp) _), u2.setCell (by simp) _⟩
   simp [results, Tryz.results143, go_sem, *]
theorem lit_own {base : Nat} (w : World) (t : TypeId) (hb : base ≤ w.heap.size) : (w.alloc (.cells #[] t)).ownsRow base t 1 (.slice (some ⟨w.heap.size, 0, none⟩) 0 0) 0 (ints []) :=
 World.ownsRow_made w #[] 0 hb (Nat.zero_le _) rfl
theorem lit_at {base : Nat} (w : World) (t : TypeId) (b : Nat) (hbb : b = w.heap.size) (hb : base ≤ w.heap.size) : (w.alloc (.cells #[] t)).ownsRow base t 1 (.slice (some ⟨b, 0, none⟩) 0 0) 0 (ints []) := hbb ▸ lit_own w t hb
theorem putRef_one (ao : Option Addr) (n cap : Nat) (val : Int) (w : World) :
  Calls Tryz.prog 70 #[.int .i64 1, .agg #[.slice ao n cap], .int .i64 val] w fun e w' => ∃ v', e = .returned (.tuple #[.agg #[v'], .bool true]) ∧ SlN w w' v' 1 (ints [val]) ∧ Below w.heap.size w w' := by
 go_enter Tryz.func70, Tryz.ntmps70
 go_wp2
 refine bodyPost_ret (v := .tuple #[.agg #[.slice (some ⟨w.heap.size + 2, 0, none⟩) 1 1], .bool true]) ?_ rfl ⟨_, rfl, ?_, up0⟩
 ·simp [results, Tryz.results70, go_sem]
 ·refine ⟨sl_one_at _ _ _ _ _ ?_ ?_, fun k hk => ?_⟩
  ·simp
  ·simp
  ·simp [Value.ownBlock] at hk; omega
theorem putRef_full (xs : List Int) (v : Value) (val : Int) (w : World) (hx : xs.length = 3) (hS : Sl w 1 v xs.length (ints xs)) :
  Calls Tryz.prog 70 #[.int .i64 2, .agg #[v], .int .i64 val] w fun e w' => ∃ v', e = .returned (.tuple #[.agg #[v'], .bool false]) ∧ SlN w w' v' xs.length (ints xs) ∧ Below w.heap.size w w' := by
 obtain ⟨i0, hi, hz0, hz1, hz2⟩ := info_parts infoLn3
 obtain ⟨b, off, cap, rfl, hcap, hbw, hcs⟩ := hS.open om
 have HX := hd hx
 have HC := hd hcs
 have q3 : ((xs.length : Int) == 3) = true := by simp; omega
 clear hS hx hcs
 go_enter Tryz.func70, Tryz.ntmps70
 go_wp2_with (at_builtin; refine wpList_append_lies _ rfl (.tmp 17) (.tmp 19) 33 rfl (w.heap.size + 2) 3 i0 (.int .i64 0) 1 8 Tryz.underlying33 hi hz0 hz1 hz2 rfl (by decide) (.slice (some ⟨w.heap.size + 2, 0, none⟩) 0 0) 0 (ints []) rfl (lit_at _ _ _ (by simp) (by simp)) ⟨b, off, none⟩ xs.length cap (ints xs) rfl (by simp [ints]) (sl_src fun j u hj => cl_alloc _ so (cl_alloc _ so (cl_alloc _ hbw (HC.out j u hj)))) (ints_cell xs) (by have := HX.out; omega) (by have := HX.out; unfold maxLen; omega) (by have := HX.out; omega) (by simp) _ rfl ?_)
 intro g cap1 w3 hown hgrow hat hglt
 have u3 : Below w.heap.size w w3 := (up0 : Below w.heap.size w _).grown hgrow so (fun k hk => by simp [Value.ownBlock] at hk; omega)
 have z1 : w3.cell? ⟨w.heap.size + 1, 0, none⟩ = some (.slice none 0 0) := (hgrow.cell_far ⟨w.heap.size + 1, 0, none⟩ (by simp) (by simp [Value.ownBlock])).trans (cl_alloc _ (by simp) (by simp))
 have y1 : w3.frozen? ⟨w.heap.size + 1, 0, none⟩ = false := (hgrow.frozen_far ⟨w.heap.size + 1, 0, none⟩ (by simp) (by simp [Value.ownBlock])).trans (fr_alloc _ (by simp) (by simp))
 have hown2 : w3.ownsRow (w.heap.size + 2) 3 1 (.slice (some ⟨g, 0, none⟩) xs.length cap1) xs.length (ints xs) := by simpa [ints] using hown
 have HW := hd hown2
 clear hown hown2 hgrow hat HC
 go_wp2
 refine bodyPost_ret (v := .tuple #[.agg #[.slice (some ⟨g, 0, none⟩) xs.length cap1], .bool false]) ?_ rfl ⟨_, rfl, own_sln om (ownsRow_setCell_below HW.out (by simp) _), u3.setCell (by simp) _⟩
 simp [results, Tryz.results70, go_sem, *]
theorem putRef_more (xs : List Int) (v : Value) (val : Int) (w : World) (h0 : 0 < xs.length) (hx : xs.length < 3) (hS : Sl w 1 v xs.length (ints xs)) :
  Calls Tryz.prog 70 #[.int .i64 2, .agg #[v], .int .i64 val] w fun e w' => ∃ v', e = .returned (.tuple #[.agg #[v'], .bool true]) ∧ SlN w w' v' (xs ++ [val]).length (ints (xs ++ [val])) ∧ Below w.heap.size w w' := by
 obtain ⟨i0, hi, hz0, hz1, hz2⟩ := info_parts infoLn3
 obtain ⟨b, off, cap, rfl, hcap, hbw, hcs⟩ := hS.open om
 have HX := hd hx
 have HC := hd hcs
 have q3 : ((xs.length : Int) == 3) = false := by simp; omega
 have H0 := hd h0
 clear hS hx hcs h0
 go_enter Tryz.func70, Tryz.ntmps70
 go_wp2_with (at_builtin; refine wpList_append_lies _ rfl (.tmp 22) (.tmp 24) 33 rfl (w.heap.size + 2) 3 i0 (.int .i64 0) 1 8 Tryz.underlying33 hi hz0 hz1 hz2 rfl (by decide) (.slice (some ⟨w.heap.size + 2, 0, none⟩) 0 0) 0 (ints []) rfl (lit_at _ _ _ (by simp) (by simp)) ⟨b, off, none⟩ xs.length cap (ints xs) rfl (by simp [ints]) (sl_src fun j u hj => cl_alloc _ so (cl_alloc _ so (cl_alloc _ hbw (HC.out j u hj)))) (ints_cell xs) H0.out (by have := HX.out; unfold maxLen; omega) (by have := HX.out; omega) (by simp) _ rfl ?_)
 intro g cap1 w3 hown hgrow hat hglt
 have u3 : Below w.heap.size w w3 := (up0 : Below w.heap.size w _).grown hgrow so (fun k hk => by simp [Value.ownBlock] at hk; omega)
 have z1 : w3.cell? ⟨w.heap.size + 1, 0, none⟩ = some (.slice none 0 0) := (hgrow.cell_far ⟨w.heap.size + 1, 0, none⟩ (by simp) (by simp [Value.ownBlock])).trans (cl_alloc _ (by simp) (by simp))
 have y1 : w3.frozen? ⟨w.heap.size + 1, 0, none⟩ = false := (hgrow.frozen_far ⟨w.heap.size + 1, 0, none⟩ (by simp) (by simp [Value.ownBlock])).trans (fr_alloc _ (by simp) (by simp))
 have hown2 : w3.ownsRow (w.heap.size + 2) 3 1 (.slice (some ⟨g, 0, none⟩) xs.length cap1) xs.length (ints xs) := by simpa [ints] using hown
 have HW := hd hown2
 clear hown hown2 hgrow HC
 have hg2 : w.heap.size + 2 ≤ g := by
  rcases hat with hat | hat
  ·simp [Value.ownBlock] at hat; omega
  ·omega
 clear hat
 go_wp2_with (at_builtin; refine wpList_append_lies _ rfl (.tmp 25) (.tmp 27) 33 rfl (w.heap.size + 2) 3 i0 (.int .i64 0) 1 8 Tryz.underlying33 hi hz0 hz1 hz2 rfl (by decide) (.slice (some ⟨g, 0, none⟩) xs.length cap1) xs.length (ints xs) rfl (HW.out.alloc _) ⟨_, 0, none⟩ 1 1 [.int .i64 val] rfl rfl (one_at _ _ 3 _ rfl) (int_cellL _) (by decide) (by have := HX.out; unfold maxLen; omega) (by have := HX.out; omega) (by have := u3.size; simp; omega) _ rfl ?_)
 intro g' cap2 w4 hown hgrow hat hglt'
 have u4 : Below w.heap.size w w4 := (u3.alloc u3.size _).grown hgrow (by have := u3.size; simp; omega) (fun k hk => by simp [Value.ownBlock] at hk; omega)
 have hs3 : w.heap.size + 2 < w3.heap.size := by omega
 have z2 : w4.cell? ⟨w.heap.size + 1, 0, none⟩ = some (.slice none 0 0) := (hgrow.cell_far ⟨w.heap.size + 1, 0, none⟩ so (by simp [Value.ownBlock]; omega)).trans (cl_alloc _ om z1)
 have y2 : w4.frozen? ⟨w.heap.size + 1, 0, none⟩ = false := (hgrow.frozen_far ⟨w.heap.size + 1, 0, none⟩ so (by simp [Value.ownBlock]; omega)).trans (fr_alloc _ om y1)
 have hown2 : w4.ownsRow (w.heap.size + 2) 3 1 (.slice (some ⟨g', 0, none⟩) (xs.length + 1) cap2) (xs ++ [val]).length (ints (xs ++ [val])) := by simpa [ints] using hown
 have HV := hd hown2
 clear hown hown2 hgrow hat z1 y1 HW
 go_wp2
 refine bodyPost_ret (v := .tuple #[.agg #[.slice (some ⟨g', 0, none⟩) (xs.length + 1) cap2], .bool true]) ?_ rfl ⟨_, rfl, own_sln om (ownsRow_setCell_below HV.out (by simp) _), u4.setCell (by simp) _⟩
 simp [results, Tryz.results70, go_sem, *]
end Go.Proofs.YtehhhiodfcdnmaaGreatDoor

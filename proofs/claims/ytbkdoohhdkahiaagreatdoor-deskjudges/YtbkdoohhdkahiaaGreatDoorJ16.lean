/- Channels: Get. -/
import Derived.Test.YtbkdoohhdkahiaaGreatDoorJ15
import Derived.Deep.RegionWith
import Derived.Deep.DrawnRows
import Derived.Test.YtbkdoohhdkahiaaGreatDoorJ0
import Derived.Deep.RegionLaw
namespace Go.Proofs.YtbkdoohhdkahiaaGreatDoor
set_option linter.unusedSimpArgs false
set_option linter.unusedVariables false
set_option maxRecDepth 100000
set_option maxHeartbeats 4000000
open Go.RowKit Go.Sort
variable {base : Nat}
theorem x5h (kind : Int) (ao : Option Addr) (n cap : Nat) (w : World) (c : Int) (hc : xh2 kind n = c) (h0 : c ≠ 0) :
  Calls Tryz.prog 155 #[.int .i64 kind, .agg #[.slice ao n cap]] w fun e w' => e = .returned (.tuple #[.agg #[.slice none 0 0], .int .i64 0, .bool false, .int .i64 c]) /\ Below w.heap.size w w' := by
 have h0' : (c != 0) = true := by simpa using h0
 clear h0
 go_enter Tryz.func155, Tryz.ntmps155
 go_wp2_with fail
 refine (xcd kind ao n cap _ c hc).mono ?_
 rintro e w1 ⟨rfl, b1⟩
 have u1 : Below w.heap.size w w1 := Below.trans up0 (b1.mono so)
 have z0 : w1.cell? ⟨w.heap.size + 1, 0, none⟩ = some (.slice none 0 0) := bcl b1 (by simp) (by simp)
 have y0 : w1.frozen? ⟨w.heap.size + 1, 0, none⟩ = false := bfr b1 (by simp) (by simp)
 clear b1
 go_wp2
 refine bodyPost_ret (v := .tuple #[.agg #[.slice none 0 0], .int .i64 0, .bool false, .int .i64 c]) ?_ rfl ⟨rfl, up0⟩
 simp [results, Tryz.results155, go_sem, *]
theorem x0u (kind : Int) (hk : kind = 1 \/ kind = 2) (ao : Option Addr) (cap : Nat) (w : World) :
  Calls Tryz.prog 155 #[.int .i64 kind, .agg #[.slice ao 0 cap]] w fun e w' => e = .returned (.tuple #[.agg #[.slice none 0 0], .int .i64 0, .bool false, .int .i64 0]) /\ Below w.heap.size w w' := by
 have hc : xh2 kind 0 = 0 := by rcases hk with rfl | rfl <;> rfl
 go_enter Tryz.func155, Tryz.ntmps155
 go_wp2_with fail
 refine (xcd kind ao 0 cap _ 0 hc).mono ?_
 rintro e w1 ⟨rfl, b1⟩
 have u1 : Below w.heap.size w w1 := Below.trans up0 (b1.mono so)
 have k0 : w1.cell? ⟨w.heap.size, 0, none⟩ = some (.slice ao 0 cap) := bcl b1 so (xai _ (by simp) (by simp))
 have z0 : w1.cell? ⟨w.heap.size + 1, 0, none⟩ = some (.slice none 0 0) := bcl b1 (by simp) (by simp)
 have y0 : w1.frozen? ⟨w.heap.size + 1, 0, none⟩ = false := bfr b1 (by simp) (by simp)
 clear b1
 go_wp2
 refine bodyPost_ret (v := .tuple #[.agg #[.slice none 0 0], .int .i64 0, .bool false, .int .i64 0]) ?_ rfl ⟨rfl, up0⟩
 simp [results, Tryz.results155, go_sem, *]
theorem xu2 (x : Int) (v : Value) (w : World) (hS : Sl w 1 v 1 (xar [x])) :
  Calls Tryz.prog 155 #[.int .i64 1, .agg #[v]] w fun e w' => ∃ v', e = .returned (.tuple #[.agg #[v'], .int .i64 x, .bool true, .int .i64 0]) /\ SlN w w' v' 1 (xar [x]) /\ Below w.heap.size w w' := by
 obtain ⟨b, off, cap, rfl, hcap, hbw, hcs⟩ := hS.open om
 have HS := hd hS
 have HX := hd (hcs 0 (.int .i64 x) rfl)
 clear hS hcs
 go_enter Tryz.func155, Tryz.ntmps155
 go_wp2_with fail
 refine (xcd 1 _ 1 cap _ 0 rfl).mono ?_
 rintro e w1 ⟨rfl, b1⟩
 have u1 : Below w.heap.size w w1 := Below.trans up0 (b1.mono so)
 have s1 : w.heap.size + 2 <= w1.heap.size := by have := b1.size; simp at this; omega
 have k0 : w1.cell? ⟨w.heap.size, 0, none⟩ = some (.slice (some ⟨b, off, none⟩) 1 cap) := bcl b1 so (xai _ (by simp) (by simp))
 have z0 : w1.cell? ⟨w.heap.size + 1, 0, none⟩ = some (.slice none 0 0) := bcl b1 (by simp) (by simp)
 have y0 : w1.frozen? ⟨w.heap.size + 1, 0, none⟩ = false := bfr b1 (by simp) (by simp)
 have x0 : w1.cell? ⟨b, off, none⟩ = some (.int .i64 x) := bcl u1 hbw HX.out
 have hb1 : b ≠ w.heap.size + 1 := by omega
 clear b1
 go_wp2
 go_region_with (go_at_call 188; refine (xgz [x] (by simp) _ _ (Sl.up HS.out (by first | exact u1 | exact u1.drew))).mono ?_; rintro e w2 ⟨v', rfl, o2, b2⟩; have u2 : Below w.heap.size w w2 := Below.trans (by first | exact u1 | exact u1.drew) (b2.mono so); have k0 : w2.cell? ⟨w.heap.size, 0, none⟩ = some (.slice (some ⟨b, off, none⟩) 1 cap) := bcl b2 so (by simpa using k0); have z0 : w2.cell? ⟨w.heap.size + 1, 0, none⟩ = some (.slice none 0 0) := bcl b2 so (by simpa using z0); have y0 : w2.frozen? ⟨w.heap.size + 1, 0, none⟩ = false := bfr b2 so (by simpa using y0); have x0 : w2.cell? ⟨b, off, none⟩ = some (.int .i64 x) := bcl u2 hbw HX.out; obtain ⟨a2, c2, rfl⟩ := xaq o2; have HO : Hid (w2.ownsRow (w.heap.size + 2) 3 1 (.slice a2 1 c2) 1 (xar [x])) := xau o2 so; clear b2 o2)
 all_goals go_wp2
 all_goals
  refine bodyPost_ret (v := .tuple #[.agg #[.slice a2 1 c2], .int .i64 x, .bool true, .int .i64 0]) ?_ rfl ⟨_, rfl, xd2 om (ownsRow_setCell_below HO.out (by simp) _), u2.setCell (by simp) _⟩
  simp [results, Tryz.results155, go_sem, *]
theorem x4g {w : World} {b off cap : Nat} {x : Int} {r : List Int} (hbw : b < w.heap.size) (hcap : r.length + 1 <= cap) (hcs : ∀ j u, (xar (x :: r))[j]? = some u -> w.cell? ⟨b, off + j, none⟩ = some u) :
  Sl w 1 (.slice (some ⟨b, off + 1, none⟩) r.length (cap - 1)) r.length (xar r) := by
 refine ⟨by simp [xar], _, _, rfl, by omega, fun _ => ⟨b, off + 1, rfl, hbw, fun j u hj => ?_⟩⟩
 have := hcs (j + 1) u (by simpa [xar] using hj)
 rw [show off + 1 + j = off + (j + 1) by omega]
 exact this
theorem xy6 (x : Int) (r : List Int) (hr : r.length <= 2) (v : Value) (w : World) (hS : Sl w 1 v (r.length + 1) (xar (x :: r))) :
  Calls Tryz.prog 155 #[.int .i64 2, .agg #[v]] w fun e w' => ∃ v', e = .returned (.tuple #[.agg #[v'], .int .i64 x, .bool true, .int .i64 0]) /\ SlN w w' v' r.length (xar r) /\ Below w.heap.size w w' := by
 obtain ⟨b, off, cap, rfl, hcap, hbw, hcs⟩ := hS.open om
 by_cases hc1 : cap = 1
 .subst hc1
  obtain rfl : r = [] := List.length_eq_zero_iff.1 om
  have HS : Hid (Sl w 1 (.slice (some ⟨b, off, none⟩) 0 0) 0 (xar [])) := ⟨rfl, _, _, rfl, Nat.le_refl _, fun h => by omega⟩
  have HX := hd (hcs 0 (.int .i64 x) rfl)
  clear hS hcs hcap
  go_enter Tryz.func155, Tryz.ntmps155
  go_wp2_with fail
  refine (xcd 2 _ 1 1 _ 0 rfl).mono ?_
  rintro e w1 ⟨rfl, b1⟩
  have u1 : Below w.heap.size w w1 := Below.trans up0 (b1.mono so)
  have s1 : w.heap.size + 2 <= w1.heap.size := by have := b1.size; simp at this; omega
  have k0 : w1.cell? ⟨w.heap.size, 0, none⟩ = some (.slice (some ⟨b, off, none⟩) 1 1) := bcl b1 so (xai _ (by simp) (by simp))
  have z0 : w1.cell? ⟨w.heap.size + 1, 0, none⟩ = some (.slice none 0 0) := bcl b1 (by simp) (by simp)
  have y0 : w1.frozen? ⟨w.heap.size + 1, 0, none⟩ = false := bfr b1 (by simp) (by simp)
  have x0 : w1.cell? ⟨b, off, none⟩ = some (.int .i64 x) := bcl u1 hbw HX.out
  have hb1 : b ≠ w.heap.size + 1 := by omega
  clear b1
  go_wp2
  go_region_with (go_at_call 188; refine (xgz [] (by simp) _ _ (Sl.up HS.out (by first | exact u1 | exact u1.drew))).mono ?_; rintro e w2 ⟨v', rfl, o2, b2⟩; have u2 : Below w.heap.size w w2 := Below.trans (by first | exact u1 | exact u1.drew) (b2.mono so); have k0 : w2.cell? ⟨w.heap.size, 0, none⟩ = some (.slice (some ⟨b, off, none⟩) 1 1) := bcl b2 so (by simpa using k0); have z0 : w2.cell? ⟨w.heap.size + 1, 0, none⟩ = some (.slice none 0 0) := bcl b2 so (by simpa using z0); have y0 : w2.frozen? ⟨w.heap.size + 1, 0, none⟩ = false := bfr b2 so (by simpa using y0); have x0 : w2.cell? ⟨b, off, none⟩ = some (.int .i64 x) := bcl u2 hbw HX.out; obtain ⟨a2, c2, rfl⟩ := xaq o2; have HO : Hid (w2.ownsRow (w.heap.size + 2) 3 1 (.slice a2 0 c2) 0 (xar [])) := xau o2 so; clear b2 o2)
  all_goals go_wp2
  all_goals
   refine bodyPost_ret (v := .tuple #[.agg #[.slice a2 0 c2], .int .i64 x, .bool true, .int .i64 0]) ?_ rfl ⟨_, rfl, xd2 om (ownsRow_setCell_below HO.out (by simp) _), u2.setCell (by simp) _⟩
   simp [results, Tryz.results155, go_sem, *]
 .have hc1' : (cap == 1) = false := by simpa using hc1
  have HS : Hid (Sl w 1 (.slice (some ⟨b, off + 1, none⟩) r.length (cap - 1)) r.length (xar r)) := x4g hbw hcap hcs
  have HX := hd (hcs 0 (.int .i64 x) rfl)
  clear hS hcs hcap
  go_enter Tryz.func155, Tryz.ntmps155
  go_wp2_with fail
  refine (xcd 2 _ (r.length + 1) cap _ 0 (by unfold xh2; simp; omega)).mono ?_
  rintro e w1 ⟨rfl, b1⟩
  have u1 : Below w.heap.size w w1 := Below.trans up0 (b1.mono so)
  have s1 : w.heap.size + 2 <= w1.heap.size := by have := b1.size; simp at this; omega
  have k0 : w1.cell? ⟨w.heap.size, 0, none⟩ = some (.slice (some ⟨b, off, none⟩) (r.length + 1) cap) := bcl b1 so (xai _ (by simp) (by simp))
  have z0 : w1.cell? ⟨w.heap.size + 1, 0, none⟩ = some (.slice none 0 0) := bcl b1 (by simp) (by simp)
  have y0 : w1.frozen? ⟨w.heap.size + 1, 0, none⟩ = false := bfr b1 (by simp) (by simp)
  have x0 : w1.cell? ⟨b, off, none⟩ = some (.int .i64 x) := bcl u1 hbw HX.out
  have hb1 : b ≠ w.heap.size + 1 := by omega
  clear b1
  go_wp2
  go_region_with (go_at_call 188; refine (xgz r om _ _ (Sl.up HS.out (by first | exact u1 | exact u1.drew))).mono ?_; rintro e w2 ⟨v', rfl, o2, b2⟩; have u2 : Below w.heap.size w w2 := Below.trans (by first | exact u1 | exact u1.drew) (b2.mono so); have k0 : w2.cell? ⟨w.heap.size, 0, none⟩ = some (.slice (some ⟨b, off, none⟩) (r.length + 1) cap) := bcl b2 so (by simpa using k0); have z0 : w2.cell? ⟨w.heap.size + 1, 0, none⟩ = some (.slice none 0 0) := bcl b2 so (by simpa using z0); have y0 : w2.frozen? ⟨w.heap.size + 1, 0, none⟩ = false := bfr b2 so (by simpa using y0); have x0 : w2.cell? ⟨b, off, none⟩ = some (.int .i64 x) := bcl u2 hbw HX.out; obtain ⟨a2, c2, rfl⟩ := xaq o2; have HO : Hid (w2.ownsRow (w.heap.size + 2) 3 1 (.slice a2 r.length c2) r.length (xar r)) := xau o2 so; clear b2 o2)
  all_goals go_wp2
  all_goals
   refine bodyPost_ret (v := .tuple #[.agg #[.slice a2 r.length c2], .int .i64 x, .bool true, .int .i64 0]) ?_ rfl ⟨_, rfl, xd2 om (ownsRow_setCell_below HO.out (by simp) _), u2.setCell (by simp) _⟩
   simp [results, Tryz.results155, go_sem, *]
theorem x2q (w : World) (t : TypeId) (hb : base <= w.heap.size) : (w.alloc (.cells #[] t)).ownsRow base t 1 (.slice (some ⟨w.heap.size, 0, none⟩) 0 0) 0 (xar []) :=
 World.ownsRow_made w #[] 0 hb (Nat.zero_le _) rfl
theorem xoq (w : World) (t : TypeId) (b : Nat) (hbb : b = w.heap.size) (hb : base <= w.heap.size) : (w.alloc (.cells #[] t)).ownsRow base t 1 (.slice (some ⟨b, 0, none⟩) 0 0) 0 (xar []) := hbb ▸ x2q w t hb
theorem xv6 (ao : Option Addr) (n cap : Nat) (val : Int) (w : World) :
  Calls Tryz.prog 112 #[.int .i64 1, .agg #[.slice ao n cap], .int .i64 val] w fun e w' => ∃ v', e = .returned (.tuple #[.agg #[v'], .bool true]) /\ SlN w w' v' 1 (xar [val]) /\ Below w.heap.size w w' := by
 go_enter Tryz.func112, Tryz.ntmps112
 go_wp2
 refine bodyPost_ret (v := .tuple #[.agg #[.slice (some ⟨w.heap.size + 2, 0, none⟩) 1 1], .bool true]) ?_ rfl ⟨_, rfl, ?_, up0⟩
 .simp [results, Tryz.results112, go_sem]
 .refine ⟨xk9 _ _ _ _ _ ?_ ?_, fun k hk => ?_⟩
  .simp
  .simp
  .simp [Value.ownBlock] at hk; omega
theorem xq7 (xs : List Int) (v : Value) (val : Int) (w : World) (hx : xs.length = 3) (hS : Sl w 1 v xs.length (xar xs)) :
  Calls Tryz.prog 112 #[.int .i64 2, .agg #[v], .int .i64 val] w fun e w' => ∃ v', e = .returned (.tuple #[.agg #[v'], .bool false]) /\ SlN w w' v' xs.length (xar xs) /\ Below w.heap.size w w' := by
 obtain ⟨i0, hi, hz0, hz1, hz2⟩ := xaj xhc
 obtain ⟨b, off, cap, rfl, hcap, hbw, hcs⟩ := hS.open om
 have HX := hd hx
 have HC := hd hcs
 have q3 : ((xs.length : Int) == 3) = true := by simp; omega
 clear hS hx hcs
 go_enter Tryz.func112, Tryz.ntmps112
 go_wp2_with (at_builtin; refine wpList_append_lies _ rfl (.tmp 17) (.tmp 19) 41 rfl (w.heap.size + 2) 3 i0 (.int .i64 0) 1 8 Tryz.underlying41 hi hz0 hz1 hz2 rfl (by decide) (.slice (some ⟨w.heap.size + 2, 0, none⟩) 0 0) 0 (xar []) rfl (xoq _ _ _ (by simp) (by simp)) ⟨b, off, none⟩ xs.length cap (xar xs) rfl (by simp [xar]) (xjj fun j u hj => xai _ so (xai _ so (xai _ hbw (HC.out j u hj)))) (xcg xs) (by have := HX.out; omega) (by have := HX.out; unfold maxLen; omega) (by have := HX.out; omega) (by simp) _ rfl ?_)
 intro g cap1 w3 hown hgrow hat hglt
 have u3 : Below w.heap.size w w3 := (up0 : Below w.heap.size w _).grown hgrow so (fun k hk => by simp [Value.ownBlock] at hk; omega)
 have z1 : w3.cell? ⟨w.heap.size + 1, 0, none⟩ = some (.slice none 0 0) := (hgrow.cell_far ⟨w.heap.size + 1, 0, none⟩ (by simp) (by simp [Value.ownBlock])).trans (xai _ (by simp) (by simp))
 have y1 : w3.frozen? ⟨w.heap.size + 1, 0, none⟩ = false := (hgrow.frozen_far ⟨w.heap.size + 1, 0, none⟩ (by simp) (by simp [Value.ownBlock])).trans (xcs _ (by simp) (by simp))
 have hown2 : w3.ownsRow (w.heap.size + 2) 3 1 (.slice (some ⟨g, 0, none⟩) xs.length cap1) xs.length (xar xs) := by simpa [xar] using hown
 have HW := hd hown2
 clear hown hown2 hgrow hat HC
 go_wp2
 refine bodyPost_ret (v := .tuple #[.agg #[.slice (some ⟨g, 0, none⟩) xs.length cap1], .bool false]) ?_ rfl ⟨_, rfl, xd2 om (ownsRow_setCell_below HW.out (by simp) _), u3.setCell (by simp) _⟩
 simp [results, Tryz.results112, go_sem, *]
theorem xrn (xs : List Int) (v : Value) (val : Int) (w : World) (h0 : 0 < xs.length) (hx : xs.length < 3) (hS : Sl w 1 v xs.length (xar xs)) :
  Calls Tryz.prog 112 #[.int .i64 2, .agg #[v], .int .i64 val] w fun e w' => ∃ v', e = .returned (.tuple #[.agg #[v'], .bool true]) /\ SlN w w' v' (xs ++ [val]).length (xar (xs ++ [val])) /\ Below w.heap.size w w' := by
 obtain ⟨i0, hi, hz0, hz1, hz2⟩ := xaj xhc
 obtain ⟨b, off, cap, rfl, hcap, hbw, hcs⟩ := hS.open om
 have HX := hd hx
 have HC := hd hcs
 have q3 : ((xs.length : Int) == 3) = false := by simp; omega
 have H0 := hd h0
 clear hS hx hcs h0
 go_enter Tryz.func112, Tryz.ntmps112
 go_wp2_with (at_builtin; refine wpList_append_lies _ rfl (.tmp 22) (.tmp 24) 41 rfl (w.heap.size + 2) 3 i0 (.int .i64 0) 1 8 Tryz.underlying41 hi hz0 hz1 hz2 rfl (by decide) (.slice (some ⟨w.heap.size + 2, 0, none⟩) 0 0) 0 (xar []) rfl (xoq _ _ _ (by simp) (by simp)) ⟨b, off, none⟩ xs.length cap (xar xs) rfl (by simp [xar]) (xjj fun j u hj => xai _ so (xai _ so (xai _ hbw (HC.out j u hj)))) (xcg xs) H0.out (by have := HX.out; unfold maxLen; omega) (by have := HX.out; omega) (by simp) _ rfl ?_)
 intro g cap1 w3 hown hgrow hat hglt
 have u3 : Below w.heap.size w w3 := (up0 : Below w.heap.size w _).grown hgrow so (fun k hk => by simp [Value.ownBlock] at hk; omega)
 have z1 : w3.cell? ⟨w.heap.size + 1, 0, none⟩ = some (.slice none 0 0) := (hgrow.cell_far ⟨w.heap.size + 1, 0, none⟩ (by simp) (by simp [Value.ownBlock])).trans (xai _ (by simp) (by simp))
 have y1 : w3.frozen? ⟨w.heap.size + 1, 0, none⟩ = false := (hgrow.frozen_far ⟨w.heap.size + 1, 0, none⟩ (by simp) (by simp [Value.ownBlock])).trans (xcs _ (by simp) (by simp))
 have hown2 : w3.ownsRow (w.heap.size + 2) 3 1 (.slice (some ⟨g, 0, none⟩) xs.length cap1) xs.length (xar xs) := by simpa [xar] using hown
 have HW := hd hown2
 clear hown hown2 hgrow HC
 have hg2 : w.heap.size + 2 <= g := by
  rcases hat with hat | hat
  .simp [Value.ownBlock] at hat; omega
  .omega
 clear hat
 go_wp2_with (at_builtin; refine wpList_append_lies _ rfl (.tmp 25) (.tmp 27) 41 rfl (w.heap.size + 2) 3 i0 (.int .i64 0) 1 8 Tryz.underlying41 hi hz0 hz1 hz2 rfl (by decide) (.slice (some ⟨g, 0, none⟩) xs.length cap1) xs.length (xar xs) rfl (HW.out.alloc _) ⟨_, 0, none⟩ 1 1 [.int .i64 val] rfl rfl (xzk _ _ 3 _ rfl) (xkc _) (by decide) (by have := HX.out; unfold maxLen; omega) (by have := HX.out; omega) (by have := u3.size; simp; omega) _ rfl ?_)
 intro g' cap2 w4 hown hgrow hat hglt'
 have u4 : Below w.heap.size w w4 := (u3.alloc u3.size _).grown hgrow (by have := u3.size; simp; omega) (fun k hk => by simp [Value.ownBlock] at hk; omega)
 have hs3 : w.heap.size + 2 < w3.heap.size := by omega
 have z2 : w4.cell? ⟨w.heap.size + 1, 0, none⟩ = some (.slice none 0 0) := (hgrow.cell_far ⟨w.heap.size + 1, 0, none⟩ so (by simp [Value.ownBlock]; omega)).trans (xai _ om z1)
 have y2 : w4.frozen? ⟨w.heap.size + 1, 0, none⟩ = false := (hgrow.frozen_far ⟨w.heap.size + 1, 0, none⟩ so (by simp [Value.ownBlock]; omega)).trans (xcs _ om y1)
 have hown2 : w4.ownsRow (w.heap.size + 2) 3 1 (.slice (some ⟨g', 0, none⟩) (xs.length + 1) cap2) (xs ++ [val]).length (xar (xs ++ [val])) := by simpa [xar] using hown
 have HV := hd hown2
 clear hown hown2 hgrow hat z1 y1 HW
 go_wp2
 refine bodyPost_ret (v := .tuple #[.agg #[.slice (some ⟨g', 0, none⟩) (xs.length + 1) cap2], .bool true]) ?_ rfl ⟨_, rfl, xd2 om (ownsRow_setCell_below HV.out (by simp) _), u4.setCell (by simp) _⟩
 simp [results, Tryz.results112, go_sem, *]
theorem xo6 (ao : Option Addr) (cap : Nat) (val : Int) (w : World) :
  Calls Tryz.prog 112 #[.int .i64 2, .agg #[.slice ao 0 cap], .int .i64 val] w fun e w' => ∃ v', e = .returned (.tuple #[.agg #[v'], .bool true]) /\ SlN w w' v' 1 (xar [val]) /\ Below w.heap.size w w' := by
 obtain ⟨i0, hi, hz0, hz1, hz2⟩ := xaj xhc
 go_enter Tryz.func112, Tryz.ntmps112
 cases ao
 all_goals
  go_wp2_with (at_builtin; refine wpList_append_lies _ rfl (.tmp 25) (.tmp 27) 41 rfl (w.heap.size + 2) 3 i0 (.int .i64 0) 1 8 Tryz.underlying41 hi hz0 hz1 hz2 rfl (by decide) (.slice (some ⟨w.heap.size + 2, 0, none⟩) 0 0) 0 (xar []) rfl ((xoq _ _ _ (by simp) (by simp)).alloc _) ⟨_, 0, none⟩ 1 1 [.int .i64 val] rfl rfl (xzk _ _ 3 _ (by simp)) (xkc _) (by decide) (by unfold maxLen; omega) om (by simp; try omega) _ rfl ?_)
  intro g' cap2 w4 hown hgrow hat hglt'
  have u4 : Below w.heap.size w w4 := (up0 : Below w.heap.size w _).grown hgrow so (fun k hk => by simp [Value.ownBlock] at hk; omega)
  have z2 : w4.cell? ⟨w.heap.size + 1, 0, none⟩ = some (.slice none 0 0) := (hgrow.cell_far ⟨w.heap.size + 1, 0, none⟩ (by simp; try omega) (by simp [Value.ownBlock])).trans (xai _ (by simp; try omega) (xai _ (by simp) (by simp)))
  have y2 : w4.frozen? ⟨w.heap.size + 1, 0, none⟩ = false := (hgrow.frozen_far ⟨w.heap.size + 1, 0, none⟩ (by simp; try omega) (by simp [Value.ownBlock])).trans (xcs _ (by simp; try omega) (xcs _ (by simp) (by simp)))
  have hown2 : w4.ownsRow (w.heap.size + 2) 3 1 (.slice (some ⟨g', 0, none⟩) 1 cap2) 1 (xar [val]) := by simpa [xar] using hown
  have HV := hd hown2
  clear hown hown2 hgrow hat
  go_wp2
  refine bodyPost_ret (v := .tuple #[.agg #[.slice (some ⟨g', 0, none⟩) 1 cap2], .bool true]) ?_ rfl ⟨_, rfl, xd2 om (ownsRow_setCell_below HV.out (by simp) _), u4.setCell (by simp) _⟩
  simp [results, Tryz.results112, go_sem, *]
theorem xry (kind : Int) (ao : Option Addr) (cap : Nat) (w : World) :
  Calls Tryz.prog 113 #[.int .i64 kind, .agg #[.slice ao 0 cap]] w fun e w' => e = .returned (.tuple #[.agg #[.slice none 0 0], .int .i64 0, .bool false]) /\ Below w.heap.size w w' := by
 go_enter Tryz.func113, Tryz.ntmps113
 go_wp2
 refine bodyPost_ret (v := .tuple #[.agg #[.slice none 0 0], .int .i64 0, .bool false]) ?_ rfl ⟨rfl, up0⟩
 simp [results, Tryz.results113, go_sem, *]
theorem xnl (x : Int) (v : Value) (w : World) (hS : Sl w 1 v 1 (xar [x])) :
  Calls Tryz.prog 113 #[.int .i64 1, .agg #[v]] w fun e w' => ∃ v', e = .returned (.tuple #[.agg #[v'], .int .i64 x, .bool true]) /\ SlN w w' v' 1 (xar [x]) /\ Below w.heap.size w w' := by
 obtain ⟨i0, hi, hz0, hz1, hz2⟩ := xaj xhc
 obtain ⟨b, off, cap, rfl, hcap, hbw, hcs⟩ := hS.open om
 have x0 : w.cell? ⟨b, off, none⟩ = some (.int .i64 x) := hcs 0 _ rfl
 have hb1 : b ≠ w.heap.size + 1 := by omega
 have hb2 : b ≠ w.heap.size := by omega
 have xA : ((w.alloc (.cells #[.slice (some ⟨b, off, none⟩) 1 cap] 171)).alloc (.cells #[.slice none 0 0] 171)).cell? ⟨b, off, none⟩ = some (.int .i64 x) := xai _ so (xai _ hbw x0)
 have xB : (((w.alloc (.cells #[.slice (some ⟨b, off, none⟩) 1 cap] 171)).alloc (.cells #[.slice none 0 0] 171)).alloc (.cells #[] 3)).cell? ⟨b, off, none⟩ = some (.int .i64 x) := xai _ so xA
 have HC := hd hcs
 clear hS hcs
 go_enter Tryz.func113, Tryz.ntmps113
 go_wp2
 go_region_law (refine step_append_lies _ rfl (.tmp 15) (.tmp 19) 41 rfl (w.heap.size + 2) 3 i0 (.int .i64 0) 1 8 Tryz.underlying41 hi hz0 hz1 hz2 rfl (by decide) (.slice (some ⟨w.heap.size + 2, 0, none⟩) 0 0) 0 (xar []) (by simp [Act.eval, Act.put]) (xoq _ _ _ (by simp) (by simp)) ⟨b, off, none⟩ 1 cap (xar [x]) (by simp [Act.eval, Act.put]) (by simp [xar]) (xjj fun j u hj => xai _ so (xai (w := w.alloc (.cells #[.slice (some ⟨b, off, none⟩) 1 cap] 171)) _ so (xai _ hbw (HC.out j u hj)))) (xcg _) om (by unfold maxLen; omega) om (by simp) _ rfl ?_; intro g cap1 w3 hown hgrow hat hglt; have u3 : Below w.heap.size w w3 := (by repeat (first | exact Below.refl _ _ | refine Below.drew ?_ | refine Below.alloc ?_ (by first | (simp; done) | (simp; omega)) _) : Below w.heap.size w _).grown hgrow so (fun k hk => by simp [Value.ownBlock] at hk; omega); have k3 : w3.cell? ⟨w.heap.size, 0, none⟩ = some (.slice (some ⟨b, off, none⟩) 1 cap) := (hgrow.cell_far ⟨w.heap.size, 0, none⟩ so (by simp [Value.ownBlock])).trans (xai _ so (xai (w := w.alloc _) _ (by simp) (by simp))); have x3 : w3.cell? ⟨b, off, none⟩ = some (.int .i64 x) := bcl u3 hbw x0; have z3 : w3.cell? ⟨w.heap.size + 1, 0, none⟩ = some (.slice none 0 0) := (hgrow.cell_far ⟨w.heap.size + 1, 0, none⟩ (by simp) (by simp [Value.ownBlock])).trans (xai _ (by simp) (by simp)); have y3 : w3.frozen? ⟨w.heap.size + 1, 0, none⟩ = false := (hgrow.frozen_far ⟨w.heap.size + 1, 0, none⟩ (by simp) (by simp [Value.ownBlock])).trans (xcs _ (by simp) (by simp)); have HW0 : w3.ownsRow (w.heap.size + 2) 3 1 (.slice (some ⟨g, 0, none⟩) 1 cap1) 1 (xar [x]) := (by simpa [xar] using hown); have HW := hd HW0; clear HW0; clear hown hgrow hat)
 all_goals go_wp2
 all_goals
  refine bodyPost_ret (v := .tuple #[.agg #[.slice (some ⟨g, 0, none⟩) 1 cap1], .int .i64 x, .bool true]) ?_ rfl ⟨_, rfl, xd2 om (ownsRow_setCell_below HW.out (by simp) _), u3.setCell (by simp) _⟩
  simp [results, Tryz.results113, go_sem, *]
theorem xp0 (x : Int) (r : List Int) (hr : r.length <= 2) (hr0 : 0 < r.length) (v : Value) (w : World) (hS : Sl w 1 v (r.length + 1) (xar (x :: r))) :
  Calls Tryz.prog 113 #[.int .i64 2, .agg #[v]] w fun e w' => ∃ v', e = .returned (.tuple #[.agg #[v'], .int .i64 x, .bool true]) /\ SlN w w' v' r.length (xar r) /\ Below w.heap.size w w' := by
 obtain ⟨i0, hi, hz0, hz1, hz2⟩ := xaj xhc
 obtain ⟨b, off, cap, rfl, hcap, hbw, hcs⟩ := hS.open om
 have x0 : w.cell? ⟨b, off, none⟩ = some (.int .i64 x) := hcs 0 _ rfl
 have hb1 : b ≠ w.heap.size + 1 := by omega
 have hb2 : b ≠ w.heap.size := by omega
 have xA : ((w.alloc (.cells #[.slice (some ⟨b, off, none⟩) (r.length + 1) cap] 171)).alloc (.cells #[.slice none 0 0] 171)).cell? ⟨b, off, none⟩ = some (.int .i64 x) := xai _ so (xai _ hbw x0)
 have xB : (((w.alloc (.cells #[.slice (some ⟨b, off, none⟩) (r.length + 1) cap] 171)).alloc (.cells #[.slice none 0 0] 171)).alloc (.cells #[] 3)).cell? ⟨b, off, none⟩ = some (.int .i64 x) := xai _ so xA
 have HC : Hid (∀ j u, (xar r)[j]? = some u -> w.cell? ⟨b, off + 1 + j, none⟩ = some u) := fun j u hj => by
  have := hcs (j + 1) u (by simpa [xar] using hj)
  rw [show off + 1 + j = off + (j + 1) by omega]
  exact this
 have hc1 : (cap == 1) = false := by simp; omega
 have hc2 : ¬ cap = 1 := by omega
 have hq1 : (1 : Int) <= r.length + 1 := by omega
 clear hS hcs
 go_enter Tryz.func113, Tryz.ntmps113
 go_wp2
 go_region_law (refine step_append_lies _ rfl (.tmp 15) (.tmp 19) 41 rfl (w.heap.size + 2) 3 i0 (.int .i64 0) 1 8 Tryz.underlying41 hi hz0 hz1 hz2 rfl (by decide) (.slice (some ⟨w.heap.size + 2, 0, none⟩) 0 0) 0 (xar []) (by simp [Act.eval, Act.put]) (xoq _ _ _ (by simp) (by simp)) ⟨b, off + 1, none⟩ r.length (cap - 1) (xar r) (by simp [Act.eval, Act.put]) (by simp [xar]) (xjj fun j u hj => xai _ so (xai (w := w.alloc (.cells #[.slice (some ⟨b, off, none⟩) (r.length + 1) cap] 171)) _ so (xai _ hbw (HC.out j u hj)))) (xcg _) om (by unfold maxLen; omega) om (by simp) _ rfl ?_; intro g cap1 w3 hown hgrow hat hglt; have u3 : Below w.heap.size w w3 := (by repeat (first | exact Below.refl _ _ | refine Below.drew ?_ | refine Below.alloc ?_ (by first | (simp; done) | (simp; omega)) _) : Below w.heap.size w _).grown hgrow so (fun k hk => by simp [Value.ownBlock] at hk; omega); have k3 : w3.cell? ⟨w.heap.size, 0, none⟩ = some (.slice (some ⟨b, off, none⟩) (r.length + 1) cap) := (hgrow.cell_far ⟨w.heap.size, 0, none⟩ so (by simp [Value.ownBlock])).trans (xai _ so (xai (w := w.alloc _) _ (by simp) (by simp))); have x3 : w3.cell? ⟨b, off, none⟩ = some (.int .i64 x) := bcl u3 hbw x0; have z3 : w3.cell? ⟨w.heap.size + 1, 0, none⟩ = some (.slice none 0 0) := (hgrow.cell_far ⟨w.heap.size + 1, 0, none⟩ (by simp) (by simp [Value.ownBlock])).trans (xai _ (by simp) (by simp)); have y3 : w3.frozen? ⟨w.heap.size + 1, 0, none⟩ = false := (hgrow.frozen_far ⟨w.heap.size + 1, 0, none⟩ (by simp) (by simp [Value.ownBlock])).trans (xcs _ (by simp) (by simp)); have HW0 : w3.ownsRow (w.heap.size + 2) 3 1 (.slice (some ⟨g, 0, none⟩) r.length cap1) r.length (xar r) := (by simpa [xar] using hown); have HW := hd HW0; clear HW0; clear hown hgrow hat)
 all_goals go_wp2
 all_goals
  refine bodyPost_ret (v := .tuple #[.agg #[.slice (some ⟨g, 0, none⟩) r.length cap1], .int .i64 x, .bool true]) ?_ rfl ⟨_, rfl, xd2 om (ownsRow_setCell_below HW.out (by simp) _), u3.setCell (by simp) _⟩
  simp [results, Tryz.results113, go_sem, *]
theorem xq3 (x : Int) (v : Value) (w : World) (hS : Sl w 1 v 1 (xar [x])) :
  Calls Tryz.prog 113 #[.int .i64 2, .agg #[v]] w fun e w' => ∃ v', e = .returned (.tuple #[.agg #[v'], .int .i64 x, .bool true]) /\ SlN w w' v' 0 (xar []) /\ Below w.heap.size w w' := by
 obtain ⟨b, off, cap, rfl, hcap, hbw, hcs⟩ := hS.open om
 have x0 : w.cell? ⟨b, off, none⟩ = some (.int .i64 x) := hcs 0 _ rfl
 have hb1 : b ≠ w.heap.size + 1 := by omega
 have hb2 : b ≠ w.heap.size := by omega
 clear hS hcs
 have main : ∀ cap, 1 <= cap -> ((cap = 1) \/ ¬ cap = 1) -> Calls Tryz.prog 113 #[.int .i64 2, .agg #[.slice (some ⟨b, off, none⟩) 1 cap]] w fun e w' => ∃ v', e = .returned (.tuple #[.agg #[v'], .int .i64 x, .bool true]) /\ SlN w w' v' 0 (xar []) /\ Below w.heap.size w w' := by
  intro cap hcap hor
  have xA : ((w.alloc (.cells #[.slice (some ⟨b, off, none⟩) 1 cap] 171)).alloc (.cells #[.slice none 0 0] 171)).cell? ⟨b, off, none⟩ = some (.int .i64 x) := xai _ so (xai _ hbw x0)
  have xB : (((w.alloc (.cells #[.slice (some ⟨b, off, none⟩) 1 cap] 171)).alloc (.cells #[.slice none 0 0] 171)).alloc (.cells #[] 3)).cell? ⟨b, off, none⟩ = some (.int .i64 x) := xai _ so xA
  have kB : (((w.alloc (.cells #[.slice (some ⟨b, off, none⟩) 1 cap] 171)).alloc (.cells #[.slice none 0 0] 171)).alloc (.cells #[] 3)).cell? ⟨w.heap.size, 0, none⟩ = some (.slice (some ⟨b, off, none⟩) 1 cap) := xai _ so (xai _ (by simp) (by simp))
  have zB : (((w.alloc (.cells #[.slice (some ⟨b, off, none⟩) 1 cap] 171)).alloc (.cells #[.slice none 0 0] 171)).alloc (.cells #[] 3)).cell? ⟨w.heap.size + 1, 0, none⟩ = some (.slice none 0 0) := xai _ (by simp) (by simp)
  have yB : (((w.alloc (.cells #[.slice (some ⟨b, off, none⟩) 1 cap] 171)).alloc (.cells #[.slice none 0 0] 171)).alloc (.cells #[] 3)).frozen? ⟨w.heap.size + 1, 0, none⟩ = false := xcs _ (by simp) (by simp)
  have xC : (((w.alloc (.cells #[.slice (some ⟨b, off, none⟩) 1 cap] 171)).alloc (.cells #[.slice (some ⟨w.heap.size + 2, 0, none⟩) 0 0] 171)).alloc (.cells #[] 3)).cell? ⟨b, off, none⟩ = some (.int .i64 x) := xai _ so (xai _ so (xai _ hbw x0))
  have kC : (((w.alloc (.cells #[.slice (some ⟨b, off, none⟩) 1 cap] 171)).alloc (.cells #[.slice (some ⟨w.heap.size + 2, 0, none⟩) 0 0] 171)).alloc (.cells #[] 3)).cell? ⟨w.heap.size, 0, none⟩ = some (.slice (some ⟨b, off, none⟩) 1 cap) := xai _ so (xai _ (by simp) (by simp))
  have xD : (((w.alloc (.cells #[.slice (some ⟨b, off, none⟩) 1 cap] 171)).alloc (.cells #[.slice (some ⟨w.heap.size + 1 + 1, 0, none⟩) 0 0] 171)).alloc (.cells #[] 3)).cell? ⟨b, off, none⟩ = some (.int .i64 x) := xai _ so (xai _ so (xai _ hbw x0))
  have kD : (((w.alloc (.cells #[.slice (some ⟨b, off, none⟩) 1 cap] 171)).alloc (.cells #[.slice (some ⟨w.heap.size + 1 + 1, 0, none⟩) 0 0] 171)).alloc (.cells #[] 3)).cell? ⟨w.heap.size, 0, none⟩ = some (.slice (some ⟨b, off, none⟩) 1 cap) := xai _ so (xai _ (by simp) (by simp))
  rcases hor with hc1 | hc1
  .subst hc1
   go_enter Tryz.func113, Tryz.ntmps113
   go_wp2
   go_region
   all_goals go_wp2
   all_goals
    refine bodyPost_ret (v := .tuple #[.agg #[.slice (some ⟨w.heap.size + 2, 0, none⟩) 0 0], .int .i64 x, .bool true]) ?_ rfl ⟨_, rfl, ⟨⟨rfl, _, _, rfl, Nat.le_refl _, fun h => by omega⟩, fun k hk => by simp [Value.ownBlock] at hk; omega⟩, ?_⟩
    .simp [results, Tryz.results113, go_sem, *]
    .exact up0
  .go_enter Tryz.func113, Tryz.ntmps113
   go_wp2
   go_region
   all_goals go_wp2
   all_goals
    refine bodyPost_ret (v := .tuple #[.agg #[.slice (some ⟨w.heap.size + 2, 0, none⟩) 0 0], .int .i64 x, .bool true]) ?_ rfl ⟨_, rfl, ⟨⟨rfl, _, _, rfl, Nat.le_refl _, fun h => by omega⟩, fun k hk => by simp [Value.ownBlock] at hk; omega⟩, ?_⟩
    .simp [results, Tryz.results113, go_sem, *]
    .exact up0
 exact main cap hcap (Decidable.em _)
def xxa (kind : Int) (xs : List Int) (val : Int) : List Int × Bool := if xh2 kind xs.length = 0 then putS kind xs val else ([], false)
def x1y (kind : Int) (xs : List Int) : List Int × Int × Bool := if xh2 kind xs.length = 0 then (match xs with | [] => ([], 0, false) | x :: r => (if kind = 1 then x :: r else r, x, true)) else ([], 0, false)
theorem x57 (kind : Int) (xs : List Int) (v : Value) (val : Int) (w : World) (hS : Sl w 1 v xs.length (xar xs)) (c : Int) (hc : xh2 kind xs.length = c) (zs : List Int) (t : Bool) (hz : xxa kind xs val = (zs, t)) :
  Calls Tryz.prog 154 #[.int .i64 kind, .agg #[v], .int .i64 val] w fun e w' => ∃ v', e = .returned (.tuple #[.agg #[v'], .bool t, .int .i64 c]) /\ SlN w w' v' zs.length (xar zs) /\ Below w.heap.size w w' := by
 unfold xxa at hz
 by_cases h0 : c = 0
 .rw [hc, if_pos h0] at hz
  subst h0
  rcases xcy hc with ⟨rfl, hn⟩ | ⟨rfl, hn⟩
  .unfold putS at hz
   rw [if_pos rfl] at hz
   cases hz
   obtain ⟨ao, cap, rfl⟩ := hS.form
   exact x3r xs ao cap val w hn
  .unfold putS at hz
   rw [if_neg (by decide)] at hz
   by_cases h3 : xs.length = 3
   .rw [if_pos h3] at hz
    cases hz
    exact x0j xs v val w h3 hS
   .rw [if_neg h3] at hz
    cases hz
    exact x1t xs v val w om hS
 .rw [hc, if_neg h0] at hz
  cases hz
  obtain ⟨ao, cap, rfl⟩ := hS.form
  refine (x5e kind ao xs.length cap val w c hc h0).mono ?_
  rintro e w' ⟨rfl, hb⟩
  exact ⟨_, rfl, xni _ _, hb⟩
theorem x52 (kind : Int) (xs : List Int) (v : Value) (w : World) (hS : Sl w 1 v xs.length (xar xs)) (c : Int) (hc : xh2 kind xs.length = c) (zs : List Int) (n : Int) (t : Bool) (hz : x1y kind xs = (zs, n, t)) :
  Calls Tryz.prog 155 #[.int .i64 kind, .agg #[v]] w fun e w' => ∃ v', e = .returned (.tuple #[.agg #[v'], .int .i64 n, .bool t, .int .i64 c]) /\ SlN w w' v' zs.length (xar zs) /\ Below w.heap.size w w' := by
 unfold x1y at hz
 by_cases h0 : c = 0
 .rw [hc, if_pos h0] at hz
  subst h0
  have hk := xcy hc
  cases xs with
  | nil =>
   cases hz
   obtain ⟨ao, cap, rfl⟩ := hS.form
   refine (x0u kind om ao cap w).mono ?_
   rintro e w' ⟨rfl, hb⟩
   exact ⟨_, rfl, xni _ _, hb⟩
  | cons x r =>
   simp only [List.length_cons] at hk
   rcases hk with ⟨rfl, hn⟩ | ⟨rfl, hn⟩
   .obtain rfl : r = [] := List.length_eq_zero_iff.1 om
    cases hz
    exact xu2 _ v w hS
   .have hz : (r, x, true) = (zs, n, t) := hz
    cases hz
    exact xy6 _ _ om v w hS
 .rw [hc, if_neg h0] at hz
  cases hz
  obtain ⟨ao, cap, rfl⟩ := hS.form
  refine (x5h kind ao xs.length cap w c hc h0).mono ?_
  rintro e w' ⟨rfl, hb⟩
  exact ⟨_, rfl, xni _ _, hb⟩
theorem x12 (kind : Int) (xs : List Int) (v : Value) (val : Int) (w : World) (hS : Sl w 1 v xs.length (xar xs)) (hc : xh2 kind xs.length = 0) (zs : List Int) (t : Bool) (hz : xxa kind xs val = (zs, t)) :
  Calls Tryz.prog 112 #[.int .i64 kind, .agg #[v], .int .i64 val] w fun e w' => ∃ v', e = .returned (.tuple #[.agg #[v'], .bool t]) /\ SlN w w' v' zs.length (xar zs) /\ Below w.heap.size w w' := by
 unfold xxa at hz
 rw [if_pos hc] at hz
 rcases xcy hc with ⟨rfl, hn⟩ | ⟨rfl, hn⟩
 .unfold putS at hz
  rw [if_pos rfl] at hz
  cases hz
  obtain ⟨ao, cap, rfl⟩ := hS.form
  exact xv6 ao xs.length cap val w
 .unfold putS at hz
  rw [if_neg (by decide)] at hz
  by_cases h3 : xs.length = 3
  .rw [if_pos h3] at hz
   cases hz
   exact xq7 xs v val w h3 hS
  .rw [if_neg h3] at hz
   cases hz
   by_cases h1 : 0 < xs.length
   .exact xrn xs v val w h1 om hS
   .obtain rfl : xs = [] := List.length_eq_zero_iff.1 om
    obtain ⟨ao, cap, rfl⟩ := hS.form
    exact xo6 ao cap val w
theorem x0n (kind : Int) (xs : List Int) (v : Value) (w : World) (hS : Sl w 1 v xs.length (xar xs)) (hc : xh2 kind xs.length = 0) (zs : List Int) (n : Int) (t : Bool) (hz : x1y kind xs = (zs, n, t)) :
  Calls Tryz.prog 113 #[.int .i64 kind, .agg #[v]] w fun e w' => ∃ v', e = .returned (.tuple #[.agg #[v'], .int .i64 n, .bool t]) /\ SlN w w' v' zs.length (xar zs) /\ Below w.heap.size w w' := by
 unfold x1y at hz
 rw [if_pos hc] at hz
 have hk := xcy hc
 cases xs with
 | nil =>
  cases hz
  obtain ⟨ao, cap, rfl⟩ := hS.form
  refine (xry kind ao cap w).mono ?_
  rintro e w' ⟨rfl, hb⟩
  exact ⟨_, rfl, xni _ _, hb⟩
 | cons x r =>
  simp only [List.length_cons] at hk
  rcases hk with ⟨rfl, hn⟩ | ⟨rfl, hn⟩
  .obtain rfl : r = [] := List.length_eq_zero_iff.1 om
   cases hz
   exact xnl _ v w hS
  .have hz : (r, x, true) = (zs, n, t) := hz
   cases hz
   by_cases h1 : 0 < zs.length
   .exact xp0 _ _ om h1 v w hS
   .obtain rfl := List.length_eq_zero_iff.1 (show zs.length = 0 by omega)
    exact xq3 _ v w hS
end Go.Proofs.YtbkdoohhdkahiaaGreatDoor

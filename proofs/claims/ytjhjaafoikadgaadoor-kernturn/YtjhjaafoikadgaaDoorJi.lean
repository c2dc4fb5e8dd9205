/- Channels: the small calls on lines. -/
import Derived.Test.YtjhjaafoikadgaaDoorJa
import Derived.OneCell
import Derived.BigQuiet
namespace Go.Proofs.YtjhjaafoikadgaaDoor
set_option linter.unusedSimpArgs false
set_option linter.unusedVariables false
open Go.RowKit Go.Sort

/-- What Check tells of a line of so many numbers. -/
def chkL (kind : Int) (n : Nat) : Int := if kind = 1 then (if 1 < n then 2 else 0) else if kind = 2 then (if 3 < n then 2 else 0) else 4
theorem chkL_zero {kind : Int} {n : Nat} (h : chkL kind n = 0) : (kind = 1 ∧ n ≤ 1) ∨ (kind = 2 ∧ n ≤ 3) := by
  unfold chkL at h
  split at h
  · rename_i h1
    split at h
    · omega
    · omega
  · split at h
    · split at h
      · omega
      · omega
    · omega
def roomI (kind : Int) : Int := if kind = 1 then 1 else if kind = 2 then 3 else 0

theorem room_any (kind : Int) (w : World) : Calls Tryd.prog 83 #[.int .i64 kind] w fun e w' => e = .returned (.int .i64 (roomI kind)) ∧ w' = w := by
  unfold roomI
  by_cases h1 : kind = 1
  · subst h1
    go_enter Tryd.func83, Tryd.ntmps83
    go_wp2
    all_goals go_ret
    all_goals exact ⟨rfl, rfl⟩
  · by_cases h2 : kind = 2
    · subst h2
      go_enter Tryd.func83, Tryd.ntmps83
      go_wp2
      all_goals go_ret
      all_goals exact ⟨rfl, rfl⟩
    · rw [if_neg h1, if_neg h2]
      have h1' : (kind == 1) = false := by simpa using h1
      have h2' : (kind == 2) = false := by simpa using h2
      go_enter Tryd.func83, Tryd.ntmps83
      go_wp2
      all_goals go_ret
      all_goals exact ⟨rfl, rfl⟩

set_option maxHeartbeats 1000000 in
theorem chkLine_any (kind : Int) (ao : Option Addr) (n cap : Nat) (w : World) (c : Int) (hc : chkL kind n = c) : Calls Tryd.prog 60 #[.int .i64 kind, .agg #[.slice ao n cap]] w fun e w' => e = .returned (.int .i64 c) ∧ Below w.heap.size w w' := by
  subst hc
  unfold chkL
  by_cases h1 : kind = 1
  · subst h1
    go_enter Tryd.func60, Tryd.ntmps60
    go_wp2_with (go_at_call 83; refine (room_any _ _).mono ?_; rintro e w' ⟨rfl, rfl⟩; simp only [roomI])
    all_goals go_ret
    all_goals exact ⟨ret_int (by simp; try omega), (by repeat (first | exact Below.refl _ _ | assumption | refine Below.drew ?_ | refine Below.alloc ?_ (by first | (simp; done) | (simp; omega)) _ | refine Below.setCell ?_ (by first | (simp; done) | (simp; omega)) _))⟩
  · by_cases h2 : kind = 2
    · subst h2
      go_enter Tryd.func60, Tryd.ntmps60
      go_wp2_with (go_at_call 83; refine (room_any _ _).mono ?_; rintro e w' ⟨rfl, rfl⟩; simp only [roomI])
      all_goals go_ret
      all_goals exact ⟨ret_int (by simp; try omega), (by repeat (first | exact Below.refl _ _ | assumption | refine Below.drew ?_ | refine Below.alloc ?_ (by first | (simp; done) | (simp; omega)) _ | refine Below.setCell ?_ (by first | (simp; done) | (simp; omega)) _))⟩
    · have hr : roomI kind = 0 := by unfold roomI; rw [if_neg h1, if_neg h2]
      rw [if_neg h1, if_neg h2]
      go_enter Tryd.func60, Tryd.ntmps60
      go_wp2_with (go_at_call 83; refine (room_any _ _).mono ?_; rw [hr]; rintro e w' ⟨rfl, rfl⟩)
      all_goals go_ret
      all_goals exact ⟨rfl, (by repeat (first | exact Below.refl _ _ | assumption | refine Below.drew ?_ | refine Below.alloc ?_ (by first | (simp; done) | (simp; omega)) _ | refine Below.setCell ?_ (by first | (simp; done) | (simp; omega)) _))⟩

def kindL (kind : Int) : Bool := kind == 1 || kind == 2
theorem kind_any (kind : Int) (w : World) : Calls Tryd.prog 29 #[.int .i64 kind] w fun e w' => e = .returned (.bool (kindL kind)) ∧ w' = w := by
  unfold kindL
  generalize h1 : (kind == 1) = p
  generalize h2 : (kind == 2) = q
  cases p <;> cases q
  all_goals
    go_enter Tryd.func29, Tryd.ntmps29
    go_wp2
    all_goals go_ret
    all_goals exact ⟨rfl, rfl⟩

set_option maxHeartbeats 1000000 in
theorem chkLineRef_any (kind : Int) (ao : Option Addr) (n cap : Nat) (w : World) (c : Int) (hc : chkL kind n = c) : Calls Tryd.prog 35 #[.int .i64 kind, .agg #[.slice ao n cap]] w fun e w' => e = .returned (.int .i64 c) ∧ Below w.heap.size w w' := by
  subst hc
  unfold chkL
  by_cases h1 : kind = 1
  · subst h1
    go_enter Tryd.func35, Tryd.ntmps35
    go_wp2_with (go_at_call 29; refine (kind_any _ _).mono ?_; rintro e w' ⟨rfl, rfl⟩; rw [show kindL 1 = true from rfl])
    all_goals go_ret
    all_goals exact ⟨ret_int (by simp; try omega), (by repeat (first | exact Below.refl _ _ | assumption | refine Below.drew ?_ | refine Below.alloc ?_ (by first | (simp; done) | (simp; omega)) _ | refine Below.setCell ?_ (by first | (simp; done) | (simp; omega)) _))⟩
  · by_cases h2 : kind = 2
    · subst h2
      go_enter Tryd.func35, Tryd.ntmps35
      go_wp2_with (go_at_call 29; refine (kind_any _ _).mono ?_; rintro e w' ⟨rfl, rfl⟩; rw [show kindL 2 = true from rfl])
      all_goals go_ret
      all_goals exact ⟨ret_int (by simp; try omega), (by repeat (first | exact Below.refl _ _ | assumption | refine Below.drew ?_ | refine Below.alloc ?_ (by first | (simp; done) | (simp; omega)) _ | refine Below.setCell ?_ (by first | (simp; done) | (simp; omega)) _))⟩
    · have hr : kindL kind = false := by unfold kindL; simp [h1, h2]
      rw [if_neg h1, if_neg h2]
      go_enter Tryd.func35, Tryd.ntmps35
      go_wp2_with (go_at_call 29; refine (kind_any _ _).mono ?_; rw [hr]; rintro e w' ⟨rfl, rfl⟩)
      all_goals go_ret
      all_goals exact ⟨rfl, (by repeat (first | exact Below.refl _ _ | assumption | refine Below.drew ?_ | refine Below.alloc ?_ (by first | (simp; done) | (simp; omega)) _ | refine Below.setCell ?_ (by first | (simp; done) | (simp; omega)) _))⟩
end Go.Proofs.YtjhjaafoikadgaaDoor

namespace Go.Proofs.YtjhjaafoikadgaaDoor
set_option linter.unusedSimpArgs false
set_option linter.unusedVariables false
open Go.RowKit Go.Sort

theorem infoLn3 : (Tryd.prog.info? 3).map (fun i => (i.zero, i.size, i.bytes)) = some (some (.int .i64 0), 1, 8) := by kernel_rfl

set_option maxHeartbeats 1000000 in
theorem line_any (xs : List Int) (hx : xs.length ≤ 3) (v : Value) (w : World) (hS : Sl w 1 v xs.length (ints xs)) :
    Calls Tryd.prog 97 #[v] w fun e w' => ∃ v', e = .returned (.agg #[v']) ∧ w'.ownsRow (w.heap.size + 1) 3 1 v' xs.length (ints xs) ∧ Below w.heap.size w w' := by
  obtain ⟨i0, hi, hz0, hz1, hz2⟩ := info_parts infoLn3
  by_cases h0 : xs.length = 0
  · obtain ⟨ao, cap, rfl⟩ := hS.form
    rw [h0]
    have hxs : xs = [] := List.length_eq_zero_iff.1 h0
    subst hxs
    clear hS h0 hx
    go_enter Tryd.func97, Tryd.ntmps97
    cases ao
    all_goals
      go_wp2
      refine bodyPost_ret (v := .agg #[.slice none 0 0]) ?_ rfl ⟨_, rfl, World.ownsRow_nil _ _ _ _, (by repeat (first | exact Below.refl _ _ | assumption | refine Below.drew ?_ | refine Below.alloc ?_ (by first | (simp; done) | (simp; omega)) _ | refine Below.setCell ?_ (by first | (simp; done) | (simp; omega)) _))⟩
      simp [results, Tryd.results97, go_sem]
  · obtain ⟨b, off, cap, rfl, hcap, hbw, hc⟩ := hS.open (by omega)
    have HCC := Lib.hid hc
    clear hS hc
    go_enter Tryd.func97, Tryd.ntmps97
    go_wp2_with (at_builtin; refine wpList_append_lies _ rfl (.const (.slice none 0 0)) (.tmp 3) 52 rfl (w.heap.size + 1) 3 i0 (.int .i64 0) 1 8 Tryd.underlying52 hi hz0 hz1 hz2 rfl (by decide) (.slice none 0 0) 0 [] rfl (World.ownsRow_nil _ _ _ _) ⟨b, off, none⟩ xs.length cap (ints xs) rfl (by simp [ints]) (fun j u hj => ?_) (ints_cell xs) (by omega) (by unfold maxLen; omega) (by omega) (by simp) _ rfl ?_)
    · have hadd : (⟨b, off, none⟩ : Addr).add j = ⟨b, off + j, none⟩ := by
        unfold Addr.add
        by_cases h0 : j = 0 <;> simp [h0]
      rw [hadd]
      exact cl_alloc _ hbw (HCC.out j u hj)
    intro g cap1 w3 hown hgrow hat hglt
    have hu : Below w.heap.size w w3 := ((by repeat (first | exact Below.refl _ _ | assumption | refine Below.drew ?_ | refine Below.alloc ?_ (by first | (simp; done) | (simp; omega)) _ | refine Below.setCell ?_ (by first | (simp; done) | (simp; omega)) _)) : Below w.heap.size w _).grown hgrow (by simp) (fun k hk => by cases hk)
    have z0 : w3.cell? ⟨w.heap.size, 0, none⟩ = some (.slice none 0 0) := (hgrow.cell_far ⟨w.heap.size, 0, none⟩ (by simp) (by simp [Value.ownBlock])).trans (by simp)
    have y0 : w3.frozen? ⟨w.heap.size, 0, none⟩ = false := (hgrow.frozen_far ⟨w.heap.size, 0, none⟩ (by simp) (by simp [Value.ownBlock])).trans (by simp)
    have hown2 : w3.ownsRow (w.heap.size + 1) 3 1 (.slice (some ⟨g, 0, none⟩) xs.length cap1) xs.length (ints xs) := by simpa using hown
    have HO := Lib.hid hown2
    clear hown hown2 hgrow hat HCC
    go_wp2
    refine bodyPost_ret (v := .agg #[.slice (some ⟨g, 0, none⟩) xs.length cap1]) ?_ rfl ⟨_, rfl, ownsRow_setCell_below HO.out (by simp) _, hu.setCell (by simp) _⟩
    simp [results, Tryd.results97, go_sem, *]
end Go.Proofs.YtjhjaafoikadgaaDoor

namespace Go.Proofs.YtjhjaafoikadgaaDoor
set_option linter.unusedSimpArgs false
set_option linter.unusedVariables false
open Go.RowKit Go.Sort

/-- What lies there behind a Put, and whether it was taken. -/
def putS (kind : Int) (xs : List Int) (val : Int) : List Int × Bool := if kind = 1 then ([val], true) else if xs.length = 3 then (xs, false) else (xs ++ [val], true)

set_option maxHeartbeats 1000000 in
theorem put_no (kind : Int) (ao : Option Addr) (n cap : Nat) (val : Int) (w : World) (c : Int) (hc : chkL kind n = c) (h0 : c ≠ 0) :
    Calls Tryd.prog 87 #[.int .i64 kind, .agg #[.slice ao n cap], .int .i64 val] w fun e w' => e = .returned (.tuple #[.agg #[.slice none 0 0], .bool false, .int .i64 c]) ∧ Below w.heap.size w w' := by
  have h0' : (c != 0) = true := by simpa using h0
  clear h0
  go_enter Tryd.func87, Tryd.ntmps87
  go_wp2_with fail
  refine (chkLine_any kind ao n cap _ c hc).mono ?_
  rintro e w1 ⟨rfl, b1⟩
  have u1 : Below w.heap.size w w1 := Below.trans (by repeat (first | exact Below.refl _ _ | assumption | refine Below.drew ?_ | refine Below.alloc ?_ (by first | (simp; done) | (simp; omega)) _ | refine Below.setCell ?_ (by first | (simp; done) | (simp; omega)) _)) (b1.mono (by simp; omega))
  have z0 : w1.cell? ⟨w.heap.size + 1, 0, none⟩ = some (.slice none 0 0) := bcl b1 (by simp) (by simp)
  have y0 : w1.frozen? ⟨w.heap.size + 1, 0, none⟩ = false := bfr b1 (by simp) (by simp)
  clear b1
  go_wp2
  refine bodyPost_ret (v := .tuple #[.agg #[.slice none 0 0], .bool false, .int .i64 c]) ?_ rfl ⟨rfl, (by repeat (first | exact Below.refl _ _ | assumption | refine Below.drew ?_ | refine Below.alloc ?_ (by first | (simp; done) | (simp; omega)) _ | refine Below.setCell ?_ (by first | (simp; done) | (simp; omega)) _))⟩
  simp [results, Tryd.results87, go_sem, *]

set_option maxHeartbeats 2000000 in
theorem put_one (xs : List Int) (ao : Option Addr) (cap : Nat) (val : Int) (w : World) (hx : xs.length ≤ 1) :
    Calls Tryd.prog 87 #[.int .i64 1, .agg #[.slice ao xs.length cap], .int .i64 val] w fun e w' => ∃ v', e = .returned (.tuple #[.agg #[v'], .bool true, .int .i64 0]) ∧ SlN w w' v' 1 (ints [val]) ∧ Below w.heap.size w w' := by
  go_enter Tryd.func87, Tryd.ntmps87
  go_wp2_with fail
  refine (chkLine_any 1 ao xs.length cap _ 0 (by unfold chkL; simp; omega)).mono ?_
  rintro e w1 ⟨rfl, b1⟩
  have u1 : Below w.heap.size w w1 := Below.trans (by repeat (first | exact Below.refl _ _ | assumption | refine Below.drew ?_ | refine Below.alloc ?_ (by first | (simp; done) | (simp; omega)) _ | refine Below.setCell ?_ (by first | (simp; done) | (simp; omega)) _)) (b1.mono (by simp; omega))
  have s1 : w.heap.size + 2 ≤ w1.heap.size := by have := b1.size; simp at this; omega
  have z0 : w1.cell? ⟨w.heap.size + 1, 0, none⟩ = some (.slice none 0 0) := bcl b1 (by simp) (by simp)
  have y0 : w1.frozen? ⟨w.heap.size + 1, 0, none⟩ = false := bfr b1 (by simp) (by simp)
  clear b1
  go_wp2_with fail
  refine (line_any [val] (by simp) _ _ (sl_one _ _ _ _ (by simp))).mono ?_
  rintro e w2 ⟨v', rfl, o2, b2⟩
  have u2 : Below w.heap.size w w2 := Below.trans (u1.alloc (by omega) _) (b2.mono (by simp; omega))
  have z0 : w2.cell? ⟨w.heap.size + 1, 0, none⟩ = some (.slice none 0 0) := bcl b2 (by simp; omega) (cl_alloc _ (by omega) z0)
  have y0 : w2.frozen? ⟨w.heap.size + 1, 0, none⟩ = false := bfr b2 (by simp; omega) (fr_alloc _ (by omega) y0)
  have o2' := own_low o2 (show w.heap.size + 2 ≤ _ by simp; omega)
  obtain ⟨a2, c2, rfl⟩ := own_form o2
  have HO := Lib.hid o2'
  clear b2 o2 o2'
  go_wp2
  refine bodyPost_ret (v := .tuple #[.agg #[.slice a2 1 c2], .bool true, .int .i64 0]) ?_ rfl ⟨_, rfl, own_sln (by omega) (ownsRow_setCell_below HO.out (by simp) _), u2.setCell (by simp) _⟩
  simp [results, Tryd.results87, go_sem, *]

end Go.Proofs.YtjhjaafoikadgaaDoor

namespace Go.Proofs.YtjhjaafoikadgaaDoor
set_option linter.unusedSimpArgs false
set_option linter.unusedVariables false
open Go.RowKit Go.Sort

theorem room2 (w : World) : Calls Tryd.prog 83 #[.int .i64 2] w fun e w' => e = .returned (.int .i64 3) ∧ w' = w := room_any 2 w

theorem int_cellL (z : Int) : ∀ u ∈ [Value.int .i64 z], u.oneCell' = true := by
  intro u hu; simp at hu; subst hu; rfl

set_option maxHeartbeats 2000000 in
theorem put_full (xs : List Int) (v : Value) (val : Int) (w : World) (hx : xs.length = 3) (hS : Sl w 1 v xs.length (ints xs)) :
    Calls Tryd.prog 87 #[.int .i64 2, .agg #[v], .int .i64 val] w fun e w' => ∃ v', e = .returned (.tuple #[.agg #[v'], .bool false, .int .i64 0]) ∧ SlN w w' v' xs.length (ints xs) ∧ Below w.heap.size w w' := by
  obtain ⟨ao, cap, rfl⟩ := hS.form
  have HS := Lib.hid hS
  have HX := Lib.hid hx
  clear hS hx
  go_enter Tryd.func87, Tryd.ntmps87
  go_wp2_with fail
  refine (chkLine_any 2 ao xs.length cap _ 0 (by unfold chkL; simp; have := HX.out; omega)).mono ?_
  rintro e w1 ⟨rfl, b1⟩
  have u1 : Below w.heap.size w w1 := Below.trans (by repeat (first | exact Below.refl _ _ | assumption | refine Below.drew ?_ | refine Below.alloc ?_ (by first | (simp; done) | (simp; omega)) _ | refine Below.setCell ?_ (by first | (simp; done) | (simp; omega)) _)) (b1.mono (by simp; omega))
  have s1 : w.heap.size + 2 ≤ w1.heap.size := by have := b1.size; simp at this; omega
  have k0 : w1.cell? ⟨w.heap.size, 0, none⟩ = some (.slice ao xs.length cap) := bcl b1 (by simp; omega) (cl_alloc _ (by simp) (by simp))
  have z0 : w1.cell? ⟨w.heap.size + 1, 0, none⟩ = some (.slice none 0 0) := bcl b1 (by simp) (by simp)
  have y0 : w1.frozen? ⟨w.heap.size + 1, 0, none⟩ = false := bfr b1 (by simp) (by simp)
  clear b1
  go_wp2_with fail
  refine (line_any xs (by have := HX.out; omega) _ _ (HS.out.up u1)).mono ?_
  rintro e w2 ⟨v', rfl, o2, b2⟩
  have u2 : Below w.heap.size w w2 := Below.trans u1 (b2.mono (by omega))
  have s2 : w.heap.size + 2 ≤ w2.heap.size := by have := b2.size; omega
  have z0 : w2.cell? ⟨w.heap.size + 1, 0, none⟩ = some (.slice none 0 0) := bcl b2 (by omega) z0
  have y0 : w2.frozen? ⟨w.heap.size + 1, 0, none⟩ = false := bfr b2 (by omega) y0
  have o2' := own_low o2 (show w.heap.size + 2 ≤ _ by omega)
  obtain ⟨a2, c2, rfl⟩ := own_form o2
  have HO := Lib.hid o2'
  have q3 : ((xs.length : Int) == 3) = true := by simp; have := HX.out; omega
  have z0 : (w2.alloc (.cells #[.slice a2 xs.length c2] 59)).cell? ⟨w.heap.size + 1, 0, none⟩ = some (.slice none 0 0) := cl_alloc _ (by omega) z0
  have y0 : (w2.alloc (.cells #[.slice a2 xs.length c2] 59)).frozen? ⟨w.heap.size + 1, 0, none⟩ = false := fr_alloc _ (by omega) y0
  have hne : w.heap.size + 1 ≠ w2.heap.size := by omega
  have hne2 : w2.heap.size ≠ w.heap.size + 1 := by omega
  clear b2 o2 o2' k0
  go_wp2
  go_quiet ((go_at_call 83; refine Calls.quiet_of_same (room2 _)))
  go_wp2
  refine bodyPost_ret (v := .tuple #[.agg #[.slice a2 xs.length c2], .bool false, .int .i64 0]) ?_ rfl ⟨_, rfl, ?_, ?_⟩
  · simp [results, Tryd.results87, go_sem, *]
  · exact own_sln (by omega) (ownsRow_setCell_below (own_drewN (HO.out.alloc _) nq) (by simp) _)
  · exact (below_drewN (u2.alloc (by omega) _) nq).setCell (by simp) _
set_option maxHeartbeats 2000000 in
theorem put_room (xs : List Int) (v : Value) (val : Int) (w : World) (hx : xs.length < 3) (hS : Sl w 1 v xs.length (ints xs)) :
    Calls Tryd.prog 87 #[.int .i64 2, .agg #[v], .int .i64 val] w fun e w' => ∃ v', e = .returned (.tuple #[.agg #[v'], .bool true, .int .i64 0]) ∧ SlN w w' v' (xs ++ [val]).length (ints (xs ++ [val])) ∧ Below w.heap.size w w' := by
  obtain ⟨ao, cap, rfl⟩ := hS.form
  obtain ⟨i0, hi, hz0, hz1, hz2⟩ := info_parts infoLn3
  have HS := Lib.hid hS
  have HX := Lib.hid hx
  clear hS hx
  go_enter Tryd.func87, Tryd.ntmps87
  go_wp2_with fail
  refine (chkLine_any 2 ao xs.length cap _ 0 (by unfold chkL; simp; have := HX.out; omega)).mono ?_
  rintro e w1 ⟨rfl, b1⟩
  have u1 : Below w.heap.size w w1 := Below.trans (by repeat (first | exact Below.refl _ _ | assumption | refine Below.drew ?_ | refine Below.alloc ?_ (by first | (simp; done) | (simp; omega)) _ | refine Below.setCell ?_ (by first | (simp; done) | (simp; omega)) _)) (b1.mono (by simp; omega))
  have s1 : w.heap.size + 2 ≤ w1.heap.size := by have := b1.size; simp at this; omega
  have k0 : w1.cell? ⟨w.heap.size, 0, none⟩ = some (.slice ao xs.length cap) := bcl b1 (by simp; omega) (cl_alloc _ (by simp) (by simp))
  have z0 : w1.cell? ⟨w.heap.size + 1, 0, none⟩ = some (.slice none 0 0) := bcl b1 (by simp) (by simp)
  have y0 : w1.frozen? ⟨w.heap.size + 1, 0, none⟩ = false := bfr b1 (by simp) (by simp)
  clear b1
  go_wp2_with fail
  refine (line_any xs (by have := HX.out; omega) _ _ (HS.out.up u1)).mono ?_
  rintro e w2 ⟨v', rfl, o2, b2⟩
  have u2 : Below w.heap.size w w2 := Below.trans u1 (b2.mono (by omega))
  have s2 : w.heap.size + 2 ≤ w2.heap.size := by have := b2.size; omega
  have z0 : w2.cell? ⟨w.heap.size + 1, 0, none⟩ = some (.slice none 0 0) := bcl b2 (by omega) z0
  have y0 : w2.frozen? ⟨w.heap.size + 1, 0, none⟩ = false := bfr b2 (by omega) y0
  have o2' := own_low o2 (show w.heap.size + 2 ≤ _ by omega)
  obtain ⟨a2, c2, rfl⟩ := own_form o2
  have HO := Lib.hid o2'
  have q3 : ((xs.length : Int) == 3) = false := by simp; have := HX.out; omega
  have z0 : (w2.alloc (.cells #[.slice a2 xs.length c2] 59)).cell? ⟨w.heap.size + 1, 0, none⟩ = some (.slice none 0 0) := cl_alloc _ (by omega) z0
  have y0 : (w2.alloc (.cells #[.slice a2 xs.length c2] 59)).frozen? ⟨w.heap.size + 1, 0, none⟩ = false := fr_alloc _ (by omega) y0
  have hne : w.heap.size + 1 ≠ w2.heap.size := by omega
  have hne2 : w2.heap.size ≠ w.heap.size + 1 := by omega
  clear b2 o2 o2' k0
  go_wp2
  go_quiet ((go_at_call 83; refine Calls.quiet_of_same (room2 _)))
  have s3 : w2.heap.size < (w2.alloc (.cells #[.slice a2 xs.length c2] 59)).heap.size := by simp
  go_wp2_with (at_builtin; refine wpList_append_lies _ rfl (.tmp 34) (.tmp 36) 52 rfl (w.heap.size + 2) 3 i0 (.int .i64 0) 1 8 Tryd.underlying52 hi hz0 hz1 hz2 rfl (by decide) (.slice a2 xs.length c2) xs.length (ints xs) rfl ((own_drewN (HO.out.alloc _) nq).alloc _) ⟨_, 0, none⟩ 1 1 [.int .i64 val] rfl rfl (one_at _ _ 3 _ (by simp)) (int_cellL _) (by decide) (by have := HX.out; unfold maxLen; omega) (by have := HX.out; omega) (by simp; omega) _ rfl ?_)
  intro g cap1 w3 hown hgrow hat hglt
  have hkb := own_block (own_drewN (HO.out.alloc (.cells #[.slice a2 xs.length c2] 59)) nq)
  have hkl : ∀ k, Value.ownBlock (.slice a2 xs.length c2) = some k → k < w2.heap.size := fun k hk => (HO.out.lt k hk).2
  have hgn : g ≠ w2.heap.size := by
    intro e
    rcases hat with hat | hat
    · have := hkl g hat; omega
    · omega
  have hgb : w.heap.size + 2 ≤ g := by
    rcases hat with hat | hat
    · exact hkb g hat
    · omega
  have u3 : Below w.heap.size w w3 := ((below_drewN (u2.alloc (by omega) _) nq).alloc (by simp; omega) _).grown hgrow (by simp; omega) (fun k hk => by have := hkb k hk; omega)
  have hf1 : ∀ p : Addr, p.block < w2.heap.size + 1 → p.block = w.heap.size + 1 ∨ p.block = w2.heap.size → some p.block ≠ Value.ownBlock (.slice a2 xs.length c2) := by
    intro p hp hq e
    have h1 := hkb _ e.symm
    have h2 := hkl _ e.symm
    omega
  have z1 : w3.cell? ⟨w.heap.size + 1, 0, none⟩ = some (.slice none 0 0) := (hgrow.cell_far ⟨w.heap.size + 1, 0, none⟩ (by simp; omega) (hf1 _ (by simp; omega) (by simp))).trans (cl_alloc _ (by simp; omega) z0)
  have y1 : w3.frozen? ⟨w.heap.size + 1, 0, none⟩ = false := (hgrow.frozen_far ⟨w.heap.size + 1, 0, none⟩ (by simp; omega) (hf1 _ (by simp; omega) (by simp))).trans (fr_alloc _ (by simp; omega) y0)
  have z2 : w3.cell? ⟨w2.heap.size, 0, none⟩ = some (.slice a2 xs.length c2) := (hgrow.cell_far ⟨w2.heap.size, 0, none⟩ (by simp; omega) (hf1 _ (by simp) (by simp))).trans (cl_alloc _ (by simp) (by simp))
  have y2 : w3.frozen? ⟨w2.heap.size, 0, none⟩ = false := (hgrow.frozen_far ⟨w2.heap.size, 0, none⟩ (by simp; omega) (hf1 _ (by simp) (by simp))).trans (fr_alloc _ (by simp) (by simp))
  have hown2 : w3.ownsRow (w.heap.size + 2) 3 1 (.slice (some ⟨g, 0, none⟩) (xs.length + 1) cap1) (xs ++ [val]).length (ints (xs ++ [val])) := by simpa [ints] using hown
  have HW := Lib.hid hown2
  clear hown hown2 hgrow hat hkb hkl hf1 z0 y0
  go_wp2
  refine bodyPost_ret (v := .tuple #[.agg #[.slice (some ⟨g, 0, none⟩) (xs.length + 1) cap1], .bool true, .int .i64 0]) ?_ rfl ⟨_, rfl, ?_, ?_⟩
  · simp [results, Tryd.results87, go_sem, *]
  · exact own_sln (by omega) (ownsRow_setCell_below (ownsRow_setCell_other HW.out (by simp [Value.ownBlock]; omega) _) (by simp) _)
  · exact (u3.setCell (by simp; omega) _).setCell (by simp) _
end Go.Proofs.YtjhjaafoikadgaaDoor

/- conf.copied, of whatever it copies. -/
import Derived.Test.YtehhhiodfcdnmaaGreatDoorR4
import Derived.Test.YtehhhiodfcdnmaaGreatDoorR0
import Derived.Test.YtehhhiodfcdnmaaGreatDoorR1
namespace Go.Proofs.YtehhhiodfcdnmaaGreatDoor
set_option linter.unusedSimpArgs false
set_option linter.unusedVariables false
set_option maxRecDepth 100000
set_option maxHeartbeats 4000000
open Go.RowKit Go.Sort
theorem rowC_one {α : Type} {f : α → List Value} (h : ∀ x, ∀ u ∈ f x, u.oneCell' = true) (l : List α) : ∀ u ∈ rowC f l, u.oneCell' = true := by
 intro u hu
 unfold rowC at hu
 obtain ⟨x, _, hx⟩ := List.mem_flatMap.1 hu
 exact h x u hx
theorem chC_one (x : Chn) : ∀ u ∈ chC x, u.oneCell' = true := by
 intro u hu
 simp [chC] at hu
 rcases hu with rfl | rfl | rfl <;> rfl
theorem slC_one (x : Slt) : ∀ u ∈ slC x, u.oneCell' = true := by
 intro u hu
 simp [slC] at hu
 rcases hu with rfl | rfl <;> rfl
theorem ins_one (x : Ins) : ∀ u ∈ x.cells, u.oneCell' = true := by
 intro u hu
 simp [Ins.cells] at hu
 rcases hu with rfl | rfl | rfl | rfl <;> rfl
theorem codeC_one : ∀ l : List Ins, ∀ u ∈ codeC l, u.oneCell' = true
 | [], u, h => by cases h
 | i :: r, u, h => by
  rcases List.mem_append.1 h with h | h
  ·exact ins_one i u h
  ·exact codeC_one r u h
theorem infoChan : (Tryz.prog.info? 89).map (fun i => (i.zero, i.size, i.bytes)) = some (some (.agg #[.int .i64 0, .int .i64 0, .int .i64 0]), 3, 24) := by kernel_rfl
theorem copChan_any (l : List Chn) (hl : l.length ≤ 1000) (v : Value) (w : World) (hS : Sl w 3 v l.length (rowC chC l)) :
  Calls Tryz.prog 80 #[v] w fun e w' => ∃ v', e = .returned v' ∧ w'.ownsRow w.heap.size 89 3 v' l.length (rowC chC l) ∧ Below w.heap.size w w' := by
 obtain ⟨i0, hi, hz0, hz1, hz2⟩ := info_parts infoChan
 by_cases h0 : l.length = 0
 ·obtain ⟨ao, cap, rfl⟩ := hS.form
  have hxs : l = [] := List.length_eq_zero_iff.1 h0
  subst hxs
  clear hS h0 hl
  go_enter Tryz.func80, Tryz.ntmps80
  cases ao
  all_goals
   go_wp2
   go_ret
   exact ⟨_, rfl, World.ownsRow_nil _ _ _ _, Below.refl _ _⟩
 ·obtain ⟨b, off, cap, rfl, hcap, hbw, hc⟩ := hS.open om
  have HCC := hd hc
  clear hS hc
  go_enter Tryz.func80, Tryz.ntmps80
  go_wp2_with (at_builtin; refine wpList_append_lies _ rfl (.const (.slice none 0 0)) (.tmp 3) 23 rfl w.heap.size 89 i0 (.agg #[.int .i64 0, .int .i64 0, .int .i64 0]) 3 24 Tryz.underlying23 hi hz0 hz1 hz2 rfl (by decide) (.slice none 0 0) 0 [] rfl (World.ownsRow_nil _ _ _ _) ⟨b, off, none⟩ l.length cap (rowC chC l) rfl (rowC_len (f := chC) (s := 3) (fun _ => rfl) l) (sl_src HCC.out) (rowC_one chC_one l) om (by unfold maxLen; omega) om (Nat.le_refl _) _ rfl ?_)
  intro g cap1 w3 hown hgrow hat hglt
  have hu := hd ((Below.refl w.heap.size w).grown hgrow (Nat.le_refl _) (fun k hk => by cases hk))
  have hown2 : w3.ownsRow w.heap.size 89 3 (.slice (some ⟨g, 0, none⟩) l.length cap1) l.length (rowC chC l) := by simpa using hown
  have HO := hd hown2
  clear hown hown2 hgrow hat HCC
  try simp only [Nat.zero_add]
  go_wp2
  go_ret
  exact ⟨_, rfl, HO.out, hu.out⟩
theorem infoSlot : (Tryz.prog.info? 105).map (fun i => (i.zero, i.size, i.bytes)) = some (some (.agg #[.int .i64 0, .int .i64 0]), 2, 16) := by kernel_rfl
theorem copSlot_any (l : List Slt) (hl : l.length ≤ 1000) (v : Value) (w : World) (hS : Sl w 2 v l.length (rowC slC l)) :
  Calls Tryz.prog 81 #[v] w fun e w' => ∃ v', e = .returned v' ∧ w'.ownsRow w.heap.size 105 2 v' l.length (rowC slC l) ∧ Below w.heap.size w w' := by
 obtain ⟨i0, hi, hz0, hz1, hz2⟩ := info_parts infoSlot
 by_cases h0 : l.length = 0
 ·obtain ⟨ao, cap, rfl⟩ := hS.form
  have hxs : l = [] := List.length_eq_zero_iff.1 h0
  subst hxs
  clear hS h0 hl
  go_enter Tryz.func81, Tryz.ntmps81
  cases ao
  all_goals
   go_wp2
   go_ret
   exact ⟨_, rfl, World.ownsRow_nil _ _ _ _, Below.refl _ _⟩
 ·obtain ⟨b, off, cap, rfl, hcap, hbw, hc⟩ := hS.open om
  have HCC := hd hc
  clear hS hc
  go_enter Tryz.func81, Tryz.ntmps81
  go_wp2_with (at_builtin; refine wpList_append_lies _ rfl (.const (.slice none 0 0)) (.tmp 3) 24 rfl w.heap.size 105 i0 (.agg #[.int .i64 0, .int .i64 0]) 2 16 Tryz.underlying24 hi hz0 hz1 hz2 rfl (by decide) (.slice none 0 0) 0 [] rfl (World.ownsRow_nil _ _ _ _) ⟨b, off, none⟩ l.length cap (rowC slC l) rfl (rowC_len (f := slC) (s := 2) (fun _ => rfl) l) (sl_src HCC.out) (rowC_one slC_one l) om (by unfold maxLen; omega) om (Nat.le_refl _) _ rfl ?_)
  intro g cap1 w3 hown hgrow hat hglt
  have hu := hd ((Below.refl w.heap.size w).grown hgrow (Nat.le_refl _) (fun k hk => by cases hk))
  have hown2 : w3.ownsRow w.heap.size 105 2 (.slice (some ⟨g, 0, none⟩) l.length cap1) l.length (rowC slC l) := by simpa using hown
  have HO := hd hown2
  clear hown hown2 hgrow hat HCC
  try simp only [Nat.zero_add]
  go_wp2
  go_ret
  exact ⟨_, rfl, HO.out, hu.out⟩
theorem infoIns : (Tryz.prog.info? 83).map (fun i => (i.zero, i.size, i.bytes)) = some (some (.agg #[.int .i64 0, .int .i64 0, .int .i64 0, .int .i64 0]), 4, 32) := by kernel_rfl
theorem copIns_any (l : List Ins) (hl : l.length ≤ 1000) (v : Value) (w : World) (hS : Sl w 4 v l.length (codeC l)) :
  Calls Tryz.prog 82 #[v] w fun e w' => ∃ v', e = .returned v' ∧ w'.ownsRow w.heap.size 83 4 v' l.length (codeC l) ∧ Below w.heap.size w w' := by
 obtain ⟨i0, hi, hz0, hz1, hz2⟩ := info_parts infoIns
 by_cases h0 : l.length = 0
 ·obtain ⟨ao, cap, rfl⟩ := hS.form
  have hxs : l = [] := List.length_eq_zero_iff.1 h0
  subst hxs
  clear hS h0 hl
  go_enter Tryz.func82, Tryz.ntmps82
  cases ao
  all_goals
   go_wp2
   go_ret
   exact ⟨_, rfl, World.ownsRow_nil _ _ _ _, Below.refl _ _⟩
 ·obtain ⟨b, off, cap, rfl, hcap, hbw, hc⟩ := hS.open om
  have HCC := hd hc
  clear hS hc
  go_enter Tryz.func82, Tryz.ntmps82
  go_wp2_with (at_builtin; refine wpList_append_lies _ rfl (.const (.slice none 0 0)) (.tmp 3) 47 rfl w.heap.size 83 i0 (.agg #[.int .i64 0, .int .i64 0, .int .i64 0, .int .i64 0]) 4 32 Tryz.underlying47 hi hz0 hz1 hz2 rfl (by decide) (.slice none 0 0) 0 [] rfl (World.ownsRow_nil _ _ _ _) ⟨b, off, none⟩ l.length cap (codeC l) rfl (codeC_len l) (sl_src HCC.out) (codeC_one l) om (by unfold maxLen; omega) om (Nat.le_refl _) _ rfl ?_)
  intro g cap1 w3 hown hgrow hat hglt
  have hu := hd ((Below.refl w.heap.size w).grown hgrow (Nat.le_refl _) (fun k hk => by cases hk))
  have hown2 : w3.ownsRow w.heap.size 83 4 (.slice (some ⟨g, 0, none⟩) l.length cap1) l.length (codeC l) := by simpa using hown
  have HO := hd hown2
  clear hown hown2 hgrow hat HCC
  try simp only [Nat.zero_add]
  go_wp2
  go_ret
  exact ⟨_, rfl, HO.out, hu.out⟩
theorem infoIntC : (Tryz.prog.info? 3).map (fun i => (i.zero, i.size, i.bytes)) = some (some (.int .i64 0), 1, 8) := by kernel_rfl
theorem copInt_any (l : List Int) (hl : l.length ≤ 1000) (v : Value) (w : World) (hS : Sl w 1 v l.length (ints l)) :
  Calls Tryz.prog 83 #[v] w fun e w' => ∃ v', e = .returned v' ∧ w'.ownsRow w.heap.size 3 1 v' l.length (ints l) ∧ Below w.heap.size w w' := by
 obtain ⟨i0, hi, hz0, hz1, hz2⟩ := info_parts infoIntC
 by_cases h0 : l.length = 0
 ·obtain ⟨ao, cap, rfl⟩ := hS.form
  have hxs : l = [] := List.length_eq_zero_iff.1 h0
  subst hxs
  clear hS h0 hl
  go_enter Tryz.func83, Tryz.ntmps83
  cases ao
  all_goals
   go_wp2
   go_ret
   exact ⟨_, rfl, World.ownsRow_nil _ _ _ _, Below.refl _ _⟩
 ·obtain ⟨b, off, cap, rfl, hcap, hbw, hc⟩ := hS.open om
  have HCC := hd hc
  clear hS hc
  go_enter Tryz.func83, Tryz.ntmps83
  go_wp2_with (at_builtin; refine wpList_append_lies _ rfl (.const (.slice none 0 0)) (.tmp 3) 33 rfl w.heap.size 3 i0 (.int .i64 0) 1 8 Tryz.underlying33 hi hz0 hz1 hz2 rfl (by decide) (.slice none 0 0) 0 [] rfl (World.ownsRow_nil _ _ _ _) ⟨b, off, none⟩ l.length cap (ints l) rfl (by simp [ints]) (sl_src HCC.out) (ints_cell l) om (by unfold maxLen; omega) om (Nat.le_refl _) _ rfl ?_)
  intro g cap1 w3 hown hgrow hat hglt
  have hu := hd ((Below.refl w.heap.size w).grown hgrow (Nat.le_refl _) (fun k hk => by cases hk))
  have hown2 : w3.ownsRow w.heap.size 3 1 (.slice (some ⟨g, 0, none⟩) l.length cap1) l.length (ints l) := by simpa using hown
  have HO := hd hown2
  clear hown hown2 hgrow hat HCC
  try simp only [Nat.zero_add]
  go_wp2
  go_ret
  exact ⟨_, rfl, HO.out, hu.out⟩
def thE (S : SysD) (part : Int) : Int := if chkS S = 0 then (if withinB part 0 ((S.parts.length : Int) - 1) then 0 else 5) else chkS S
theorem smallT {S : SysD} (h : chkS S = 0) : S.parts.length ≤ 4 ∧ S.chans.length ≤ 6 := by
 unfold chkS at h
 cases hb : countsB S with
 | false => rw [if_pos hb] at h; omega
 | true => simp [countsB] at hb; omega
theorem thereT_any (S : SysD) (hok : S.ok) (vp vc vs : Value) (part : Int) (w : World) (hS : Sys w vp vc vs S) (c : Int) (hc : thE S part = c) :
  Calls Tryz.prog 37 #[.agg #[vp, vc, vs], .int .i64 part] w fun e w' => e = .returned (.int .i64 c) ∧ Below w.heap.size w w' := by
 obtain ⟨pa, pc, rfl⟩ := hS.p.form
 obtain ⟨ca, cc, rfl⟩ := hS.c.form
 obtain ⟨sa, sc, rfl⟩ := hS.s.form
 unfold thE at hc
 generalize hr : chkS S = r at hc
 have HS := hd hS
 have HR := hd hr
 clear hS hr
 go_enter Tryz.func37, Tryz.ntmps37
 go_wp2_with fail
 refine (sysRef_any S hok _ _ _ _ (HS.out.up up0)).mono ?_
 rw [HR.out]
 rintro e w1 ⟨rfl, bb⟩
 have k0 := ((box_new w (.slice pa S.parts.length pc) (.slice ca S.chans.length cc) (.slice sa S.slots.length sc) 26 _ rfl).up bb).p
 have D := hd (Below.trans (show Below w.heap.size w _ from up0) (bb.mono (by simp)))
 clear bb
 by_cases h0 : r = 0
 ·subst h0
  rw [if_pos rfl] at hc
  have sm := (smallT HR.out).1
  go_wp2_with fail
  refine (within_any part 0 ((S.parts.length : Int) - 1) _).mono ?_
  rintro e w2 ⟨rfl, rfl⟩
  cases hw : withinB part 0 ((S.parts.length : Int) - 1)
  all_goals
   rw [hw] at hc
   simp at hc
   subst hc
   go_wp2
   go_ret
   exact ⟨rfl, D.out⟩
 ·have h0' : (r != 0) = true := by simpa using h0
  rw [if_neg h0] at hc
  subst hc
  clear h0
  go_wp2
  go_ret
  exact ⟨rfl, D.out⟩
theorem ThereT_any (S : SysD) (hok : S.ok) (vp vc vs : Value) (part : Int) (w : World) (hS : Sys w vp vc vs S) (c : Int) (hc : thE S part = c) :
  Calls Tryz.prog 11 #[.agg #[vp, vc, vs], .int .i64 part] w fun e w' => e = .returned (.int .i64 c) ∧ Below w.heap.size w w' := by
 obtain ⟨pa, pc, rfl⟩ := hS.p.form
 obtain ⟨ca, cc, rfl⟩ := hS.c.form
 obtain ⟨sa, sc, rfl⟩ := hS.s.form
 have HS := hd hS
 have HC := hd hc
 clear hS hc
 go_enter Tryz.func11, Tryz.ntmps11
 go_wp2_with fail
 refine (thereT_any S hok _ _ _ part _ (HS.out.up up0) c HC.out).mono ?_
 rintro e w1 ⟨rfl, bb⟩
 have D := hd (Below.trans (show Below w.heap.size w _ from up0) (bb.mono (by simp)))
 clear bb
 go_wp2
 go_ret
 exact ⟨rfl, D.out⟩
theorem vcopChan_any (l : List Chn) (hl : l.length ≤ 1000) (v : Value) (w : World) (hS : Sl w 3 v l.length (rowC chC l)) :
  Calls Tryz.prog 86 #[v] w fun e w' => ∃ v', e = .returned v' ∧ w'.ownsRow w.heap.size 89 3 v' l.length (rowC chC l) ∧ Below w.heap.size w w' := by
 obtain ⟨i0, hi, hz0, hz1, hz2⟩ := info_parts infoChan
 by_cases h0 : l.length = 0
 ·obtain ⟨ao, cap, rfl⟩ := hS.form
  have hxs : l = [] := List.length_eq_zero_iff.1 h0
  subst hxs
  clear hS h0 hl
  go_enter Tryz.func86, Tryz.ntmps86
  cases ao
  all_goals
   go_wp2
   go_ret
   exact ⟨_, rfl, World.ownsRow_nil _ _ _ _, Below.refl _ _⟩
 ·obtain ⟨b, off, cap, rfl, hcap, hbw, hc⟩ := hS.open om
  have HCC := hd hc
  clear hS hc
  go_enter Tryz.func86, Tryz.ntmps86
  go_wp2_with (at_builtin; refine wpList_append_lies _ rfl (.const (.slice none 0 0)) (.tmp 3) 23 rfl w.heap.size 89 i0 (.agg #[.int .i64 0, .int .i64 0, .int .i64 0]) 3 24 Tryz.underlying23 hi hz0 hz1 hz2 rfl (by decide) (.slice none 0 0) 0 [] rfl (World.ownsRow_nil _ _ _ _) ⟨b, off, none⟩ l.length cap (rowC chC l) rfl (rowC_len (f := chC) (s := 3) (fun _ => rfl) l) (sl_src HCC.out) (rowC_one chC_one l) om (by unfold maxLen; omega) om (Nat.le_refl _) _ rfl ?_)
  intro g cap1 w3 hown hgrow hat hglt
  have hu := hd ((Below.refl w.heap.size w).grown hgrow (Nat.le_refl _) (fun k hk => by cases hk))
  have hown2 : w3.ownsRow w.heap.size 89 3 (.slice (some ⟨g, 0, none⟩) l.length cap1) l.length (rowC chC l) := by simpa using hown
  have HO := hd hown2
  clear hown hown2 hgrow hat HCC
  try simp only [Nat.zero_add]
  go_wp2
  go_ret
  exact ⟨_, rfl, HO.out, hu.out⟩
theorem vcopSlot_any (l : List Slt) (hl : l.length ≤ 1000) (v : Value) (w : World) (hS : Sl w 2 v l.length (rowC slC l)) :
  Calls Tryz.prog 87 #[v] w fun e w' => ∃ v', e = .returned v' ∧ w'.ownsRow w.heap.size 105 2 v' l.length (rowC slC l) ∧ Below w.heap.size w w' := by
 obtain ⟨i0, hi, hz0, hz1, hz2⟩ := info_parts infoSlot
 by_cases h0 : l.length = 0
 ·obtain ⟨ao, cap, rfl⟩ := hS.form
  have hxs : l = [] := List.length_eq_zero_iff.1 h0
  subst hxs
  clear hS h0 hl
  go_enter Tryz.func87, Tryz.ntmps87
  cases ao
  all_goals
   go_wp2
   go_ret
   exact ⟨_, rfl, World.ownsRow_nil _ _ _ _, Below.refl _ _⟩
 ·obtain ⟨b, off, cap, rfl, hcap, hbw, hc⟩ := hS.open om
  have HCC := hd hc
  clear hS hc
  go_enter Tryz.func87, Tryz.ntmps87
  go_wp2_with (at_builtin; refine wpList_append_lies _ rfl (.const (.slice none 0 0)) (.tmp 3) 24 rfl w.heap.size 105 i0 (.agg #[.int .i64 0, .int .i64 0]) 2 16 Tryz.underlying24 hi hz0 hz1 hz2 rfl (by decide) (.slice none 0 0) 0 [] rfl (World.ownsRow_nil _ _ _ _) ⟨b, off, none⟩ l.length cap (rowC slC l) rfl (rowC_len (f := slC) (s := 2) (fun _ => rfl) l) (sl_src HCC.out) (rowC_one slC_one l) om (by unfold maxLen; omega) om (Nat.le_refl _) _ rfl ?_)
  intro g cap1 w3 hown hgrow hat hglt
  have hu := hd ((Below.refl w.heap.size w).grown hgrow (Nat.le_refl _) (fun k hk => by cases hk))
  have hown2 : w3.ownsRow w.heap.size 105 2 (.slice (some ⟨g, 0, none⟩) l.length cap1) l.length (rowC slC l) := by simpa using hown
  have HO := hd hown2
  clear hown hown2 hgrow hat HCC
  try simp only [Nat.zero_add]
  go_wp2
  go_ret
  exact ⟨_, rfl, HO.out, hu.out⟩
theorem vcopIns_any (l : List Ins) (hl : l.length ≤ 1000) (v : Value) (w : World) (hS : Sl w 4 v l.length (codeC l)) :
  Calls Tryz.prog 85 #[v] w fun e w' => ∃ v', e = .returned v' ∧ w'.ownsRow w.heap.size 83 4 v' l.length (codeC l) ∧ Below w.heap.size w w' := by
 obtain ⟨i0, hi, hz0, hz1, hz2⟩ := info_parts infoIns
 by_cases h0 : l.length = 0
 ·obtain ⟨ao, cap, rfl⟩ := hS.form
  have hxs : l = [] := List.length_eq_zero_iff.1 h0
  subst hxs
  clear hS h0 hl
  go_enter Tryz.func85, Tryz.ntmps85
  cases ao
  all_goals
   go_wp2
   go_ret
   exact ⟨_, rfl, World.ownsRow_nil _ _ _ _, Below.refl _ _⟩
 ·obtain ⟨b, off, cap, rfl, hcap, hbw, hc⟩ := hS.open om
  have HCC := hd hc
  clear hS hc
  go_enter Tryz.func85, Tryz.ntmps85
  go_wp2_with (at_builtin; refine wpList_append_lies _ rfl (.const (.slice none 0 0)) (.tmp 3) 47 rfl w.heap.size 83 i0 (.agg #[.int .i64 0, .int .i64 0, .int .i64 0, .int .i64 0]) 4 32 Tryz.underlying47 hi hz0 hz1 hz2 rfl (by decide) (.slice none 0 0) 0 [] rfl (World.ownsRow_nil _ _ _ _) ⟨b, off, none⟩ l.length cap (codeC l) rfl (codeC_len l) (sl_src HCC.out) (codeC_one l) om (by unfold maxLen; omega) om (Nat.le_refl _) _ rfl ?_)
  intro g cap1 w3 hown hgrow hat hglt
  have hu := hd ((Below.refl w.heap.size w).grown hgrow (Nat.le_refl _) (fun k hk => by cases hk))
  have hown2 : w3.ownsRow w.heap.size 83 4 (.slice (some ⟨g, 0, none⟩) l.length cap1) l.length (codeC l) := by simpa using hown
  have HO := hd hown2
  clear hown hown2 hgrow hat HCC
  try simp only [Nat.zero_add]
  go_wp2
  go_ret
  exact ⟨_, rfl, HO.out, hu.out⟩
theorem vcopInt_any (l : List Int) (hl : l.length ≤ 1000) (v : Value) (w : World) (hS : Sl w 1 v l.length (ints l)) :
  Calls Tryz.prog 32 #[v] w fun e w' => ∃ v', e = .returned v' ∧ w'.ownsRow w.heap.size 3 1 v' l.length (ints l) ∧ Below w.heap.size w w' := by
 obtain ⟨i0, hi, hz0, hz1, hz2⟩ := info_parts infoIntC
 by_cases h0 : l.length = 0
 ·obtain ⟨ao, cap, rfl⟩ := hS.form
  have hxs : l = [] := List.length_eq_zero_iff.1 h0
  subst hxs
  clear hS h0 hl
  go_enter Tryz.func32, Tryz.ntmps32
  cases ao
  all_goals
   go_wp2
   go_ret
   exact ⟨_, rfl, World.ownsRow_nil _ _ _ _, Below.refl _ _⟩
 ·obtain ⟨b, off, cap, rfl, hcap, hbw, hc⟩ := hS.open om
  have HCC := hd hc
  clear hS hc
  go_enter Tryz.func32, Tryz.ntmps32
  go_wp2_with (at_builtin; refine wpList_append_lies _ rfl (.const (.slice none 0 0)) (.tmp 3) 33 rfl w.heap.size 3 i0 (.int .i64 0) 1 8 Tryz.underlying33 hi hz0 hz1 hz2 rfl (by decide) (.slice none 0 0) 0 [] rfl (World.ownsRow_nil _ _ _ _) ⟨b, off, none⟩ l.length cap (ints l) rfl (by simp [ints]) (sl_src HCC.out) (ints_cell l) om (by unfold maxLen; omega) om (Nat.le_refl _) _ rfl ?_)
  intro g cap1 w3 hown hgrow hat hglt
  have hu := hd ((Below.refl w.heap.size w).grown hgrow (Nat.le_refl _) (fun k hk => by cases hk))
  have hown2 : w3.ownsRow w.heap.size 3 1 (.slice (some ⟨g, 0, none⟩) l.length cap1) l.length (ints l) := by simpa using hown
  have HO := hd hown2
  clear hown hown2 hgrow hat HCC
  try simp only [Nat.zero_add]
  go_wp2
  go_ret
  exact ⟨_, rfl, HO.out, hu.out⟩
theorem enVcopIns : Enters 85 := enters Tryz.func85 kr kr
theorem enVcopInt : Enters 32 := enters Tryz.func32 kr kr
theorem enVcopChan : Enters 86 := enters Tryz.func86 kr kr
theorem enVcopSlot : Enters 87 := enters Tryz.func87 kr kr
def isPB (S : SysD) (n : Int) : Bool := decide (0 ≤ n) && decide (n < S.parts.length)
theorem visPart_any (S : SysD) (vp vc vs : Value) (n : Int) (w : World) (hS : Sys w vp vc vs S) (r : Bool) (hr : isPB S n = r) :
  Calls Tryz.prog 31 #[.agg #[vp, vc, vs], .int .i64 n] w fun e w' => e = .returned (.bool r) ∧ Below w.heap.size w w' := by
 obtain ⟨pa, pc, rfl⟩ := hS.p.form
 obtain ⟨ca, cc, rfl⟩ := hS.c.form
 obtain ⟨sa, sc, rfl⟩ := hS.s.form
 have HD : Hid (Below w.heap.size w (w.alloc (.cells #[.slice pa S.parts.length pc, .slice ca S.chans.length cc, .slice sa S.slots.length sc] 26))) := hd ((Below.refl _ _).alloc (Nat.le_refl _) _)
 have HR := hd hr
 clear hS hr
 by_cases h0 : 0 ≤ n
 ·have e1 : Hid (decide (n < (S.parts.length : Int)) = r) := hd (by rw [← HR.out]; simp [isPB, h0])
  go_enter Tryz.func31, Tryz.ntmps31
  go_wp2
  go_ret
  exact ⟨ret_bool e1.out, HD.out⟩
 ·have e1 : Hid (false = r) := hd (by rw [← HR.out]; simp [isPB, h0])
  have h0' : decide (0 ≤ n) = false := by simpa using h0
  go_enter Tryz.func31, Tryz.ntmps31
  go_wp2
  go_ret
  exact ⟨ret_bool e1.out, HD.out⟩
theorem isPB_th {S : SysD} (h : chkS S = 0) (n : Int) : thE S n = if isPB S n = true then 0 else 5 := by
 unfold thE isPB withinB
 rw [if_pos h]
 by_cases h1 : 0 ≤ n ∧ n < S.parts.length
 ·rw [if_pos so, if_pos so]
 ·rw [if_neg so, if_neg so]
theorem vcheckPart_any (S : SysD) (vp vc vs : Value) (n : Int) (w : World) (he : Env w) (hS : Sys w vp vc vs S) (r : Int) (hr : thE S n = r) :
  Calls Tryz.prog 44 #[.agg #[vp, vc, vs], .int .i64 n] w fun e w' => e = .returned (.int .i64 r) ∧ Below w.heap.size w w' := by
 obtain ⟨pa, pc, rfl⟩ := hS.p.form
 obtain ⟨ca, cc, rfl⟩ := hS.c.form
 obtain ⟨sa, sc, rfl⟩ := hS.s.form
 have HE := hd he
 have HS := hd hS
 have HR := hd hr
 clear he hS hr
 go_enter Tryz.func44, Tryz.ntmps44
 go_wp2_with fail
 refine (confCheck_any S _ _ _ _ (HE.out.up up0) (HS.out.up up0)).mono ?_
 rintro e w1 ⟨rfl, b1⟩
 have z1 := b1.size
 simp at z1
 have R0 : Hid (Rw w1 w.heap.size 26 #[.slice pa S.parts.length pc, .slice ca S.chans.length cc, .slice sa S.slots.length sc]) := Rw.up rn0 b1 o3
 have HB : Hid (Below w.heap.size w w1) := by
  refine Below.trans ?_ (b1.mono o3)
  exact up0
 clear b1
 by_cases hk : chkS S = 0
 ·have e1 := isPB_th hk n
  rw [HR.out] at e1
  have E1 := hd e1
  obtain ⟨q, hq⟩ : ∃ q, isPB S n = q := ⟨_, rfl⟩
  rw [hq] at E1
  have s0 := R0.out.cell (j := 0) (v := .slice pa S.parts.length pc) rfl
  have s1 := R0.out.cell (j := 1) (v := .slice ca S.chans.length cc) rfl
  have s2 := R0.out.cell (j := 2) (v := .slice sa S.slots.length sc) rfl
  rw [hk]
  clear hk e1
  go_wp2_with fail
  refine (visPart_any S _ _ _ n _ (HS.out.up HB.out) q hq).mono ?_
  rintro e w2 ⟨rfl, b2⟩
  have HB2 := hd (HB.out.trans (b2.mono HB.out.size))
  clear b2 s0 s1 s2 hq
  cases q with
  | true =>
   have e2 : r = 0 := E1.out
   subst e2
   go_wp2
   go_ret
   exact ⟨rfl, HB2.out⟩
  | false =>
   have e2 : r = 5 := E1.out
   subst e2
   go_wp2
   go_ret
   exact ⟨rfl, HB2.out⟩
 ·have hkb : (chkS S == 0) = false := by simpa using hk
  have e2 : r = chkS S := by rw [← HR.out]; unfold thE; rw [if_neg hk]
  subst e2
  clear hk
  go_wp2
  go_ret
  exact ⟨rfl, HB.out⟩
def chkL (kind : Int) (n : Nat) : Int := if kind = 1 then (if 1 < n then 2 else 0) else if kind = 2 then (if 3 < n then 2 else 0) else 4
theorem chkL_zero {kind : Int} {n : Nat} (h : chkL kind n = 0) : (kind = 1 ∧ n ≤ 1) ∨ (kind = 2 ∧ n ≤ 3) := by
 unfold chkL at h
 split at h
 ·rename_i h1
  split at h
  ·omega
  ·omega
 ·split at h
  ·split at h
   ·omega
   ·omega
  ·omega
def roomI (kind : Int) : Int := if kind = 1 then 1 else if kind = 2 then 3 else 0
theorem room_any (kind : Int) (w : World) : Calls Tryz.prog 146 #[.int .i64 kind] w fun e w' => e = .returned (.int .i64 (roomI kind)) ∧ w' = w := by
 unfold roomI
 by_cases h1 : kind = 1
 ·subst h1
  go_enter Tryz.func146, Tryz.ntmps146
  go_wp2
  all_goals go_ret
  all_goals exact ⟨rfl, rfl⟩
 ·by_cases h2 : kind = 2
  ·subst h2
   go_enter Tryz.func146, Tryz.ntmps146
   go_wp2
   all_goals go_ret
   all_goals exact ⟨rfl, rfl⟩
  ·rw [if_neg h1, if_neg h2]
   have h1' : (kind == 1) = false := by simpa using h1
   have h2' : (kind == 2) = false := by simpa using h2
   go_enter Tryz.func146, Tryz.ntmps146
   go_wp2
   all_goals go_ret
   all_goals exact ⟨rfl, rfl⟩
theorem chkLine_any (kind : Int) (ao : Option Addr) (n cap : Nat) (w : World) (c : Int) (hc : chkL kind n = c) : Calls Tryz.prog 116 #[.int .i64 kind, .agg #[.slice ao n cap]] w fun e w' => e = .returned (.int .i64 c) ∧ Below w.heap.size w w' := by
 subst hc
 unfold chkL
 by_cases h1 : kind = 1
 ·subst h1
  go_enter Tryz.func116, Tryz.ntmps116
  go_wp2_with (go_at_call 146; refine (room_any _ _).mono ?_; rintro e w' ⟨rfl, rfl⟩; simp only [roomI])
  all_goals go_ret
  all_goals exact ⟨ret_int (by simp; try omega), up0⟩
 ·by_cases h2 : kind = 2
  ·subst h2
   go_enter Tryz.func116, Tryz.ntmps116
   go_wp2_with (go_at_call 146; refine (room_any _ _).mono ?_; rintro e w' ⟨rfl, rfl⟩; simp only [roomI])
   all_goals go_ret
   all_goals exact ⟨ret_int (by simp; try omega), up0⟩
  ·have hr : roomI kind = 0 := by unfold roomI; rw [if_neg h1, if_neg h2]
   rw [if_neg h1, if_neg h2]
   go_enter Tryz.func116, Tryz.ntmps116
   go_wp2_with (go_at_call 146; refine (room_any _ _).mono ?_; rw [hr]; rintro e w' ⟨rfl, rfl⟩)
   all_goals go_ret
   all_goals exact ⟨rfl, up0⟩
def kindL (kind : Int) : Bool := kind == 1 || kind == 2
theorem kind_any (kind : Int) (w : World) : Calls Tryz.prog 77 #[.int .i64 kind] w fun e w' => e = .returned (.bool (kindL kind)) ∧ w' = w := by
 unfold kindL
 generalize h1 : (kind == 1) = p
 generalize h2 : (kind == 2) = q
 cases p <;> cases q
 all_goals
  go_enter Tryz.func77, Tryz.ntmps77
  go_wp2
  all_goals go_ret
  all_goals exact ⟨rfl, rfl⟩
theorem chkLineRef_any (kind : Int) (ao : Option Addr) (n cap : Nat) (w : World) (c : Int) (hc : chkL kind n = c) : Calls Tryz.prog 36 #[.int .i64 kind, .agg #[.slice ao n cap]] w fun e w' => e = .returned (.int .i64 c) ∧ Below w.heap.size w w' := by
 subst hc
 unfold chkL
 by_cases h1 : kind = 1
 ·subst h1
  go_enter Tryz.func36, Tryz.ntmps36
  go_wp2_with (go_at_call 77; refine (kind_any _ _).mono ?_; rintro e w' ⟨rfl, rfl⟩; rw [show kindL 1 = true from rfl])
  all_goals go_ret
  all_goals exact ⟨ret_int (by simp; try omega), up0⟩
 ·by_cases h2 : kind = 2
  ·subst h2
   go_enter Tryz.func36, Tryz.ntmps36
   go_wp2_with (go_at_call 77; refine (kind_any _ _).mono ?_; rintro e w' ⟨rfl, rfl⟩; rw [show kindL 2 = true from rfl])
   all_goals go_ret
   all_goals exact ⟨ret_int (by simp; try omega), up0⟩
  ·have hr : kindL kind = false := by unfold kindL; simp [h1, h2]
   rw [if_neg h1, if_neg h2]
   go_enter Tryz.func36, Tryz.ntmps36
   go_wp2_with (go_at_call 77; refine (kind_any _ _).mono ?_; rw [hr]; rintro e w' ⟨rfl, rfl⟩)
   all_goals go_ret
   all_goals exact ⟨rfl, up0⟩
structure Cel where
 at_ : Int
 r0 : Int
 r1 : Int
 r2 : Int
 r3 : Int
 m0 : Int
 m1 : Int
 m2 : Int
 m3 : Int
 m4 : Int
 m5 : Int
 m6 : Int
 m7 : Int
 read : Int
 en : Int
def Cel.v (c : Cel) (o : Value) : Value := .agg #[.int .i64 c.at_, .int .i64 c.r0, .int .i64 c.r1, .int .i64 c.r2, .int .i64 c.r3, .int .i64 c.m0, .int .i64 c.m1, .int .i64 c.m2, .int .i64 c.m3, .int .i64 c.m4, .int .i64 c.m5, .int .i64 c.m6, .int .i64 c.m7, .int .i64 c.read, o, .int .i64 c.en]
def Cel.fine (c : Cel) (n : Nat) : Bool := decide (0 ≤ c.at_) && decide (c.at_ ≤ 20) && (decide (0 ≤ c.read) && decide (c.read ≤ 12)) && (decide (0 ≤ c.en) && decide (c.en ≤ 2)) && decide (n ≤ 16)
def Cel.err (c : Cel) (n : Nat) : Int := if c.fine n then 0 else 1
theorem fine_iff (c : Cel) (n : Nat) : c.fine n = true ↔ (0 ≤ c.at_ ∧ c.at_ ≤ 20 ∧ 0 ≤ c.read ∧ c.read ≤ 12 ∧ 0 ≤ c.en ∧ c.en ≤ 2 ∧ n ≤ 16) := by
 unfold Cel.fine; simp only [Bool.and_eq_true, decide_eq_true_eq]; omega
theorem err_yes {c : Cel} {n : Nat} (h : 0 ≤ c.at_ ∧ c.at_ ≤ 20 ∧ 0 ≤ c.read ∧ c.read ≤ 12 ∧ 0 ≤ c.en ∧ c.en ≤ 2 ∧ n ≤ 16) : (0 : Int) = c.err n := by
 unfold Cel.err; rw [(fine_iff c n).2 h]; rfl
theorem err_no {c : Cel} {n : Nat} (h : ¬ (0 ≤ c.at_ ∧ c.at_ ≤ 20 ∧ 0 ≤ c.read ∧ c.read ≤ 12 ∧ 0 ≤ c.en ∧ c.en ≤ 2 ∧ n ≤ 16)) : (1 : Int) = c.err n := by
 unfold Cel.err; rw [if_neg (fun e => h ((fine_iff c n).1 e))]
theorem cellCheck_any (c : Cel) (ao : Option Addr) (n cap : Nat) (w : World) : Calls Tryz.prog 115 #[c.v (.slice ao n cap)] w fun e w' => e = .returned (.int .i64 (c.err n)) ∧ Below w.heap.size w w' := by
 unfold Cel.v
 go_enter Tryz.func115, Tryz.ntmps115
 go_wp2
 all_goals go_ret
 all_goals refine ⟨ret_int ?_, up0⟩
 all_goals first
  | (refine err_no ?_; simp_all; omega)
  | (refine err_no ?_; omega)
  | (refine err_yes ?_; omega)
  | (refine err_no ?_; simp_all; done)
  | (refine err_yes ?_; rename_i h1 h2; simp only [bne_eq_false_iff_eq] at h1; omega)
  | (exfalso; simp_all; done)
theorem cellFine_any (c : Cel) (ao : Option Addr) (n cap : Nat) (w : World) : Calls Tryz.prog 35 #[c.v (.slice ao n cap)] w fun e w' => e = .returned (.bool (c.fine n)) ∧ Below w.heap.size w w' := by
 unfold Cel.v
 have hf : c.fine n = (withinB c.at_ 0 20 && withinB c.read 0 12 && withinB c.en 0 2 && decide ((n : Int) ≤ 16)) := by
  unfold Cel.fine withinB
  congr 1
  simp
  omega
 go_enter Tryz.func35, Tryz.ntmps35
 go_wp2_with (go_at_call 34; refine (within_any _ _ _ _).mono ?_; rintro e w' ⟨rfl, rfl⟩)
 all_goals go_ret
 all_goals refine ⟨ret_bool ?_, up0⟩
 all_goals (rw [hf]; simp_all)
theorem eq26 (a b c d : Int) (w : World) : (Op.equalIn 10000 31 (.agg #[.int .i64 a, .int .i64 b, .int .i64 c, .int .i64 d]) (.agg #[.int .i64 a, .int .i64 b, .int .i64 c, .int .i64 d])).run Tryz.prog w = .ok true w := by
 have u3 := Tryz.underlying3
 have a3 := Tryz.isAgg3
 have z3 := Tryz.sizeOf3
 rw [show (10000 : Nat) = 9999 + 1 from rfl, Op.equalIn]
 simp only [Sem.run_bind, run_underlying Tryz.underlying31, Result.andThen_ok]
 simp only [Std.Legacy.Range.forIn_eq_forIn_range', Std.Legacy.Range.size, Nat.sub_zero, Nat.add_sub_cancel, Nat.div_one, List.range'_succ, List.range'_zero, List.forIn_cons, List.forIn_nil]
 go_simp
theorem eq27 (a b c d e f g h : Int) (w : World) : (Op.equalIn 10000 32 (.agg #[.int .i64 a, .int .i64 b, .int .i64 c, .int .i64 d, .int .i64 e, .int .i64 f, .int .i64 g, .int .i64 h]) (.agg #[.int .i64 a, .int .i64 b, .int .i64 c, .int .i64 d, .int .i64 e, .int .i64 f, .int .i64 g, .int .i64 h])).run Tryz.prog w = .ok true w := by
 have u3 := Tryz.underlying3
 have a3 := Tryz.isAgg3
 have z3 := Tryz.sizeOf3
 rw [show (10000 : Nat) = 9999 + 1 from rfl, Op.equalIn]
 simp only [Sem.run_bind, run_underlying Tryz.underlying32, Result.andThen_ok]
 simp only [Std.Legacy.Range.forIn_eq_forIn_range', Std.Legacy.Range.size, Nat.sub_zero, Nat.add_sub_cancel, Nat.div_one, List.range'_succ, List.range'_zero, List.forIn_cons, List.forIn_nil]
 go_simp
theorem sameCells_yes (c : Cel) (xs : List Int) (v u : Value) (w : World) (hx : Sl w 1 v xs.length (ints xs)) (hy : Sl w 1 u xs.length (ints xs)) (hm : xs.length < 4294967281) :
  Calls Tryz.prog 42 #[c.v v, c.v u] w fun e w' => e = .returned (.bool true) ∧ Below w.heap.size w w' := by
 unfold Cel.v
 have HX := hd hx
 have HY := hd hy
 clear hx hy
 have q26 := eq26 c.r0 c.r1 c.r2 c.r3
 have q27 := eq27 c.m0 c.m1 c.m2 c.m3 c.m4 c.m5 c.m6 c.m7
 go_enter Tryz.func42, Tryz.ntmps42
 go_wp2_with (go_at_call 41; refine (sameInts_any xs xs _ _ _ (HX.out.up up0) (HY.out.up up0) hm true (by simp)).mono ?_; rintro e w1 ⟨rfl, b1⟩)
 go_ret
 refine ⟨rfl, Below.trans ?_ (b1.mono so)⟩
 exact up0
theorem bit_any (b : Bool) (w : World) : Calls Tryz.prog 145 #[.bool b] w fun e w' => e = .returned (.int .i64 (if b then 1 else 0)) ∧ w' = w := by
 cases b
 all_goals
  go_enter Tryz.func145, Tryz.ntmps145
  go_wp2
  go_ret
  exact ⟨rfl, rfl⟩
theorem truth_any (b : Bool) (w : World) : Calls Tryz.prog 114 #[.bool b] w fun e w' => e = .returned (.int .i64 (if b then 1 else 0)) ∧ w' = w := by
 cases b
 all_goals
  go_enter Tryz.func114, Tryz.ntmps114
  go_wp2
  go_ret
  exact ⟨rfl, rfl⟩
def kindB (k : Int) : Bool := k == 1 || k == 2
theorem cellReg_any (a : Int) (w : World) : Calls Tryz.prog 166 #[.int .i64 a] w fun e w' => e = .returned (.bool (regB a)) ∧ w' = w := by
 by_cases h : 0 ≤ a
 all_goals
 go_enter Tryz.func166, Tryz.ntmps166
 go_wp2
 all_goals go_ret
 all_goals exact ⟨ret_bool (by simp [regB]; try omega), rfl⟩
def replyE (f : Bool) (k reg flag kind : Int) : Int := if !f then 1 else if (k != 12 && k != 13) || !kindB kind then 4 else if !regB reg || !regB flag then 3 else 0
def wantV (k ch reg flag val : Int) : Value := .agg #[.int .i64 k, .int .i64 ch, .int .i64 reg, .int .i64 flag, .int .i64 val]
theorem checkReply_any (c : Cel) (ao : Option Addr) (n cap : Nat) (k ch reg flag val kind : Int) (f : Bool) (hf : c.fine n = f) (w : World) :
  Calls Tryz.prog 144 #[c.v (.slice ao n cap), wantV k ch reg flag val, .int .i64 kind] w fun e w' => e = .returned (.int .i64 (replyE f k reg flag kind)) ∧ Below w.heap.size w w' := by
 have he : c.err n = if f then 0 else 1 := by rw [← hf]; rfl
 have hcc : ∀ w, Calls Tryz.prog 115 #[c.v (.slice ao n cap)] w fun e w' => e = .returned (.int .i64 (if f then 0 else 1)) ∧ Below w.heap.size w w' := fun w => he ▸ cellCheck_any c ao n cap w
 have HC := hd hcc
 clear he hf hcc
 unfold Cel.v at HC
 unfold Cel.v wantV
 cases f
 ·go_enter Tryz.func144, Tryz.ntmps144
  go_wp2_with fail
  refine (HC.out _).mono ?_
  rintro e w1 ⟨rfl, b1⟩
  go_wp2
  go_ret
  refine ⟨rfl, Below.trans ?_ (b1.mono so)⟩
  exact up0
 ·go_enter Tryz.func144, Tryz.ntmps144
  go_wp2_with fail
  refine (HC.out _).mono ?_
  rintro e w1 ⟨rfl, b1⟩
  have a0 : w1.cell? ⟨w.heap.size + 1, 0, none⟩ = some (.int .i64 k) := bcl b1 (by simp) (by simp)
  have a2 : w1.cell? ⟨w.heap.size + 1, 2, none⟩ = some (.int .i64 reg) := bcl b1 (by simp) (by simp)
  have a3 : w1.cell? ⟨w.heap.size + 1, 3, none⟩ = some (.int .i64 flag) := bcl b1 (by simp) (by simp)
  have u1 : Below w.heap.size w w1 := by
   refine Below.trans ?_ (b1.mono so)
   exact up0
  clear b1 HC
  go_wp2_with (go_at_call 166; refine (cellReg_any _ _).mono ?_; rintro e w' ⟨rfl, rfl⟩)
  all_goals go_ret
  all_goals refine ⟨ret_int ?_, u1⟩
  all_goals (simp_all [replyE, kindB]; done)
end Go.Proofs.YtehhhiodfcdnmaaGreatDoor

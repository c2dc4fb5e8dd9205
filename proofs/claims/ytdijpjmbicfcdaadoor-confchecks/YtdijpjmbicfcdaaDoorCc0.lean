/- conf.copied, of whatever it copies. -/
import Derived.Test.YtdijpjmbicfcdaaDoorCf6
import Derived.Test.YtdijpjmbicfcdaaDoorSc4
namespace Go.Proofs.YtdijpjmbicfcdaaDoor
set_option linter.unusedSimpArgs false
set_option linter.unusedVariables false
open Go.RowKit Go.Sort

theorem sl_src {w : World} {b off : Nat} {xs : List Value} (h : ∀ j u, xs[j]? = some u → w.cell? ⟨b, off + j, none⟩ = some u) : ∀ j u, xs[j]? = some u → w.cell? ((⟨b, off, none⟩ : Addr).add j) = some u := by
  intro j u hj
  have hadd : (⟨b, off, none⟩ : Addr).add j = ⟨b, off + j, none⟩ := by
    unfold Addr.add
    by_cases h0 : j = 0 <;> simp [h0]
  rw [hadd]
  exact h j u hj
theorem rowC_one {α : Type} {f : α → List Value} (h : ∀ x, ∀ u ∈ f x, u.oneCell' = true) (l : List α) : ∀ u ∈ rowC f l, u.oneCell' = true := by
  intro u hu
  unfold rowC at hu
  obtain ⟨x, _, hx⟩ := List.mem_flatMap.1 hu
  exact h x u hx
theorem chC_one (x : Chn) : ∀ u ∈ chC x, u.oneCell' = true := by
  intro u hu
  simp [chC] at hu
  rcases hu with rfl | rfl | rfl <;> rfl
theorem slC_one (x : Slt) : ∀ u ∈ slC x, u.oneCell' = true := by
  intro u hu
  simp [slC] at hu
  rcases hu with rfl | rfl <;> rfl
theorem ins_one (x : Ins) : ∀ u ∈ x.cells, u.oneCell' = true := by
  intro u hu
  simp [Ins.cells] at hu
  rcases hu with rfl | rfl | rfl | rfl <;> rfl
theorem codeC_one : ∀ l : List Ins, ∀ u ∈ codeC l, u.oneCell' = true
  | [], u, h => by cases h
  | i :: r, u, h => by
    rcases List.mem_append.1 h with h | h
    · exact ins_one i u h
    · exact codeC_one r u h

theorem infoChan : (Tryd.prog.info? 47).map (fun i => (i.zero, i.size, i.bytes)) = some (some (.agg #[.int .i64 0, .int .i64 0, .int .i64 0]), 3, 24) := by kernel_rfl
set_option maxHeartbeats 1000000 in
theorem copChan_any (l : List Chn) (hl : l.length ≤ 1000) (v : Value) (w : World) (hS : Sl w 3 v l.length (rowC chC l)) :
    Calls Tryd.prog 21 #[v] w fun e w' => ∃ v', e = .returned v' ∧ w'.ownsRow w.heap.size 47 3 v' l.length (rowC chC l) ∧ Below w.heap.size w w' := by
  obtain ⟨i0, hi, hz0, hz1, hz2⟩ := info_parts infoChan
  by_cases h0 : l.length = 0
  · obtain ⟨ao, cap, rfl⟩ := hS.form
    have hxs : l = [] := List.length_eq_zero_iff.1 h0
    subst hxs
    clear hS h0 hl
    go_enter Tryd.func21, Tryd.ntmps21
    cases ao
    all_goals
      go_wp2
      go_ret
      exact ⟨_, rfl, World.ownsRow_nil _ _ _ _, Below.refl _ _⟩
  · obtain ⟨b, off, cap, rfl, hcap, hbw, hc⟩ := hS.open (by omega)
    have HCC := Lib.hid hc
    clear hS hc
    go_enter Tryd.func21, Tryd.ntmps21
    go_wp2_with (at_builtin; refine wpList_append_lies _ rfl (.const (.slice none 0 0)) (.tmp 3) 23 rfl w.heap.size 47 i0 (.agg #[.int .i64 0, .int .i64 0, .int .i64 0]) 3 24 Tryd.underlying23 hi hz0 hz1 hz2 rfl (by decide) (.slice none 0 0) 0 [] rfl (World.ownsRow_nil _ _ _ _) ⟨b, off, none⟩ l.length cap (rowC chC l) rfl (rowC_len (f := chC) (s := 3) (fun _ => rfl) l) (sl_src HCC.out) (rowC_one chC_one l) (by omega) (by unfold maxLen; omega) (by omega) (Nat.le_refl _) _ rfl ?_)
    intro g cap1 w3 hown hgrow hat hglt
    have hu := Lib.hid ((Below.refl w.heap.size w).grown hgrow (Nat.le_refl _) (fun k hk => by cases hk))
    have hown2 : w3.ownsRow w.heap.size 47 3 (.slice (some ⟨g, 0, none⟩) l.length cap1) l.length (rowC chC l) := by simpa using hown
    have HO := Lib.hid hown2
    clear hown hown2 hgrow hat HCC
    try simp only [Nat.zero_add]
    go_wp2
    go_ret
    exact ⟨_, rfl, HO.out, hu.out⟩

theorem infoSlot : (Tryd.prog.info? 44).map (fun i => (i.zero, i.size, i.bytes)) = some (some (.agg #[.int .i64 0, .int .i64 0]), 2, 16) := by kernel_rfl
set_option maxHeartbeats 1000000 in
theorem copSlot_any (l : List Slt) (hl : l.length ≤ 1000) (v : Value) (w : World) (hS : Sl w 2 v l.length (rowC slC l)) :
    Calls Tryd.prog 22 #[v] w fun e w' => ∃ v', e = .returned v' ∧ w'.ownsRow w.heap.size 44 2 v' l.length (rowC slC l) ∧ Below w.heap.size w w' := by
  obtain ⟨i0, hi, hz0, hz1, hz2⟩ := info_parts infoSlot
  by_cases h0 : l.length = 0
  · obtain ⟨ao, cap, rfl⟩ := hS.form
    have hxs : l = [] := List.length_eq_zero_iff.1 h0
    subst hxs
    clear hS h0 hl
    go_enter Tryd.func22, Tryd.ntmps22
    cases ao
    all_goals
      go_wp2
      go_ret
      exact ⟨_, rfl, World.ownsRow_nil _ _ _ _, Below.refl _ _⟩
  · obtain ⟨b, off, cap, rfl, hcap, hbw, hc⟩ := hS.open (by omega)
    have HCC := Lib.hid hc
    clear hS hc
    go_enter Tryd.func22, Tryd.ntmps22
    go_wp2_with (at_builtin; refine wpList_append_lies _ rfl (.const (.slice none 0 0)) (.tmp 3) 24 rfl w.heap.size 44 i0 (.agg #[.int .i64 0, .int .i64 0]) 2 16 Tryd.underlying24 hi hz0 hz1 hz2 rfl (by decide) (.slice none 0 0) 0 [] rfl (World.ownsRow_nil _ _ _ _) ⟨b, off, none⟩ l.length cap (rowC slC l) rfl (rowC_len (f := slC) (s := 2) (fun _ => rfl) l) (sl_src HCC.out) (rowC_one slC_one l) (by omega) (by unfold maxLen; omega) (by omega) (Nat.le_refl _) _ rfl ?_)
    intro g cap1 w3 hown hgrow hat hglt
    have hu := Lib.hid ((Below.refl w.heap.size w).grown hgrow (Nat.le_refl _) (fun k hk => by cases hk))
    have hown2 : w3.ownsRow w.heap.size 44 2 (.slice (some ⟨g, 0, none⟩) l.length cap1) l.length (rowC slC l) := by simpa using hown
    have HO := Lib.hid hown2
    clear hown hown2 hgrow hat HCC
    try simp only [Nat.zero_add]
    go_wp2
    go_ret
    exact ⟨_, rfl, HO.out, hu.out⟩

theorem infoIns : (Tryd.prog.info? 54).map (fun i => (i.zero, i.size, i.bytes)) = some (some (.agg #[.int .i64 0, .int .i64 0, .int .i64 0, .int .i64 0]), 4, 32) := by kernel_rfl
set_option maxHeartbeats 1000000 in
theorem copIns_any (l : List Ins) (hl : l.length ≤ 1000) (v : Value) (w : World) (hS : Sl w 4 v l.length (codeC l)) :
    Calls Tryd.prog 23 #[v] w fun e w' => ∃ v', e = .returned v' ∧ w'.ownsRow w.heap.size 54 4 v' l.length (codeC l) ∧ Below w.heap.size w w' := by
  obtain ⟨i0, hi, hz0, hz1, hz2⟩ := info_parts infoIns
  by_cases h0 : l.length = 0
  · obtain ⟨ao, cap, rfl⟩ := hS.form
    have hxs : l = [] := List.length_eq_zero_iff.1 h0
    subst hxs
    clear hS h0 hl
    go_enter Tryd.func23, Tryd.ntmps23
    cases ao
    all_goals
      go_wp2
      go_ret
      exact ⟨_, rfl, World.ownsRow_nil _ _ _ _, Below.refl _ _⟩
  · obtain ⟨b, off, cap, rfl, hcap, hbw, hc⟩ := hS.open (by omega)
    have HCC := Lib.hid hc
    clear hS hc
    go_enter Tryd.func23, Tryd.ntmps23
    go_wp2_with (at_builtin; refine wpList_append_lies _ rfl (.const (.slice none 0 0)) (.tmp 3) 49 rfl w.heap.size 54 i0 (.agg #[.int .i64 0, .int .i64 0, .int .i64 0, .int .i64 0]) 4 32 Tryd.underlying49 hi hz0 hz1 hz2 rfl (by decide) (.slice none 0 0) 0 [] rfl (World.ownsRow_nil _ _ _ _) ⟨b, off, none⟩ l.length cap (codeC l) rfl (codeC_len l) (sl_src HCC.out) (codeC_one l) (by omega) (by unfold maxLen; omega) (by omega) (Nat.le_refl _) _ rfl ?_)
    intro g cap1 w3 hown hgrow hat hglt
    have hu := Lib.hid ((Below.refl w.heap.size w).grown hgrow (Nat.le_refl _) (fun k hk => by cases hk))
    have hown2 : w3.ownsRow w.heap.size 54 4 (.slice (some ⟨g, 0, none⟩) l.length cap1) l.length (codeC l) := by simpa using hown
    have HO := Lib.hid hown2
    clear hown hown2 hgrow hat HCC
    try simp only [Nat.zero_add]
    go_wp2
    go_ret
    exact ⟨_, rfl, HO.out, hu.out⟩

theorem infoInt : (Tryd.prog.info? 3).map (fun i => (i.zero, i.size, i.bytes)) = some (some (.int .i64 0), 1, 8) := by kernel_rfl
set_option maxHeartbeats 1000000 in
theorem copInt_any (l : List Int) (hl : l.length ≤ 1000) (v : Value) (w : World) (hS : Sl w 1 v l.length (ints l)) :
    Calls Tryd.prog 24 #[v] w fun e w' => ∃ v', e = .returned v' ∧ w'.ownsRow w.heap.size 3 1 v' l.length (ints l) ∧ Below w.heap.size w w' := by
  obtain ⟨i0, hi, hz0, hz1, hz2⟩ := info_parts infoInt
  by_cases h0 : l.length = 0
  · obtain ⟨ao, cap, rfl⟩ := hS.form
    have hxs : l = [] := List.length_eq_zero_iff.1 h0
    subst hxs
    clear hS h0 hl
    go_enter Tryd.func24, Tryd.ntmps24
    cases ao
    all_goals
      go_wp2
      go_ret
      exact ⟨_, rfl, World.ownsRow_nil _ _ _ _, Below.refl _ _⟩
  · obtain ⟨b, off, cap, rfl, hcap, hbw, hc⟩ := hS.open (by omega)
    have HCC := Lib.hid hc
    clear hS hc
    go_enter Tryd.func24, Tryd.ntmps24
    go_wp2_with (at_builtin; refine wpList_append_lies _ rfl (.const (.slice none 0 0)) (.tmp 3) 50 rfl w.heap.size 3 i0 (.int .i64 0) 1 8 Tryd.underlying50 hi hz0 hz1 hz2 rfl (by decide) (.slice none 0 0) 0 [] rfl (World.ownsRow_nil _ _ _ _) ⟨b, off, none⟩ l.length cap (ints l) rfl (by simp [ints]) (sl_src HCC.out) (ints_cell l) (by omega) (by unfold maxLen; omega) (by omega) (Nat.le_refl _) _ rfl ?_)
    intro g cap1 w3 hown hgrow hat hglt
    have hu := Lib.hid ((Below.refl w.heap.size w).grown hgrow (Nat.le_refl _) (fun k hk => by cases hk))
    have hown2 : w3.ownsRow w.heap.size 3 1 (.slice (some ⟨g, 0, none⟩) l.length cap1) l.length (ints l) := by simpa using hown
    have HO := Lib.hid hown2
    clear hown hown2 hgrow hat HCC
    try simp only [Nat.zero_add]
    go_wp2
    go_ret
    exact ⟨_, rfl, HO.out, hu.out⟩
end Go.Proofs.YtdijpjmbicfcdaaDoor

/- flow.edges. -/
import Derived.Test.YtbkdoohhdkahiaaGreatDoorK3
import Derived.Deep.AppendLies
import Derived.Shelf.SlSortCmp.NoneTotal
import Derived.Test.YtbkdoohhdkahiaaGreatDoorK0
import Derived.Deep.QuietTactic
import Derived.BigQuiet
namespace Go.Proofs.YtbkdoohhdkahiaaGreatDoor
set_option linter.unusedSimpArgs false
set_option linter.unusedVariables false
open Go.RowKit Go.Sort Go.Shelf Go.Lib
theorem sortFunc_nil (w : World) : Calls Tryz.prog 119 #[.slice none 0 0, .func (.func 120) #[] #[]] w fun e w' => e = .returned (.tuple #[]) ∧ w' = w := AnyF.slices_SortFunc_none Tryz.sortE none 0 _ w
theorem compact_nil (w : World) : Calls Tryz.prog 123 #[.slice none 0 0] w fun e w' => e = .returned (.slice none 0 0) ∧ w' = w := by
  go_enter Tryz.func123, Tryz.ntmps123
  go_wp2
  go_ret
  exact ⟨rfl, rfl⟩
def IsEdges (cs : List Chn) (l : List Edg) : Prop := ∃ r : List Edg, r.Perm (rawE cs) ∧ RiseE r ∧ l = uniqE r
theorem uniq_len : ∀ l : List Edg, (uniqE l).length ≤ l.length
  | [] => by simp [uniqE]
  | [a] => by simp [uniqE]
  | a :: b :: r => by
    have := uniq_len (b :: r)
    rw [uniqE]
    split
    · simp at this ⊢
      omega
    · simp at this ⊢
      omega
theorem edm_sl {w : World} {g cap : Nat} {l : List Edg} (h : EdM w g 0 l) (hcap : l.length ≤ cap) : Sl w 2 (.slice (some ⟨g, 0, none⟩) l.length cap) l.length (rowC Edg.cells l) := by
  refine ⟨by rw [rowC_len edg_len], some ⟨g, 0, none⟩, cap, rfl, hcap, fun _ => ⟨g, 0, rfl, h.lt, fun j u hj => ?_⟩⟩
  have hjl : j < l.length * 2 := by
    have := (List.getElem?_eq_some_iff.1 hj).1
    rwa [rowC_len edg_len] at this
  have hk : j / 2 < l.length := by omega
  have hr : j % 2 < 2 := by omega
  have hjk : j = j / 2 * 2 + j % 2 := by omega
  rw [hjk, rowC_at edg_len l (j / 2) (j % 2) hk hr] at hj
  have h2 : j % 2 = 0 ∨ j % 2 = 1 := by omega
  rcases h2 with e | e
  · rw [e] at hj
    have := (h.2 (j / 2) hk).1
    rw [show 0 + j = 0 + j / 2 * 2 by omega, this]
    exact hj
  · rw [e] at hj
    have := (h.2 (j / 2) hk).2
    rw [show 0 + j = 0 + j / 2 * 2 + 1 by omega, this]
    exact hj
theorem rowE_snoc (L : List Edg) (e : Edg) : rowC Edg.cells (L ++ [e]) = rowC Edg.cells L ++ [.int .i64 e.fr, .int .i64 e.tt] := by
  simp [rowC, Edg.cells]
theorem edge_grow {w wr W4 : World} {L : List Edg} {v v' : Value} {e : Edg} (HB : RowKit.Below w.heap.size w wr) (HO : wr.ownsRow w.heap.size 53 2 v L.length (rowC Edg.cells L)) (hgrow : wr.grownBy W4 v.ownBlock)
    (hown : W4.ownsRow w.heap.size 53 2 v' (L.length + 1) (rowC Edg.cells L ++ [.int .i64 e.fr, .int .i64 e.tt])) :
    W4.ownsRow w.heap.size 53 2 v' (L ++ [e]).length (rowC Edg.cells (L ++ [e])) ∧ RowKit.Below w.heap.size w W4 := by
  refine ⟨?_, HB.grown hgrow HB.size (own_block HO)⟩
  rw [rowE_snoc, List.length_append]
  exact hown
set_option maxRecDepth 100000 in
set_option maxHeartbeats 8000000 in
theorem edges_any (cs : List Chn) (v : Value) (hl : cs.length ≤ 6) (w : World) (hC : Sl w 3 v cs.length (rowC chC cs)) :
    Calls Tryz.prog 69 #[v] w fun e w' => ∃ v' l, e = .returned v' ∧ IsEdges cs l ∧ l.length ≤ 12 ∧ Sl w' 2 v' l.length (rowC Edg.cells l) ∧ RowKit.Below w.heap.size w w' := by
  obtain ⟨i1, hi1, hy0, hy1, hy2⟩ := info_parts infoEdg
  obtain ⟨va, vcap, rfl⟩ := hC.form
  have HC := Lib.hid hC
  clear hC
  go_enter Tryz.func69, Tryz.ntmps69
  go_wp2
  go_loopw [8, 3] (fun i l wr => ∃ (k : Nat), i = .int .i64 k ∧ k ≤ cs.length ∧ Hid (wr.ownsRow w.heap.size 53 2 l (rawE (cs.take k)).length (rowC Edg.cells (rawE (cs.take k)))) ∧ Hid (k = 0 → l = .slice none 0 0) ∧ Hid (RowKit.Below w.heap.size w wr)) (fun i _ _ => cs.length - (intOf i).toNat)
  case atStart => exact ⟨0, rfl, Nat.zero_le _, Lib.hid (World.ownsRow_nil _ _ _ _), Lib.hid (fun _ => rfl), Lib.hid (RowKit.Below.refl _ _)⟩
  case round =>
    obtain ⟨k, rfl, hk, HO, HNIL, HB⟩ := hrel
    by_cases hlt : k < cs.length
    · have hli : (k : Int) < cs.length := by omega
      have h0i : (0 : Int) ≤ k := by omega
      obtain ⟨b, off, cap, e1, hcap, hbw, hc⟩ := HC.out.open (by omega)
      cases e1
      obtain ⟨hkd, hfr, htt⟩ := chan_cells hc k hlt
      have hws := HB.out.size
      have c0 := bcl HB.out hbw hkd
      have c1 := bcl HB.out hbw hfr
      have c2 := bcl HB.out hbw htt
      have hbr : b < wr.heap.size := by omega
      have hbr' : b ≠ wr.heap.size := by omega
      have htk : rawE (cs.take (k + 1)) = rawE (cs.take k) ++ chE cs[k] := by
        rw [List.take_succ_eq_append_getElem hlt, rawE_app]
        simp [rawE]
      have hln := rawE_len (cs.take k)
      have hln2 : (cs.take k).length ≤ 6 := by simp; omega
      generalize hce : cs[k] = ch at c0 c1 c2 htk
      obtain ⟨kd, fr, tt⟩ := ch
      simp only at c0 c1 c2
      have HTK := Lib.hid htk
      obtain ⟨a3, c3, hform⟩ := own_form HO.out
      subst hform
      generalize hL : rawE (cs.take k) = L at HO HTK hln
      have HLN := Lib.hid (show L.length ≤ 12 by omega)
      have hlt' := own_lt HO.out
      have hbl' := own_block HO.out
      have HLT := Lib.hid hlt'
      have HBL := Lib.hid hbl'
      clear hkd hfr htt hc htk hln hln2 hce hL hlt' hbl' HNIL
      go_upto_region 5 with fail
      have HO2 := Lib.hid ((HO.out.alloc (.cells #[.int .i64 kd, .int .i64 fr, .int .i64 tt] 126)).alloc (.cells #[.int .i64 fr, .int .i64 tt] 53))
      have HB2 := Lib.hid ((HB.out.alloc hws (.cells #[.int .i64 kd, .int .i64 fr, .int .i64 tt] 126)).alloc (by simp; omega) (.cells #[.int .i64 fr, .int .i64 tt] 53))
      go_upto_region 6 with (at_builtin; refine wpList_append_lies _ rfl (.tmp 12) (.tmp 18) 25 rfl w.heap.size 53 i1 _ 2 16 Tryz.underlying25 hi1 hy0 hy1 hy2 rfl (by decide) _ L.length (rowC Edg.cells L) rfl HO2.out ⟨wr.heap.size+1,0,none⟩ 1 1 [.int .i64 fr, .int .i64 tt] rfl rfl (new_rangeE _ _ _ _ (by simp)) (two_one _ _) (by decide) (by have := HLN.out; unfold maxLen; omega) (by have := HLN.out; omega) (by simp; omega) _ rfl ?_)
      intro g4 cap4 W4 hown hgrow hat hg4
      have hx := edge_grow (e := ⟨fr, tt⟩) HB2.out HO2.out hgrow hown
      have HO4 := Lib.hid hx.1
      have HB4 := Lib.hid hx.2
      have hne : ∀ k, k = wr.heap.size → some k ≠ (Value.slice a3 L.length c3).ownBlock := fun k e e2 => by have := HLT.out k e2.symm; omega
      have d0 : W4.cell? ⟨wr.heap.size, 0, none⟩ = some (.int .i64 kd) := (hgrow.cell_far ⟨wr.heap.size, 0, none⟩ (by simp; omega) (hne _ rfl)).trans (by simp)
      have d1 : W4.cell? ⟨wr.heap.size, 1, none⟩ = some (.int .i64 fr) := (hgrow.cell_far ⟨wr.heap.size, 1, none⟩ (by simp; omega) (hne _ rfl)).trans (by simp)
      have d2 : W4.cell? ⟨wr.heap.size, 2, none⟩ = some (.int .i64 tt) := (hgrow.cell_far ⟨wr.heap.size, 2, none⟩ (by simp; omega) (hne _ rfl)).trans (by simp)
      have hw4 := HB4.out.size
      have hgs := hgrow.size
      simp at hgs
      have hlt4 : wr.heap.size < W4.heap.size := by omega
      have hne4 : wr.heap.size ≠ W4.heap.size := by omega
      clear hown hgrow hat hx hne c0 c1 c2 HO HO2 HB HB2 HLT HBL
      have hlen : (L ++ [(⟨fr, tt⟩ : Edg)]).length = L.length + 1 := by simp
      rw [hlen] at HO4
      clear hlen
      by_cases h2 : kd = 2
      · have htk2 : rawE (cs.take (k + 1)) = L ++ [⟨fr, tt⟩] ++ [⟨tt, fr⟩] := by
          rw [HTK.out]
          simp [chE, h2]
        have HTK2 := Lib.hid htk2
        clear htk2 HTK
        subst h2
        have HO5 := Lib.hid (HO4.out.alloc (.cells #[.int .i64 tt, .int .i64 fr] 53))
        have HB5 := Lib.hid (HB4.out.alloc hw4 (.cells #[.int .i64 tt, .int .i64 fr] 53))
        clear HO4 HB4
        generalize hL2 : L ++ [(⟨fr, tt⟩ : Edg)] = L2 at HO5 HTK2
        have HL2 : Hid (L2.length = L.length + 1) := by rw [← hL2]; exact Lib.hid (by simp)
        clear hL2
        go_upto_region 8 with (at_builtin; refine wpList_append_lies _ rfl (.tmp 23) (.tmp 29) 25 rfl w.heap.size 53 i1 _ 2 16 Tryz.underlying25 hi1 hy0 hy1 hy2 rfl (by decide) _ (L.length + 1) (rowC Edg.cells L2) rfl HO5.out ⟨W4.heap.size,0,none⟩ 1 1 [.int .i64 tt, .int .i64 fr] rfl rfl (new_rangeE _ _ _ _ rfl) (two_one _ _) (by decide) (by have := HLN.out; unfold maxLen; omega) (by have := HLN.out; omega) (by simp; omega) _ rfl ?_)
        intro g5 cap5 W5 hown hgrow hat hg5
        have hx := edge_grow (L := L2) (e := ⟨tt, fr⟩) HB5.out (by rw [HL2.out]; exact HO5.out) hgrow (by rw [HL2.out]; exact hown)
        have HO6 := Lib.hid hx.1
        have HB6 := Lib.hid hx.2
        clear hown hgrow hat hx HO5 HB5 d0 d1 d2
        go_wp2
        go_roundw
        case rel => exact ⟨k + 1, by go_num, by omega, by rw [HTK2.out]; exact HO6, Lib.hid (fun e => by omega), HB6⟩
        case measure => simp [intOf]; omega
      · have htk2 : rawE (cs.take (k + 1)) = L ++ [⟨fr, tt⟩] := by
          rw [HTK.out]
          simp [chE, h2]
        have HTK2 := Lib.hid htk2
        clear htk2 HTK
        go_wp2
        go_roundw
        case rel => exact ⟨k + 1, by go_num, by omega, by rw [HTK2.out]; exact (by rw [List.length_append]; exact HO4), Lib.hid (fun e => by omega), HB4⟩
        case measure => simp [intOf]; omega
    · have hli : ¬ (k : Int) < cs.length := by omega
      have hkl : k = cs.length := by omega
      have hraw : cs.take k = cs := List.take_of_length_le (by omega)
      rw [hraw] at HO
      have hln := rawE_len cs
      by_cases h0 : (rawE cs).length = 0
      · have hn0 : rawE cs = [] := List.length_eq_zero_iff.1 h0
        have hc0 : cs = [] := by
          cases cs with
          | nil => rfl
          | cons c r => simp [rawE, chE] at hn0; split at hn0 <;> simp at hn0
        have hk0 : k = 0 := by rw [hkl, hc0]; rfl
        have hln0 := HNIL.out hk0
        subst hln0
        clear HO HNIL hraw
        go_wp2_with (first | (go_at_call 119; refine (sortFunc_nil _).mono ?_; rintro e w2 ⟨rfl, rfl⟩) | (go_at_call 123; refine (compact_nil _).mono ?_; rintro e w2 ⟨rfl, rfl⟩))
        go_ret
        refine ⟨_, [], rfl, ⟨[], by rw [hn0], ?_, rfl⟩, by simp, ?_, HB.out⟩
        · unfold RiseE; simp
        · exact ⟨rfl, none, 0, rfl, Nat.le_refl _, fun h => absurd h (by simp)⟩
      · obtain ⟨g, cap, hv, hgw, hcap, hE⟩ := own_edm HO.out (by omega)
        subst hv
        have HE := Lib.hid hE
        clear hE HO HNIL hraw
        go_wp2_with (first | (go_at_call 119; refine (sortFunc_any _ _ _ _ _ HE.out (by omega)).mono ?_; rintro e w2 ⟨rfl, r, hperm, hrise, hEr, hbel⟩; have hpl := hperm.length_eq; have HER := Lib.hid hEr; have HRISE := Lib.hid hrise; have HBEL := Lib.hid hbel; have HPERM := Lib.hid hperm; clear hEr hrise hbel hperm HE) | (rw [← hpl]; go_at_call 123; refine (compact_any r _ _ _ (by omega) (by omega) _ HER.out).mono ?_; rintro e w3 ⟨rfl, hEu, hbel3⟩))
        go_ret
        have hul := uniq_len r
        refine ⟨_, uniqE r, rfl, ⟨r, HPERM.out, HRISE.out, rfl⟩, by omega, edm_sl hEu (by omega), (HB.out.trans (HBEL.out _ hgw)).trans (hbel3 _ hgw)⟩
end Go.Proofs.YtbkdoohhdkahiaaGreatDoor
namespace Go.Proofs.YtbkdoohhdkahiaaGreatDoor
set_option linter.unusedSimpArgs false
set_option linter.unusedVariables false
open Go.RowKit Go.Sort
theorem cwithin_any (n lo hi : Int) (w : World) : Calls Tryz.prog 125 #[.int .i64 n, .int .i64 lo, .int .i64 hi] w fun e w' => e = .returned (.bool (withinB n lo hi)) ∧ w' = w := by
  by_cases h : lo ≤ n
  all_goals
    go_enter Tryz.func125, Tryz.ntmps125
    go_wp2
    go_ret
    exact ⟨ret_bool (by simp [withinB]; try omega), rfl⟩
theorem isPart_any (ao : Option Addr) (n cap : Nat) (vc vs : Value) (x : Int) (w : World) (hn : n ≤ 1000) :
    Calls Tryz.prog 130 #[.agg #[.slice ao n cap, vc, vs], .int .i64 x] w fun e w' => e = .returned (.bool (withinB x 0 ((n : Int) - 1))) ∧ Below w.heap.size w w' := by
  go_enter Tryz.func130, Tryz.ntmps130
  go_wp2_with (go_at_call 125; refine (cwithin_any _ _ _ _).mono ?_; rintro e w' ⟨rfl, rfl⟩)
  go_ret
  exact ⟨rfl, up0⟩
theorem any_mem {α : Type} {l : List α} {p : α → Bool} {k : Nat} (h : k < l.length) (hp : p l[k] = true) : l.any p = true := by
  rw [List.any_eq_true]
  exact ⟨l[k], List.getElem_mem h, hp⟩
theorem any_take {α : Type} {l : List α} {p : α → Bool} {k : Nat} (h : k < l.length) (h0 : (l.take k).any p = false) (hp : p l[k] = false) : (l.take (k + 1)).any p = false := by
  rw [List.take_succ_eq_append_getElem h, List.any_append, h0]; simp [hp]
theorem any_all {α : Type} {l : List α} {p : α → Bool} {k : Nat} (h : ¬ k < l.length) (h0 : (l.take k).any p = false) : l.any p = false := by
  rwa [List.take_of_length_le (by omega)] at h0
set_option maxHeartbeats 1000000 in
theorem oneChan_any (l : List Chn) (v : Value) (f : Nat) (hen : Enters f) (caps : Array Value) (p : Chn → Bool) (w : World) (hS : Sl w 3 v l.length (rowC chC l)) (hl : l.length ≤ 1000)
    (hf : ∀ k (hk : k < l.length) w1, Below w.heap.size w w1 → Calls Tryz.prog f (#[.agg #[.int .i64 l[k].kd, .int .i64 l[k].fr, .int .i64 l[k].tt]] ++ caps) w1 fun e w2 => e = .returned (.bool (p l[k])) ∧ Below w1.heap.size w1 w2) (r : Bool) (hr : l.any p = r) :
    Calls Tryz.prog 78 #[v, .func (.func f) #[] caps] w fun e w' => e = .returned (.bool r) ∧ Below w.heap.size w w' := by
  obtain ⟨ao, cap, rfl⟩ := hS.form
  have HS := Lib.hid hS
  have HF := Lib.hid hf
  have HR := Lib.hid hr
  clear hS hf hr
  unfold Enters at hen
  go_enter Tryz.func78, Tryz.ntmps78
  go_wp2
  go_loopw [9] (fun i wr => ∃ k : Nat, i = .int .i64 k ∧ k ≤ l.length ∧ Hid ((l.take k).any p = false) ∧ Below w.heap.size w wr) (fun i _ => l.length - (intOf i).toNat)
  case atStart => exact ⟨0, rfl, Nat.zero_le _, (show ((l.take 0).any p = false) by simp), Below.refl _ _⟩
  case round =>
    obtain ⟨k, rfl, hk, HZ, hbel⟩ := hrel
    by_cases hlt : k < l.length
    · have hli : (k : Int) < l.length := by omega
      obtain ⟨b, off, cap', e1, hcap, hbw, hc⟩ := HS.out.open (by omega)
      cases e1
      obtain ⟨c0, c1, c2⟩ := chan_cells hc k hlt
      have c0 := bcl hbel hbw c0
      have c1 := bcl hbel hbw c1
      have c2 := bcl hbel hbw c2
      have HC := Lib.hid (HF.out k hlt)
      generalize hq : p l[k] = q at HC
      have HQ := Lib.hid hq
      clear hc hq
      go_wp2_with fail
      refine (HC.out _ (hbel.alloc hbel.size _)).mono ?_
      rintro e w2 ⟨rfl, bb⟩
      have D := Lib.hid ((hbel.alloc hbel.size _).trans (bb.mono (by have := hbel.size; simp; omega)))
      clear bb HC c0 c1 c2
      cases q
      · have HZ1 := Lib.hid (any_take hlt HZ.out HQ.out)
        go_wp2
        go_roundw
        case rel => exact ⟨k + 1, by go_num, by omega, HZ1, D.out⟩
        case measure => simp [intOf]; omega
      · have HZ1 := Lib.hid (any_mem hlt HQ.out)
        go_wp2
        go_ret
        exact ⟨ret_bool (by rw [← HR.out, HZ1.out]), D.out⟩
    · have hli : ¬ (k : Int) < l.length := by omega
      have HZ1 := Lib.hid (any_all hlt HZ.out)
      go_wp2
      go_ret
      exact ⟨ret_bool (by rw [← HR.out, HZ1.out]), hbel⟩
set_option maxHeartbeats 1000000 in
theorem oneSlot_any (l : List Slt) (v : Value) (f : Nat) (hen : Enters f) (caps : Array Value) (p : Slt → Bool) (w : World) (hS : Sl w 2 v l.length (rowC slC l)) (hl : l.length ≤ 1000)
    (hf : ∀ k (hk : k < l.length) w1, Below w.heap.size w w1 → Calls Tryz.prog f (#[.agg #[.int .i64 l[k].pt, .int .i64 l[k].tk]] ++ caps) w1 fun e w2 => e = .returned (.bool (p l[k])) ∧ Below w1.heap.size w1 w2) (r : Bool) (hr : l.any p = r) :
    Calls Tryz.prog 131 #[v, .func (.func f) #[] caps] w fun e w' => e = .returned (.bool r) ∧ Below w.heap.size w w' := by
  obtain ⟨ao, cap, rfl⟩ := hS.form
  have HS := Lib.hid hS
  have HF := Lib.hid hf
  have HR := Lib.hid hr
  clear hS hf hr
  unfold Enters at hen
  go_enter Tryz.func131, Tryz.ntmps131
  go_wp2
  go_loopw [9] (fun i wr => ∃ k : Nat, i = .int .i64 k ∧ k ≤ l.length ∧ Hid ((l.take k).any p = false) ∧ Below w.heap.size w wr) (fun i _ => l.length - (intOf i).toNat)
  case atStart => exact ⟨0, rfl, Nat.zero_le _, (show ((l.take 0).any p = false) by simp), Below.refl _ _⟩
  case round =>
    obtain ⟨k, rfl, hk, HZ, hbel⟩ := hrel
    by_cases hlt : k < l.length
    · have hli : (k : Int) < l.length := by omega
      obtain ⟨b, off, cap', e1, hcap, hbw, hc⟩ := HS.out.open (by omega)
      cases e1
      obtain ⟨c0, c1⟩ := slot_cells hc k hlt
      have c0 := bcl hbel hbw c0
      have c1 := bcl hbel hbw c1
      have HC := Lib.hid (HF.out k hlt)
      generalize hq : p l[k] = q at HC
      have HQ := Lib.hid hq
      clear hc hq
      go_wp2_with fail
      refine (HC.out _ (hbel.alloc hbel.size _)).mono ?_
      rintro e w2 ⟨rfl, bb⟩
      have D := Lib.hid ((hbel.alloc hbel.size _).trans (bb.mono (by have := hbel.size; simp; omega)))
      clear bb HC c0 c1
      cases q
      · have HZ1 := Lib.hid (any_take hlt HZ.out HQ.out)
        go_wp2
        go_roundw
        case rel => exact ⟨k + 1, by go_num, by omega, HZ1, D.out⟩
        case measure => simp [intOf]; omega
      · have HZ1 := Lib.hid (any_mem hlt HQ.out)
        go_wp2
        go_ret
        exact ⟨ret_bool (by rw [← HR.out, HZ1.out]), D.out⟩
    · have hli : ¬ (k : Int) < l.length := by omega
      have HZ1 := Lib.hid (any_all hlt HZ.out)
      go_wp2
      go_ret
      exact ⟨ret_bool (by rw [← HR.out, HZ1.out]), hbel⟩
set_option maxHeartbeats 1000000 in
theorem oneInt_any (l : List Int) (v : Value) (f : Nat) (hen : Enters f) (caps : Array Value) (p : Int → Bool) (w : World) (hS : Sl w 1 v l.length (ints l)) (hl : l.length ≤ 1000)
    (hf : ∀ k (hk : k < l.length) w1, Below w.heap.size w w1 → Calls Tryz.prog f (#[.int .i64 l[k]] ++ caps) w1 fun e w2 => e = .returned (.bool (p l[k])) ∧ Below w1.heap.size w1 w2) (r : Bool) (hr : l.any p = r) :
    Calls Tryz.prog 134 #[v, .func (.func f) #[] caps] w fun e w' => e = .returned (.bool r) ∧ Below w.heap.size w w' := by
  obtain ⟨ao, cap, rfl⟩ := hS.form
  have HS := Lib.hid hS
  have HF := Lib.hid hf
  have HR := Lib.hid hr
  clear hS hf hr
  unfold Enters at hen
  go_enter Tryz.func134, Tryz.ntmps134
  go_wp2
  go_loopw [9] (fun i wr => ∃ k : Nat, i = .int .i64 k ∧ k ≤ l.length ∧ Hid ((l.take k).any p = false) ∧ Below w.heap.size w wr) (fun i _ => l.length - (intOf i).toNat)
  case atStart => exact ⟨0, rfl, Nat.zero_le _, (show ((l.take 0).any p = false) by simp), Below.refl _ _⟩
  case round =>
    obtain ⟨k, rfl, hk, HZ, hbel⟩ := hrel
    by_cases hlt : k < l.length
    · have hli : (k : Int) < l.length := by omega
      obtain ⟨b, off, cap', e1, hcap, hbw, hc⟩ := HS.out.open (by omega)
      cases e1
      have c0 := bcl hbel hbw (hc k _ (ints_at l k hlt))
      have HC := Lib.hid (HF.out k hlt)
      generalize hq : p l[k] = q at HC
      have HQ := Lib.hid hq
      clear hc hq
      go_wp2_with fail
      refine (HC.out _ hbel).mono ?_
      rintro e w2 ⟨rfl, bb⟩
      have D := Lib.hid (hbel.trans (bb.mono hbel.size))
      clear bb HC c0
      cases q
      · have HZ1 := Lib.hid (any_take hlt HZ.out HQ.out)
        go_wp2
        go_roundw
        case rel => exact ⟨k + 1, by go_num, by omega, HZ1, D.out⟩
        case measure => simp [intOf]; omega
      · have HZ1 := Lib.hid (any_mem hlt HQ.out)
        go_wp2
        go_ret
        exact ⟨ret_bool (by rw [← HR.out, HZ1.out]), D.out⟩
    · have hli : ¬ (k : Int) < l.length := by omega
      have HZ1 := Lib.hid (any_all hlt HZ.out)
      go_wp2
      go_ret
      exact ⟨ret_bool (by rw [← HR.out, HZ1.out]), hbel⟩
set_option maxHeartbeats 1000000 in
theorem onePart_any (l : List Prt) (v : Value) (f : Nat) (hen : Enters f) (caps : Array Value) (p : Prt → Bool) (w : World) (hS : PartsR w v l) (hl : l.length ≤ 1000)
    (hf : ∀ k (hk : k < l.length) c i w1, PrtR w c i l[k] → Below w.heap.size w w1 → Calls Tryz.prog f (#[.agg #[c, i]] ++ caps) w1 fun e w2 => e = .returned (.bool (p l[k])) ∧ Below w1.heap.size w1 w2) (r : Bool) (hr : l.any p = r) :
    Calls Tryz.prog 126 #[v, .func (.func f) #[] caps] w fun e w' => e = .returned (.bool r) ∧ Below w.heap.size w w' := by
  obtain ⟨ao, cap, rfl⟩ := hS.form
  have HS := Lib.hid hS
  have HF := Lib.hid hf
  have HR := Lib.hid hr
  clear hS hf hr
  unfold Enters at hen
  go_enter Tryz.func126, Tryz.ntmps126
  go_wp2
  go_loopw [9] (fun i wr => ∃ k : Nat, i = .int .i64 k ∧ k ≤ l.length ∧ Hid ((l.take k).any p = false) ∧ Below w.heap.size w wr) (fun i _ => l.length - (intOf i).toNat)
  case atStart => exact ⟨0, rfl, Nat.zero_le _, (show ((l.take 0).any p = false) by simp), Below.refl _ _⟩
  case round =>
    obtain ⟨k, rfl, hk, HZ, hbel⟩ := hrel
    by_cases hlt : k < l.length
    · have hli : (k : Int) < l.length := by omega
      obtain ⟨b, off, cap', e1, hcap, hbw, hc⟩ := HS.out.open (by omega)
      cases e1
      obtain ⟨c, i, c0, c1, hpr⟩ := hc k hlt
      obtain ⟨ca, cc, rfl⟩ := hpr.code.form
      obtain ⟨ia, ic, rfl⟩ := hpr.inn.form
      have c0 := bcl hbel hbw c0
      have c1 := bcl hbel hbw c1
      have HC := Lib.hid (fun w1 => HF.out k hlt _ _ w1 hpr)
      generalize hq : p l[k] = q at HC
      have HQ := Lib.hid hq
      clear hc hq hpr
      go_wp2_with fail
      refine (HC.out _ (hbel.alloc hbel.size _)).mono ?_
      rintro e w2 ⟨rfl, bb⟩
      have D := Lib.hid ((hbel.alloc hbel.size _).trans (bb.mono (by have := hbel.size; simp; omega)))
      clear bb HC c0 c1
      cases q
      · have HZ1 := Lib.hid (any_take hlt HZ.out HQ.out)
        go_wp2
        go_roundw
        case rel => exact ⟨k + 1, by go_num, by omega, HZ1, D.out⟩
        case measure => simp [intOf]; omega
      · have HZ1 := Lib.hid (any_mem hlt HQ.out)
        go_wp2
        go_ret
        exact ⟨ret_bool (by rw [← HR.out, HZ1.out]), D.out⟩
    · have hli : ¬ (k : Int) < l.length := by omega
      have HZ1 := Lib.hid (any_all hlt HZ.out)
      go_wp2
      go_ret
      exact ⟨ret_bool (by rw [← HR.out, HZ1.out]), hbel⟩
end Go.Proofs.YtbkdoohhdkahiaaGreatDoor
namespace Go.Proofs.YtbkdoohhdkahiaaGreatDoor
set_option linter.unusedSimpArgs false
set_option linter.unusedVariables false
open Go.RowKit Go.Sort
theorem app0 (a : Value) : #[a] ++ (#[] : Array Value) = #[a] := by simp
theorem app1 (a b : Value) : #[a] ++ #[b] = #[a, b] := by simp
theorem app2 (a b c : Value) : #[a] ++ #[b, c] = #[a, b, c] := by simp
structure Box (w : World) (g : Nat) (vp vc vs : Value) : Prop where
  p : w.cell? ⟨g, 0, none⟩ = some vp
  c : w.cell? ⟨g, 1, none⟩ = some vc
  s : w.cell? ⟨g, 2, none⟩ = some vs
  lt : g < w.heap.size
theorem Box.up {w w' : World} {g : Nat} {vp vc vs : Value} (h : Box w g vp vc vs) (hb : Below w.heap.size w w') : Box w' g vp vc vs :=
  ⟨bcl hb h.lt h.p, bcl hb h.lt h.c, bcl hb h.lt h.s, Nat.lt_of_lt_of_le h.lt hb.size⟩
theorem box_new (w : World) (vp vc vs : Value) (t : TypeId) (g : Nat) (hg : g = w.heap.size) : Box (w.alloc (.cells #[vp, vc, vs] t)) g vp vc vs := by
  subst hg
  exact ⟨by simp, by simp, by simp, by simp⟩
set_option maxHeartbeats 1000000 in
theorem kindLit_any (c : Chn) (w : World) : Calls Tryz.prog 79 #[.agg #[.int .i64 c.kd, .int .i64 c.fr, .int .i64 c.tt]] w fun e w' => e = .returned (.bool (kindBad c)) ∧ Below w.heap.size w w' := by
  generalize h1 : (c.kd != 1) = q1
  generalize h2 : (c.kd != 2) = q2
  have HE : Hid (kindBad c = (q1 && q2)) := by show kindBad c = _; unfold kindBad; rw [h1, h2]
  cases q1 <;> cases q2
  all_goals
    go_enter Tryz.func79, Tryz.ntmps79
    go_wp2
    go_ret
    exact ⟨ret_bool (by rw [HE.out]; rfl), up0⟩
theorem countLit_any (ca : Option Addr) (cn cc : Nat) (ia : Option Addr) (n ic : Nat) (w : World) : Calls Tryz.prog 127 #[.agg #[.slice ca cn cc, .slice ia n ic]] w fun e w' => e = .returned (.bool (decide (12 < n))) ∧ Below w.heap.size w w' := by
  by_cases h : 12 < n
  all_goals
    go_enter Tryz.func127, Tryz.ntmps127
    go_wp2
    go_ret
    exact ⟨ret_bool (by simp; omega), up0⟩
set_option maxHeartbeats 1000000 in
theorem placeLit_any (c : Chn) (g : Nat) (ao : Option Addr) (n cap : Nat) (vc vs : Value) (w : World) (hn : n ≤ 1000) (hB : Box w g (.slice ao n cap) vc vs) (hc : ∃ a b d, vc = .slice a b d) (hs : ∃ a b d, vs = .slice a b d) :
    Calls Tryz.prog 129 #[.agg #[.int .i64 c.kd, .int .i64 c.fr, .int .i64 c.tt], .pointer (some ⟨g, 0, none⟩)] w fun e w' => e = .returned (.bool (placeBad n c)) ∧ Below w.heap.size w w' := by
  obtain ⟨a1, b1, d1, rfl⟩ := hc
  obtain ⟨a2, b2, d2, rfl⟩ := hs
  generalize h1 : withinB c.fr 0 ((n : Int) - 1) = q1
  generalize h2 : withinB c.tt 0 ((n : Int) - 1) = q2
  generalize h3 : (c.fr == c.tt) = q3
  have HE : Hid (placeBad n c = (!q1 || !q2 || q3)) := by show placeBad n c = _; unfold placeBad; rw [h1, h2, h3]
  have H1 := Lib.hid h1
  have H2 := Lib.hid h2
  have HB := Lib.hid hB
  have k0 := (HB.out.up (w' := w.alloc (.cells #[.int .i64 c.kd, .int .i64 c.fr, .int .i64 c.tt] 126)) ((Below.refl _ _).alloc (Nat.le_refl _) _)).p
  have k1 := (HB.out.up (w' := w.alloc (.cells #[.int .i64 c.kd, .int .i64 c.fr, .int .i64 c.tt] 126)) ((Below.refl _ _).alloc (Nat.le_refl _) _)).c
  have k2 := (HB.out.up (w' := w.alloc (.cells #[.int .i64 c.kd, .int .i64 c.fr, .int .i64 c.tt] 126)) ((Below.refl _ _).alloc (Nat.le_refl _) _)).s
  clear h1 h2 hB
  have hlt := HB.out.lt
  cases q1
  · go_enter Tryz.func129, Tryz.ntmps129
    go_wp2_with fail
    refine (isPart_any ao n cap _ _ c.fr _ hn).mono ?_
    rw [H1.out]
    rintro e w1 ⟨rfl, bb⟩
    have D := Lib.hid (Below.trans (show Below w.heap.size w _ from up0) (bb.mono (by simp)))
    clear bb
    go_wp2
    go_ret
    exact ⟨ret_bool (by rw [HE.out]; rfl), D.out⟩
  · go_enter Tryz.func129, Tryz.ntmps129
    go_wp2_with fail
    refine (isPart_any ao n cap _ _ c.fr _ hn).mono ?_
    rw [H1.out]
    rintro e w1 ⟨rfl, bb⟩
    have D := Lib.hid (Below.trans (show Below w.heap.size w _ from up0) (bb.mono (by simp)))
    have k0 := (HB.out.up D.out).p
    have k1 := (HB.out.up D.out).c
    have k2 := (HB.out.up D.out).s
    have m0 : w1.cell? ⟨w.heap.size, 0, none⟩ = some (.int .i64 c.kd) := bcl bb (by simp) (by simp)
    have m1 : w1.cell? ⟨w.heap.size, 1, none⟩ = some (.int .i64 c.fr) := bcl bb (by simp) (by simp)
    have m2 : w1.cell? ⟨w.heap.size, 2, none⟩ = some (.int .i64 c.tt) := bcl bb (by simp) (by simp)
    have z1 : w.heap.size < w1.heap.size := by have := bb.size; simp at this; omega
    clear bb
    go_wp2_with fail
    refine (isPart_any ao n cap _ _ c.tt _ hn).mono ?_
    rw [H2.out]
    rintro e w2 ⟨rfl, bb⟩
    have m1 : w2.cell? ⟨w.heap.size, 1, none⟩ = some (.int .i64 c.fr) := bcl bb z1 m1
    have m2 : w2.cell? ⟨w.heap.size, 2, none⟩ = some (.int .i64 c.tt) := bcl bb z1 m2
    have D := Lib.hid (D.out.trans (bb.mono (Nat.le_of_lt z1)))
    clear bb k0 k1 k2 m0 z1
    cases q2
    · go_wp2
      go_ret
      exact ⟨ret_bool (by rw [HE.out]; rfl), D.out⟩
    · cases q3
      all_goals
        go_wp2
        go_ret
        exact ⟨ret_bool (by rw [HE.out]; rfl), D.out⟩
set_option maxHeartbeats 1000000 in
theorem slotLit_any (c : Slt) (g : Nat) (ao : Option Addr) (n cap : Nat) (vc vs : Value) (w : World) (hn : n ≤ 1000) (hB : Box w g (.slice ao n cap) vc vs) (hc : ∃ a b d, vc = .slice a b d) (hs : ∃ a b d, vs = .slice a b d) :
    Calls Tryz.prog 132 #[.agg #[.int .i64 c.pt, .int .i64 c.tk], .pointer (some ⟨g, 0, none⟩)] w fun e w' => e = .returned (.bool (slotBad n c)) ∧ Below w.heap.size w w' := by
  obtain ⟨a1, b1, d1, rfl⟩ := hc
  obtain ⟨a2, b2, d2, rfl⟩ := hs
  generalize h1 : withinB c.pt 0 ((n : Int) - 1) = q1
  generalize h2 : withinB c.tk 1 8 = q2
  have HE : Hid (slotBad n c = (!q1 || !q2)) := by show slotBad n c = _; unfold slotBad; rw [h1, h2]
  have H1 := Lib.hid h1
  have H2 := Lib.hid h2
  have HB := Lib.hid hB
  have k0 := (HB.out.up (w' := w.alloc (.cells #[.int .i64 c.pt, .int .i64 c.tk] 128)) ((Below.refl _ _).alloc (Nat.le_refl _) _)).p
  have k1 := (HB.out.up (w' := w.alloc (.cells #[.int .i64 c.pt, .int .i64 c.tk] 128)) ((Below.refl _ _).alloc (Nat.le_refl _) _)).c
  have k2 := (HB.out.up (w' := w.alloc (.cells #[.int .i64 c.pt, .int .i64 c.tk] 128)) ((Below.refl _ _).alloc (Nat.le_refl _) _)).s
  clear h1 h2 hB
  have hlt := HB.out.lt
  go_enter Tryz.func132, Tryz.ntmps132
  go_wp2_with fail
  refine (isPart_any ao n cap _ _ c.pt _ hn).mono ?_
  rw [H1.out]
  rintro e w1 ⟨rfl, bb⟩
  have D := Lib.hid (Below.trans (show Below w.heap.size w _ from up0) (bb.mono (by simp)))
  have m1 : w1.cell? ⟨w.heap.size, 1, none⟩ = some (.int .i64 c.tk) := bcl bb (by simp) (by simp)
  clear bb k0 k1 k2
  cases q1
  · go_wp2
    go_ret
    exact ⟨ret_bool (by rw [HE.out]; rfl), D.out⟩
  · go_wp2_with fail
    refine (cwithin_any c.tk 1 8 _).mono ?_
    rw [H2.out]
    rintro e w2 ⟨rfl, rfl⟩
    cases q2
    all_goals
      go_wp2
      go_ret
      exact ⟨ret_bool (by rw [HE.out]; rfl), D.out⟩
end Go.Proofs.YtbkdoohhdkahiaaGreatDoor
namespace Go.Proofs.YtbkdoohhdkahiaaGreatDoor
set_option linter.unusedSimpArgs false
set_option linter.unusedVariables false
open Go.RowKit Go.Sort
theorem below_drewN {B : Nat} {a w : World} (h : Below B a w) (n : Nat) : Below B a (w.drewN n) := ⟨h.os, h.tape, h.output, h.size, h.block⟩
theorem enCheck1 : Enters 79 := enters Tryz.func79 (by kernel_rfl) (by kernel_rfl)
theorem enCounts1 : Enters 127 := enters Tryz.func127 (by kernel_rfl) (by kernel_rfl)
theorem enPlaces1 : Enters 129 := enters Tryz.func129 (by kernel_rfl) (by kernel_rfl)
theorem enPlaces2 : Enters 132 := enters Tryz.func132 (by kernel_rfl) (by kernel_rfl)
theorem enNames1 : Enters 135 := enters Tryz.func135 (by kernel_rfl) (by kernel_rfl)
theorem enNames2 : Enters 137 := enters Tryz.func137 (by kernel_rfl) (by kernel_rfl)
set_option maxHeartbeats 1000000 in
theorem counts_any (S : SysD) (vp vc vs : Value) (w : World) (hS : Sys w vp vc vs S) : Calls Tryz.prog 76 #[.agg #[vp, vc, vs]] w fun e w' => e = .returned (.bool (countsB S)) ∧ Below w.heap.size w w' := by
  obtain ⟨pa, pc, rfl⟩ := hS.p.form
  obtain ⟨ca, cc, rfl⟩ := hS.c.form
  obtain ⟨sa, sc, rfl⟩ := hS.s.form
  generalize h1 : withinB (S.parts.length : Int) 1 4 = q1
  generalize h3 : withinB (S.slots.length : Int) 1 6 = q3
  generalize h4 : (S.parts.any fun p => decide (12 < p.inn.length)) = q4
  have H1 := Lib.hid h1
  have H3 := Lib.hid h3
  have H4 := Lib.hid h4
  have HS := Lib.hid hS
  by_cases h2 : S.chans.length ≤ 6
  · have h2' : (S.chans.length : Int) ≤ 6 := by omega
    have HE : Hid (countsB S = (q1 && q3 && !q4)) := by
      show countsB S = _
      unfold countsB
      rw [h4, ← h1, ← h3]
      unfold withinB
      congr 1
      rw [Bool.eq_iff_iff]
      simp; omega
    have HP : q1 = true → S.parts.length ≤ 1000 := fun e => by subst e; unfold withinB at h1; simp at h1; omega
    clear h1 h3 h4 hS
    go_enter Tryz.func76, Tryz.ntmps76
    go_wp2_with fail
    refine (cwithin_any _ _ _ _).mono ?_
    rw [H1.out]
    rintro e w1 ⟨rfl, rfl⟩
    cases q1
    · go_wp2
      go_ret
      exact ⟨ret_bool (by rw [HE.out]; rfl), up0⟩
    · have hp := HP rfl
      clear HP
      go_wp2_with fail
      refine (cwithin_any _ _ _ _).mono ?_
      rw [H3.out]
      rintro e w1 ⟨rfl, rfl⟩
      cases q3
      · go_wp2
        go_ret
        exact ⟨ret_bool (by rw [HE.out]; rfl), up0⟩
      · go_wp2_with fail
        refine (onePart_any S.parts _ _ enCounts1 #[] (fun p => decide (12 < p.inn.length)) _ (HS.out.p.up up0) hp (fun k hk c i w1 hpr _ => ?_) q4 H4.out).mono ?_
        · obtain ⟨a1, b1, rfl⟩ := hpr.code.form
          obtain ⟨a2, b2, rfl⟩ := hpr.inn.form
          rw [app0]
          exact countLit_any _ _ _ _ _ _ _
        rintro e w2 ⟨rfl, bb⟩
        have D := Lib.hid (Below.trans (show Below w.heap.size w _ from up0) (bb.mono (by simp)))
        clear bb
        cases q4
        all_goals
          go_wp2
          go_ret
          exact ⟨ret_bool (by rw [HE.out]; rfl), D.out⟩
  · have h2' : ¬ (S.chans.length : Int) ≤ 6 := by omega
    have HE : Hid (countsB S = false) := by
      show countsB S = _
      unfold countsB
      simp; omega
    clear h1 h3 h4 hS
    go_enter Tryz.func76, Tryz.ntmps76
    go_wp2_with fail
    refine (cwithin_any _ _ _ _).mono ?_
    rw [H1.out]
    rintro e w1 ⟨rfl, rfl⟩
    cases q1
    all_goals
      go_wp2
      go_ret
      exact ⟨ret_bool (by rw [HE.out]), up0⟩
set_option maxHeartbeats 1000000 in
theorem places_any (S : SysD) (vp vc vs : Value) (w : World) (hS : Sys w vp vc vs S) (hc : countsB S = true) : Calls Tryz.prog 80 #[.agg #[vp, vc, vs]] w fun e w' => e = .returned (.bool (placesB S)) ∧ Below w.heap.size w w' := by
  have hn : S.parts.length ≤ 1000 ∧ S.chans.length ≤ 1000 ∧ S.slots.length ≤ 1000 := by unfold countsB at hc; simp at hc; omega
  obtain ⟨hn1, hn2, hn3⟩ := hn
  obtain ⟨pa, pc, rfl⟩ := hS.p.form
  obtain ⟨ca, cc, rfl⟩ := hS.c.form
  obtain ⟨sa, sc, rfl⟩ := hS.s.form
  generalize h1 : S.chans.any (placeBad S.parts.length) = q1
  generalize h2 : S.slots.any (slotBad S.parts.length) = q2
  have HE : Hid (placesB S = (!q1 && !q2)) := by show placesB S = _; unfold placesB; rw [h1, h2]
  have H1 := Lib.hid h1
  have H2 := Lib.hid h2
  have HS := Lib.hid hS
  clear h1 h2 hS hc
  go_enter Tryz.func80, Tryz.ntmps80
  go_wp2_with fail
  refine (oneChan_any S.chans _ _ enPlaces1 _ (placeBad S.parts.length) _ (HS.out.c.up up0) hn2 (fun k hk w1 hb => ?_) q1 H1.out).mono ?_
  · rw [app1]
    exact placeLit_any _ _ _ _ _ _ _ _ hn1 ((box_new w _ _ _ _ _ rfl).up hb) ⟨_, _, _, rfl⟩ ⟨_, _, _, rfl⟩
  rintro e w2 ⟨rfl, bb⟩
  have D := Lib.hid (Below.trans (show Below w.heap.size w _ from up0) (bb.mono (by simp)))
  have HB := Lib.hid ((box_new w (.slice pa S.parts.length pc) (.slice ca S.chans.length cc) (.slice sa S.slots.length sc) 39 _ rfl).up bb)
  have k2 := HB.out.s
  clear bb
  cases q1
  · go_wp2_with fail
    refine (oneSlot_any S.slots _ _ enPlaces2 _ (slotBad S.parts.length) _ (HS.out.s.up D.out) hn3 (fun k hk w1 hb => ?_) q2 H2.out).mono ?_
    · rw [app1]
      exact slotLit_any _ _ _ _ _ _ _ _ hn1 (HB.out.up hb) ⟨_, _, _, rfl⟩ ⟨_, _, _, rfl⟩
    rintro e w3 ⟨rfl, bb⟩
    have D := Lib.hid (D.out.trans (bb.mono D.out.size))
    clear bb
    cases q2
    all_goals
      go_wp2
      go_ret
      exact ⟨ret_bool (by rw [HE.out]; rfl), D.out⟩
  · go_wp2
    go_ret
    exact ⟨ret_bool (by rw [HE.out]; rfl), D.out⟩
set_option maxHeartbeats 1000000 in
theorem putLit_any (c : Nat) (l : List Chn) (me : Int) (g m : Nat) (vp vc vs : Value) (w : World) (hB : Box w g vp vc vs) (hm : w.cell? ⟨m, 0, none⟩ = some (.int .i64 me)) (hS : Sl w 3 vc l.length (rowC chC l)) (hc : c < 6) :
    Calls Tryz.prog 135 #[.int .i64 c, .pointer (some ⟨g, 0, none⟩), .pointer (some ⟨m, 0, none⟩)] w fun e w' => e = .returned (.bool (putBad l me c)) ∧ Below w.heap.size w w' := by
  obtain ⟨ca, cc, rfl⟩ := hS.form
  have k1 := hB.c
  by_cases h : c < l.length
  · have h' : (c : Int) < l.length := by omega
    have h0 : (0 : Int) ≤ c := by omega
    have hd : decide ((l.length : Int) ≤ c) = false := by simp; omega
    obtain ⟨b, off, cap, e1, hcap, hbw, hcs⟩ := hS.open (by omega)
    cases e1
    obtain ⟨c0, c1, c2⟩ := chan_cells hcs c h
    generalize hq : (l[c].fr != me) = q
    have HE : Hid (putBad l me c = q) := by
      show putBad l me c = q
      unfold putBad
      rw [show ((c : Int)).toNat = c from rfl, List.getElem?_eq_getElem h]
      exact hq
    clear hcs hS hB
    go_enter Tryz.func135, Tryz.ntmps135
    go_wp2
    go_quiet (fail)
    all_goals go_wp2
    all_goals go_ret
    all_goals exact ⟨ret_bool (by rw [HE.out]; try simp [Nat.not_le.2 h]), by first | exact Below.refl _ _ | exact below_drewN (Below.refl _ _) _ | exact (Below.refl _ _).drew⟩
  · have h' : ¬ (c : Int) < l.length := by omega
    have hd : decide ((l.length : Int) ≤ c) = true := by simp; omega
    have HE : Hid (putBad l me c = true) := by
      show putBad l me c = _
      unfold putBad
      rw [show ((c : Int)).toNat = c from rfl, List.getElem?_eq_none (by omega)]
    clear hS hB h
    go_enter Tryz.func135, Tryz.ntmps135
    go_wp2
    go_quiet (fail)
    all_goals go_wp2
    all_goals go_ret
    all_goals exact ⟨ret_bool (by rw [HE.out]; try simp [Nat.not_le.2 h]), by first | exact Below.refl _ _ | exact below_drewN (Below.refl _ _) _ | exact (Below.refl _ _).drew⟩
set_option maxHeartbeats 1000000 in
theorem getLit_any (c : Nat) (l : List Chn) (me : Int) (g m : Nat) (vp vc vs : Value) (w : World) (hB : Box w g vp vc vs) (hm : w.cell? ⟨m, 0, none⟩ = some (.int .i64 me)) (hS : Sl w 3 vc l.length (rowC chC l)) (hc : c < 6) :
    Calls Tryz.prog 137 #[.int .i64 c, .pointer (some ⟨g, 0, none⟩), .pointer (some ⟨m, 0, none⟩)] w fun e w' => e = .returned (.bool (getBad l me c)) ∧ Below w.heap.size w w' := by
  obtain ⟨ca, cc, rfl⟩ := hS.form
  have k1 := hB.c
  by_cases h : c < l.length
  · have h' : (c : Int) < l.length := by omega
    have h0 : (0 : Int) ≤ c := by omega
    have hd : decide ((l.length : Int) ≤ c) = false := by simp; omega
    obtain ⟨b, off, cap, e1, hcap, hbw, hcs⟩ := hS.open (by omega)
    cases e1
    obtain ⟨c0, c1, c2⟩ := chan_cells hcs c h
    generalize hq : (l[c].tt != me) = q
    have HE : Hid (getBad l me c = q) := by
      show getBad l me c = q
      unfold getBad
      rw [show ((c : Int)).toNat = c from rfl, List.getElem?_eq_getElem h]
      exact hq
    clear hcs hS hB
    go_enter Tryz.func137, Tryz.ntmps137
    go_wp2
    go_quiet (fail)
    all_goals go_wp2
    all_goals go_ret
    all_goals exact ⟨ret_bool (by rw [HE.out]; try simp [Nat.not_le.2 h]), by first | exact Below.refl _ _ | exact below_drewN (Below.refl _ _) _ | exact (Below.refl _ _).drew⟩
  · have h' : ¬ (c : Int) < l.length := by omega
    have hd : decide ((l.length : Int) ≤ c) = true := by simp; omega
    have HE : Hid (getBad l me c = true) := by
      show getBad l me c = _
      unfold getBad
      rw [show ((c : Int)).toNat = c from rfl, List.getElem?_eq_none (by omega)]
    clear hS hB h
    go_enter Tryz.func137, Tryz.ntmps137
    go_wp2
    go_quiet (fail)
    all_goals go_wp2
    all_goals go_ret
    all_goals exact ⟨ret_bool (by rw [HE.out]; try simp [Nat.not_le.2 h]), by first | exact Below.refl _ _ | exact below_drewN (Below.refl _ _) _ | exact (Below.refl _ _).drew⟩
end Go.Proofs.YtbkdoohhdkahiaaGreatDoor
namespace Go.Proofs.YtbkdoohhdkahiaaGreatDoor
set_option linter.unusedSimpArgs false
set_option linter.unusedVariables false
open Go.RowKit Go.Sort
theorem chanL_nat {l : List Ins} {op : Int} {m k : Nat} (h : k < (chanL l op m).length) : ∃ c : Nat, (chanL l op m)[k] = (c : Int) ∧ c < m := by
  have hm := List.getElem_mem h
  unfold chanL at hm
  obtain ⟨c, hc, e⟩ := List.mem_map.1 hm
  exact ⟨c, e.symm, by simpa using (List.mem_filter.1 hc).1⟩
theorem namesFrom_at (l : List Chn) : ∀ (ps : List Prt) (k j : Nat) (h : j < ps.length), nameBad l ((k + j : Nat) : Int) ps[j] = true → namesFrom l k ps = false
  | p :: r, k, 0, _, hb => by
    rw [namesFrom, if_pos (by simpa using hb)]
  | p :: r, k, j + 1, h, hb => by
    rw [namesFrom]
    split
    · rfl
    · exact namesFrom_at l r (k + 1) j (by simpa using h) (by rw [show k + 1 + j = k + (j + 1) by omega]; simpa using hb)
theorem namesFrom_all (l : List Chn) : ∀ (ps : List Prt) (k : Nat), (∀ j (h : j < ps.length), nameBad l ((k + j : Nat) : Int) ps[j] = false) → namesFrom l k ps = true
  | [], _, _ => rfl
  | p :: r, k, hz => by
    rw [namesFrom, if_neg (by have := hz 0 (by simp); simpa using this)]
    exact namesFrom_all l r (k + 1) (fun j h => by rw [show k + 1 + j = k + (j + 1) by omega]; have := hz (j + 1) (by simpa using h); simpa using this)
set_option maxHeartbeats 2000000 in
theorem names_any (S : SysD) (vp vc vs : Value) (w : World) (he : Env w) (hS : Sys w vp vc vs S) (hc : countsB S = true) (hp : firstP S.parts = 0) : Calls Tryz.prog 81 #[.agg #[vp, vc, vs]] w fun e w' => e = .returned (.bool (namesB S)) ∧ Below w.heap.size w w' := by
  have hn : 1 ≤ S.parts.length ∧ S.parts.length ≤ 4 ∧ S.chans.length ≤ 6 := by unfold countsB at hc; simp at hc; omega
  obtain ⟨hn0, hn1, hn2⟩ := hn
  obtain ⟨pb, po, pc, rfl, hpc, hpb, hpp⟩ := hS.p.open (by omega)
  obtain ⟨ca, cc, rfl⟩ := hS.c.form
  obtain ⟨sa, sc, rfl⟩ := hS.s.form
  have HS := Lib.hid hS
  have HP := Lib.hid hpp
  have HZ := Lib.hid (firstP_zero hp)
  generalize hr : namesB S = r
  have HR := Lib.hid hr
  clear hS hpp hp hr hc
  go_enter Tryz.func81, Tryz.ntmps81
  go_wp2
  go_loopw [12] (fun i wr => ∃ k : Nat, i = .int .i64 k ∧ k ≤ S.parts.length ∧ Hid (∀ j (h : j < S.parts.length), j < k → nameBad S.chans (j : Int) S.parts[j] = false) ∧ Hid (Box wr w.heap.size (.slice (some ⟨pb, po, none⟩) S.parts.length pc) (.slice ca S.chans.length cc) (.slice sa S.slots.length sc)) ∧ Hid (Below w.heap.size w wr)) (fun i _ => S.parts.length - (intOf i).toNat)
  case atStart => exact ⟨0, rfl, Nat.zero_le _, fun j hj h => by omega, box_new w _ _ _ _ _ rfl, up0⟩
  case round =>
    obtain ⟨k, rfl, hk, HN, HB, hbel⟩ := hrel
    by_cases hlt : k < S.parts.length
    · have hli : (k : Int) < S.parts.length := by omega
      obtain ⟨c, i, c0, c1, hpr⟩ := HP.out k hlt
      obtain ⟨a1, b1, rfl⟩ := hpr.code.form
      obtain ⟨a2, b2, rfl⟩ := hpr.inn.form
      have c0 := bcl hbel.out hpb c0
      have c1 := bcl hbel.out hpb c1
      have HPR := Lib.hid hpr
      have hcz := HZ.out k hlt
      have HCZ := Lib.hid hcz
      clear hpr hcz
      have hbs := hbel.out.size
      generalize hq1 : (chanL S.parts[k].code 12 6).any (putBad S.chans (k : Int)) = q1
      generalize hq2 : (chanL S.parts[k].code 13 6).any (getBad S.chans (k : Int)) = q2
      have H1 := Lib.hid hq1
      have H2 := Lib.hid hq2
      have HNB : Hid (nameBad S.chans (k : Int) S.parts[k] = (q1 || q2)) := by show nameBad _ _ _ = _; unfold nameBad; rw [hq1, hq2]
      clear hq1 hq2
      have e0 := he.up hbel.out
      go_wp2_with fail
      refine (puts_yes S.parts[k].code _ _ (e0.up up0) ((HPR.out.code.up hbel.out).up up0) HCZ.out).mono ?_
      rintro e w1 ⟨v1, rfl, s1, bb⟩
      obtain ⟨v1a, v1c, rfl⟩ := s1.form
      have D : Below wr.heap.size wr w1 := Below.trans up0 (bb.mono (by simp; omega))
      have m0 : w1.cell? ⟨wr.heap.size, 0, none⟩ = some (.int .i64 k) := bcl bb (by simp; omega) (cl_alloc _ (by simp) (by simp))
      have p0 : w1.cell? ⟨wr.heap.size + 1, 0, none⟩ = some (.slice a1 S.parts[k].code.length b1) := bcl bb (by simp) (by simp)
      have z1 : wr.heap.size + 1 < w1.heap.size := by have := bb.size; simp at this; omega
      have HD := Lib.hid D
      have M0 := Lib.hid m0
      have S1 := Lib.hid s1
      clear bb D s1 m0 c0 c1
      go_wp2_with fail
      refine (oneInt_any _ _ _ enNames1 _ (putBad S.chans (k : Int)) _ S1.out (Nat.le_trans (chanL_len _ _ _) (by decide)) (fun j hj w2 hb => ?_) q1 H1.out).mono ?_
      · obtain ⟨c, e, hc6⟩ := chanL_nat hj
        rw [e, app2]
        exact putLit_any c S.chans k _ _ _ _ _ _ ((HB.out.up HD.out).up hb) (bcl hb (by omega) M0.out) (((HS.out.c.up hbel.out).up HD.out).up hb) hc6
      rintro e w2 ⟨rfl, bb⟩
      have p0 : w2.cell? ⟨wr.heap.size + 1, 0, none⟩ = some (.slice a1 S.parts[k].code.length b1) := bcl bb z1 p0
      have M0 := Lib.hid (bcl bb (by omega) M0.out)
      have HD := Lib.hid (HD.out.trans (bb.mono HD.out.size))
      have z1 : wr.heap.size + 1 < w2.heap.size := by have := bb.size; omega
      clear bb S1
      cases q1
      · go_wp2_with fail
        refine (gets_yes S.parts[k].code _ _ (e0.up HD.out) ((HPR.out.code.up hbel.out).up HD.out) HCZ.out).mono ?_
        rintro e w3 ⟨v2, rfl, s2, bb⟩
        obtain ⟨v2a, v2c, rfl⟩ := s2.form
        have M0 := Lib.hid (bcl bb (by omega) M0.out)
        have HD := Lib.hid (HD.out.trans (bb.mono HD.out.size))
        have z1 : wr.heap.size + 1 < w3.heap.size := by have := bb.size; omega
        have S2 := Lib.hid s2
        clear bb s2 p0
        go_wp2_with fail
        refine (oneInt_any _ _ _ enNames2 _ (getBad S.chans (k : Int)) _ S2.out (Nat.le_trans (chanL_len _ _ _) (by decide)) (fun j hj w2 hb => ?_) q2 H2.out).mono ?_
        · obtain ⟨c, e, hc6⟩ := chanL_nat hj
          rw [e, app2]
          exact getLit_any c S.chans k _ _ _ _ _ _ ((HB.out.up HD.out).up hb) (bcl hb (by omega) M0.out) (((HS.out.c.up hbel.out).up HD.out).up hb) hc6
        rintro e w4 ⟨rfl, bb⟩
        have HD := Lib.hid (HD.out.trans (bb.mono HD.out.size))
        have HW := Lib.hid (hbel.out.trans (HD.out.mono hbs))
        clear bb S2
        cases q2
        · have HBB := Lib.hid (HB.out.up HD.out)
          go_wp2
          go_roundw
          case rel => exact ⟨k + 1, by go_num, by omega, (fun j hj hjk => by
            by_cases e : j = k
            · subst e; exact HNB.out
            · exact HN.out j hj (by omega)), HBB, HW⟩
          case measure => simp [intOf]; omega
        · have HF := Lib.hid (namesFrom_at S.chans S.parts 0 k hlt (by rw [Nat.zero_add]; exact HNB.out))
          go_wp2
          go_ret
          exact ⟨ret_bool (by rw [← HR.out]; exact HF.out.symm), HW.out⟩
      · have HW := Lib.hid (hbel.out.trans (HD.out.mono hbs))
        have HF := Lib.hid (namesFrom_at S.chans S.parts 0 k hlt (by rw [Nat.zero_add]; exact HNB.out))
        go_wp2
        go_ret
        exact ⟨ret_bool (by rw [← HR.out]; exact HF.out.symm), HW.out⟩
    · have hli : ¬ (k : Int) < S.parts.length := by omega
      have HF := Lib.hid (namesFrom_all S.chans S.parts 0 (fun j hj => by rw [Nat.zero_add]; exact HN.out j hj (by omega)))
      go_wp2
      go_ret
      exact ⟨ret_bool (by rw [← HR.out]; exact HF.out.symm), hbel.out⟩
end Go.Proofs.YtbkdoohhdkahiaaGreatDoor

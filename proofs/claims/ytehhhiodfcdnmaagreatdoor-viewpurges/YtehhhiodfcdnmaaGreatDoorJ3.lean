/- view.copied, of whatever it copies; isPart, checkPart. -/
import Derived.Test.YtehhhiodfcdnmaaGreatDoorJ2
import Derived.RangeFuncNested
import Derived.RangeFuncBound
import Derived.RangeFuncCalls
import Derived.RangeFuncLeaves
import Derived.RangeFuncBox
import Derived.Shelf.Abstract
import Derived.Shelf.RegionOpen
import Derived.WalkKit
import Derived.OwnWalkIn
import Derived.TacticsInMore
import Derived.LoopNIn
import Derived.LoopIn
import Derived.Test.YtehhhiodfcdnmaaGreatDoorJ0
import Derived.Deep.CutRange
import Derived.Deep.RegionWith
import Derived.Deep.RegionHeld3
import Derived.Deep.DrawnRows
import Derived.Deep.RegionLaw
namespace Go.Proofs.YtehhhiodfcdnmaaGreatDoor
set_option linter.unusedSimpArgs false
set_option linter.unusedVariables false
open Go.RowKit Go.Sort
set_option maxHeartbeats 1000000 in
theorem vcopChan_any (l : List Chn) (hl : l.length ≤ 1000) (v : Value) (w : World) (hS : Sl w 3 v l.length (rowC chC l)) :
    Calls Tryz.prog 86 #[v] w fun e w' => ∃ v', e = .returned v' ∧ w'.ownsRow w.heap.size 89 3 v' l.length (rowC chC l) ∧ Below w.heap.size w w' := by
  obtain ⟨i0, hi, hz0, hz1, hz2⟩ := info_parts infoChan
  by_cases h0 : l.length = 0
  · obtain ⟨ao, cap, rfl⟩ := hS.form
    have hxs : l = [] := List.length_eq_zero_iff.1 h0
    subst hxs
    clear hS h0 hl
    go_enter Tryz.func86, Tryz.ntmps86
    cases ao
    all_goals
      go_wp2
      go_ret
      exact ⟨_, rfl, World.ownsRow_nil _ _ _ _, Below.refl _ _⟩
  · obtain ⟨b, off, cap, rfl, hcap, hbw, hc⟩ := hS.open (by omega)
    have HCC := Lib.hid hc
    clear hS hc
    go_enter Tryz.func86, Tryz.ntmps86
    go_wp2_with (at_builtin; refine wpList_append_lies _ rfl (.const (.slice none 0 0)) (.tmp 3) 23 rfl w.heap.size 89 i0 (.agg #[.int .i64 0, .int .i64 0, .int .i64 0]) 3 24 Tryz.underlying23 hi hz0 hz1 hz2 rfl (by decide) (.slice none 0 0) 0 [] rfl (World.ownsRow_nil _ _ _ _) ⟨b, off, none⟩ l.length cap (rowC chC l) rfl (rowC_len (f := chC) (s := 3) (fun _ => rfl) l) (sl_src HCC.out) (rowC_one chC_one l) (by omega) (by unfold maxLen; omega) (by omega) (Nat.le_refl _) _ rfl ?_)
    intro g cap1 w3 hown hgrow hat hglt
    have hu := Lib.hid ((Below.refl w.heap.size w).grown hgrow (Nat.le_refl _) (fun k hk => by cases hk))
    have hown2 : w3.ownsRow w.heap.size 89 3 (.slice (some ⟨g, 0, none⟩) l.length cap1) l.length (rowC chC l) := by simpa using hown
    have HO := Lib.hid hown2
    clear hown hown2 hgrow hat HCC
    try simp only [Nat.zero_add]
    go_wp2
    go_ret
    exact ⟨_, rfl, HO.out, hu.out⟩
set_option maxHeartbeats 1000000 in
theorem vcopSlot_any (l : List Slt) (hl : l.length ≤ 1000) (v : Value) (w : World) (hS : Sl w 2 v l.length (rowC slC l)) :
    Calls Tryz.prog 87 #[v] w fun e w' => ∃ v', e = .returned v' ∧ w'.ownsRow w.heap.size 105 2 v' l.length (rowC slC l) ∧ Below w.heap.size w w' := by
  obtain ⟨i0, hi, hz0, hz1, hz2⟩ := info_parts infoSlot
  by_cases h0 : l.length = 0
  · obtain ⟨ao, cap, rfl⟩ := hS.form
    have hxs : l = [] := List.length_eq_zero_iff.1 h0
    subst hxs
    clear hS h0 hl
    go_enter Tryz.func87, Tryz.ntmps87
    cases ao
    all_goals
      go_wp2
      go_ret
      exact ⟨_, rfl, World.ownsRow_nil _ _ _ _, Below.refl _ _⟩
  · obtain ⟨b, off, cap, rfl, hcap, hbw, hc⟩ := hS.open (by omega)
    have HCC := Lib.hid hc
    clear hS hc
    go_enter Tryz.func87, Tryz.ntmps87
    go_wp2_with (at_builtin; refine wpList_append_lies _ rfl (.const (.slice none 0 0)) (.tmp 3) 24 rfl w.heap.size 105 i0 (.agg #[.int .i64 0, .int .i64 0]) 2 16 Tryz.underlying24 hi hz0 hz1 hz2 rfl (by decide) (.slice none 0 0) 0 [] rfl (World.ownsRow_nil _ _ _ _) ⟨b, off, none⟩ l.length cap (rowC slC l) rfl (rowC_len (f := slC) (s := 2) (fun _ => rfl) l) (sl_src HCC.out) (rowC_one slC_one l) (by omega) (by unfold maxLen; omega) (by omega) (Nat.le_refl _) _ rfl ?_)
    intro g cap1 w3 hown hgrow hat hglt
    have hu := Lib.hid ((Below.refl w.heap.size w).grown hgrow (Nat.le_refl _) (fun k hk => by cases hk))
    have hown2 : w3.ownsRow w.heap.size 105 2 (.slice (some ⟨g, 0, none⟩) l.length cap1) l.length (rowC slC l) := by simpa using hown
    have HO := Lib.hid hown2
    clear hown hown2 hgrow hat HCC
    try simp only [Nat.zero_add]
    go_wp2
    go_ret
    exact ⟨_, rfl, HO.out, hu.out⟩
set_option maxHeartbeats 1000000 in
theorem vcopIns_any (l : List Ins) (hl : l.length ≤ 1000) (v : Value) (w : World) (hS : Sl w 4 v l.length (codeC l)) :
    Calls Tryz.prog 85 #[v] w fun e w' => ∃ v', e = .returned v' ∧ w'.ownsRow w.heap.size 83 4 v' l.length (codeC l) ∧ Below w.heap.size w w' := by
  obtain ⟨i0, hi, hz0, hz1, hz2⟩ := info_parts infoIns
  by_cases h0 : l.length = 0
  · obtain ⟨ao, cap, rfl⟩ := hS.form
    have hxs : l = [] := List.length_eq_zero_iff.1 h0
    subst hxs
    clear hS h0 hl
    go_enter Tryz.func85, Tryz.ntmps85
    cases ao
    all_goals
      go_wp2
      go_ret
      exact ⟨_, rfl, World.ownsRow_nil _ _ _ _, Below.refl _ _⟩
  · obtain ⟨b, off, cap, rfl, hcap, hbw, hc⟩ := hS.open (by omega)
    have HCC := Lib.hid hc
    clear hS hc
    go_enter Tryz.func85, Tryz.ntmps85
    go_wp2_with (at_builtin; refine wpList_append_lies _ rfl (.const (.slice none 0 0)) (.tmp 3) 47 rfl w.heap.size 83 i0 (.agg #[.int .i64 0, .int .i64 0, .int .i64 0, .int .i64 0]) 4 32 Tryz.underlying47 hi hz0 hz1 hz2 rfl (by decide) (.slice none 0 0) 0 [] rfl (World.ownsRow_nil _ _ _ _) ⟨b, off, none⟩ l.length cap (codeC l) rfl (codeC_len l) (sl_src HCC.out) (codeC_one l) (by omega) (by unfold maxLen; omega) (by omega) (Nat.le_refl _) _ rfl ?_)
    intro g cap1 w3 hown hgrow hat hglt
    have hu := Lib.hid ((Below.refl w.heap.size w).grown hgrow (Nat.le_refl _) (fun k hk => by cases hk))
    have hown2 : w3.ownsRow w.heap.size 83 4 (.slice (some ⟨g, 0, none⟩) l.length cap1) l.length (codeC l) := by simpa using hown
    have HO := Lib.hid hown2
    clear hown hown2 hgrow hat HCC
    try simp only [Nat.zero_add]
    go_wp2
    go_ret
    exact ⟨_, rfl, HO.out, hu.out⟩
set_option maxHeartbeats 1000000 in
theorem vcopInt_any (l : List Int) (hl : l.length ≤ 1000) (v : Value) (w : World) (hS : Sl w 1 v l.length (ints l)) :
    Calls Tryz.prog 32 #[v] w fun e w' => ∃ v', e = .returned v' ∧ w'.ownsRow w.heap.size 3 1 v' l.length (ints l) ∧ Below w.heap.size w w' := by
  obtain ⟨i0, hi, hz0, hz1, hz2⟩ := info_parts infoIntC
  by_cases h0 : l.length = 0
  · obtain ⟨ao, cap, rfl⟩ := hS.form
    have hxs : l = [] := List.length_eq_zero_iff.1 h0
    subst hxs
    clear hS h0 hl
    go_enter Tryz.func32, Tryz.ntmps32
    cases ao
    all_goals
      go_wp2
      go_ret
      exact ⟨_, rfl, World.ownsRow_nil _ _ _ _, Below.refl _ _⟩
  · obtain ⟨b, off, cap, rfl, hcap, hbw, hc⟩ := hS.open (by omega)
    have HCC := Lib.hid hc
    clear hS hc
    go_enter Tryz.func32, Tryz.ntmps32
    go_wp2_with (at_builtin; refine wpList_append_lies _ rfl (.const (.slice none 0 0)) (.tmp 3) 33 rfl w.heap.size 3 i0 (.int .i64 0) 1 8 Tryz.underlying33 hi hz0 hz1 hz2 rfl (by decide) (.slice none 0 0) 0 [] rfl (World.ownsRow_nil _ _ _ _) ⟨b, off, none⟩ l.length cap (ints l) rfl (by simp [ints]) (sl_src HCC.out) (ints_cell l) (by omega) (by unfold maxLen; omega) (by omega) (Nat.le_refl _) _ rfl ?_)
    intro g cap1 w3 hown hgrow hat hglt
    have hu := Lib.hid ((Below.refl w.heap.size w).grown hgrow (Nat.le_refl _) (fun k hk => by cases hk))
    have hown2 : w3.ownsRow w.heap.size 3 1 (.slice (some ⟨g, 0, none⟩) l.length cap1) l.length (ints l) := by simpa using hown
    have HO := Lib.hid hown2
    clear hown hown2 hgrow hat HCC
    try simp only [Nat.zero_add]
    go_wp2
    go_ret
    exact ⟨_, rfl, HO.out, hu.out⟩
theorem enVcopIns : Enters 85 := enters Tryz.func85 (by kernel_rfl) (by kernel_rfl)
theorem enVcopInt : Enters 32 := enters Tryz.func32 (by kernel_rfl) (by kernel_rfl)
theorem enVcopChan : Enters 86 := enters Tryz.func86 (by kernel_rfl) (by kernel_rfl)
theorem enVcopSlot : Enters 87 := enters Tryz.func87 (by kernel_rfl) (by kernel_rfl)
def isPB (S : SysD) (n : Int) : Bool := decide (0 ≤ n) && decide (n < S.parts.length)
set_option maxHeartbeats 1000000 in
theorem visPart_any (S : SysD) (vp vc vs : Value) (n : Int) (w : World) (hS : Sys w vp vc vs S) (r : Bool) (hr : isPB S n = r) :
    Calls Tryz.prog 31 #[.agg #[vp, vc, vs], .int .i64 n] w fun e w' => e = .returned (.bool r) ∧ Below w.heap.size w w' := by
  obtain ⟨pa, pc, rfl⟩ := hS.p.form
  obtain ⟨ca, cc, rfl⟩ := hS.c.form
  obtain ⟨sa, sc, rfl⟩ := hS.s.form
  have HD : Hid (Below w.heap.size w (w.alloc (.cells #[.slice pa S.parts.length pc, .slice ca S.chans.length cc, .slice sa S.slots.length sc] 26))) := Lib.hid ((Below.refl _ _).alloc (Nat.le_refl _) _)
  have HR := Lib.hid hr
  clear hS hr
  by_cases h0 : 0 ≤ n
  · have e1 : Hid (decide (n < (S.parts.length : Int)) = r) := Lib.hid (by rw [← HR.out]; simp [isPB, h0])
    go_enter Tryz.func31, Tryz.ntmps31
    go_wp2
    go_ret
    exact ⟨ret_bool e1.out, HD.out⟩
  · have e1 : Hid (false = r) := Lib.hid (by rw [← HR.out]; simp [isPB, h0])
    have h0' : decide (0 ≤ n) = false := by simpa using h0
    go_enter Tryz.func31, Tryz.ntmps31
    go_wp2
    go_ret
    exact ⟨ret_bool e1.out, HD.out⟩
theorem isPB_th {S : SysD} (h : chkS S = 0) (n : Int) : thE S n = if isPB S n = true then 0 else 5 := by
  unfold thE isPB withinB
  rw [if_pos h]
  by_cases h1 : 0 ≤ n ∧ n < S.parts.length
  · rw [if_pos (by simp; omega), if_pos (by simp; omega)]
  · rw [if_neg (by simp; omega), if_neg (by simp; omega)]
set_option maxHeartbeats 2000000 in
theorem vcheckPart_any (S : SysD) (vp vc vs : Value) (n : Int) (w : World) (he : Env w) (hS : Sys w vp vc vs S) (r : Int) (hr : thE S n = r) :
    Calls Tryz.prog 44 #[.agg #[vp, vc, vs], .int .i64 n] w fun e w' => e = .returned (.int .i64 r) ∧ Below w.heap.size w w' := by
  obtain ⟨pa, pc, rfl⟩ := hS.p.form
  obtain ⟨ca, cc, rfl⟩ := hS.c.form
  obtain ⟨sa, sc, rfl⟩ := hS.s.form
  have HE := Lib.hid he
  have HS := Lib.hid hS
  have HR := Lib.hid hr
  clear he hS hr
  go_enter Tryz.func44, Tryz.ntmps44
  go_wp2_with fail
  refine (confCheck_any S _ _ _ _ (HE.out.up (by repeat (first | exact Below.refl _ _ | assumption | refine Below.drew ?_ | refine Below.alloc ?_ (by first | (simp; done) | (simp; omega)) _ | refine Below.setCell ?_ (by first | (simp; done) | (simp; omega)) _))) (HS.out.up (by repeat (first | exact Below.refl _ _ | assumption | refine Below.drew ?_ | refine Below.alloc ?_ (by first | (simp; done) | (simp; omega)) _ | refine Below.setCell ?_ (by first | (simp; done) | (simp; omega)) _)))).mono ?_
  rintro e w1 ⟨rfl, b1⟩
  have z1 := b1.size
  simp at z1
  have R0 : Hid (Rw w1 w.heap.size 26 #[.slice pa S.parts.length pc, .slice ca S.chans.length cc, .slice sa S.slots.length sc]) := Rw.up (by repeat (first | exact Rw.new _ _ _ (by first | rfl | (simp; done) | omega | (simp; omega)) | refine Rw.alloc ?_ _)) b1 (by first | omega | (simp; done) | (simp; omega))
  have HB : Hid (Below w.heap.size w w1) := by
    refine Below.trans ?_ (b1.mono (by first | omega | (simp; done) | (simp; omega)))
    exact (by repeat (first | exact Below.refl _ _ | assumption | refine Below.drew ?_ | refine Below.alloc ?_ (by first | (simp; done) | (simp; omega)) _ | refine Below.setCell ?_ (by first | (simp; done) | (simp; omega)) _))
  clear b1
  by_cases hk : chkS S = 0
  · have e1 := isPB_th hk n
    rw [HR.out] at e1
    have E1 := Lib.hid e1
    obtain ⟨q, hq⟩ : ∃ q, isPB S n = q := ⟨_, rfl⟩
    rw [hq] at E1
    have s0 := R0.out.cell (j := 0) (v := .slice pa S.parts.length pc) rfl
    have s1 := R0.out.cell (j := 1) (v := .slice ca S.chans.length cc) rfl
    have s2 := R0.out.cell (j := 2) (v := .slice sa S.slots.length sc) rfl
    rw [hk]
    clear hk e1
    go_wp2_with fail
    refine (visPart_any S _ _ _ n _ (HS.out.up HB.out) q hq).mono ?_
    rintro e w2 ⟨rfl, b2⟩
    have HB2 := Lib.hid (HB.out.trans (b2.mono HB.out.size))
    clear b2 s0 s1 s2 hq
    cases q with
    | true =>
      have e2 : r = 0 := E1.out
      subst e2
      go_wp2
      go_ret
      exact ⟨rfl, HB2.out⟩
    | false =>
      have e2 : r = 5 := E1.out
      subst e2
      go_wp2
      go_ret
      exact ⟨rfl, HB2.out⟩
  · have hkb : (chkS S == 0) = false := by simpa using hk
    have e2 : r = chkS S := by rw [← HR.out]; unfold thE; rw [if_neg hk]
    subst e2
    clear hk
    go_wp2
    go_ret
    exact ⟨rfl, HB.out⟩
end Go.Proofs.YtehhhiodfcdnmaaGreatDoor

namespace Go.Proofs.YtehhhiodfcdnmaaGreatDoor
set_option linter.unusedSimpArgs false
set_option linter.unusedVariables false
open Go.RowKit Go.Sort
theorem own_new {w : World} {base : Nat} {e : TypeId} {size : Nat} {v : Value} {n : Nat} {xs : List Value} (h : w.ownsRow base e size v n xs) : NewB base v := own_block h
theorem own_upC {w w' : World} {base : Nat} {e : TypeId} {size : Nat} {v : Value} {n : Nat} {xs : List Value} (h : w.ownsRow base e size v n xs) (hb : Below w.heap.size w w') : w'.ownsRow base e size v n xs := by
  have hlt := h.lt
  refine ⟨h.1, ?_⟩
  rcases h.2 with hn | ⟨g, cap, cur, rfl, hg, hh, r⟩
  · exact .inl hn
  · exact .inr ⟨g, cap, cur, rfl, hg, by rw [hb.block g (hlt g rfl).2]; exact hh, r⟩
theorem sl_grown {w w' : World} {row : Option Nat} {size : Nat} {v : Value} {n : Nat} {xs : List Value} (h : Sl w size v n xs) (hg : w.grownBy w' row) (hne : ∀ k, v.ownBlock = some k → row ≠ some k) : Sl w' size v n xs := by
  obtain ⟨h1, ao, cap, rfl, h3, h4⟩ := h
  refine ⟨h1, ao, cap, rfl, h3, fun hn => ?_⟩
  obtain ⟨b, off, rfl, hlt, hc⟩ := h4 hn
  exact ⟨b, off, rfl, Nat.lt_of_lt_of_le hlt hg.size, fun j u hj => (hg.cell_far ⟨b, off + j, none⟩ hlt (fun e => hne b rfl e.symm)).trans (hc j u hj)⟩
def Apart (v u : Value) : Prop := ∀ k, v.ownBlock = some k → u.ownBlock ≠ some k
theorem apart_lt {v u : Value} {m : Nat} (hv : NewB m v) (hu : ∀ k, u.ownBlock = some k → k < m) : Apart v u := fun k e e2 => by have := hv k e; have := hu k e2; omega
def LtB (w : World) (v : Value) : Prop := ∀ b, v.ownBlock = some b → b < w.heap.size
theorem LtB.up {w w' : World} {v : Value} (h : LtB w v) (hs : w.heap.size ≤ w'.heap.size) : LtB w' v := fun b e => Nat.lt_of_lt_of_le (h b e) hs
theorem own_ltB {w : World} {base : Nat} {e : TypeId} {size : Nat} {v : Value} {n : Nat} {xs : List Value} (h : w.ownsRow base e size v n xs) : LtB w v := fun b e => (h.lt b e).2
structure Bld (n base : Nat) (wr : World) (g : Nat) (vp vc vs : Value) (ps : List Prt) (cs : List Chn) (ss : List Slt) : Prop where
  cp : wr.cell? ⟨g, 0, none⟩ = some vp
  fp : wr.frozen? ⟨g, 0, none⟩ = false
  cc : wr.cell? ⟨g, 1, none⟩ = some vc
  ct : wr.cell? ⟨g, 2, none⟩ = some vs
  gl : g < base
  gn : n ≤ g
  bs : base ≤ wr.heap.size
  row : ∃ l : List (Value × Value), l.length = ps.length ∧ wr.ownsRow base 49 2 vp ps.length (rowC prC l) ∧ ∀ k (hk : k < ps.length) (hk' : k < l.length), PrtR wr l[k].1 l[k].2 ps[k] ∧ (NewB (g + 1) l[k].1 ∧ NewB (g + 1) l[k].2) ∧ (Apart l[k].1 vp ∧ Apart l[k].2 vp) ∧ LtB wr l[k].1 ∧ LtB wr l[k].2
  c : Sl wr 3 vc cs.length (rowC chC cs)
  s : Sl wr 2 vs ss.length (rowC slC ss)
  nc : NewB n vc ∧ ∀ k, vc.ownBlock = some k → k ≠ g ∧ k < base
  ns : NewB n vs ∧ ∀ k, vs.ownBlock = some k → k ≠ g ∧ k < base
theorem Bld.form {n base : Nat} {wr : World} {g : Nat} {vp vc vs : Value} {ps : List Prt} {cs : List Chn} {ss : List Slt} (h : Bld n base wr g vp vc vs ps cs ss) : ∃ a c, vp = .slice a ps.length c := by
  obtain ⟨l, _, h2, _⟩ := h.row
  exact own_form h2
theorem Bld.up {n base : Nat} {wr wr' : World} {g : Nat} {vp vc vs : Value} {ps : List Prt} {cs : List Chn} {ss : List Slt} (h : Bld n base wr g vp vc vs ps cs ss) (hb : Below wr.heap.size wr wr') : Bld n base wr' g vp vc vs ps cs ss := by
  obtain ⟨l, h1, h2, h3⟩ := h.row
  have hg : g < wr.heap.size := Nat.lt_of_lt_of_le h.gl h.bs
  exact ⟨bcl hb hg h.cp, bfr hb hg h.fp, bcl hb hg h.cc, bcl hb hg h.ct, h.gl, h.gn, Nat.le_trans h.bs hb.size, ⟨l, h1, own_upC h2 hb, fun k hk hk' => ⟨(h3 k hk hk').1.up hb, (h3 k hk hk').2.1, (h3 k hk hk').2.2.1, (h3 k hk hk').2.2.2.1.up hb.size, (h3 k hk hk').2.2.2.2.up hb.size⟩⟩, h.c.up hb, h.s.up hb, h.nc, h.ns⟩
theorem rowC_snoc {α : Type} (f : α → List Value) (l : List α) (x : α) : rowC f (l ++ [x]) = rowC f l ++ f x := by simp [rowC]
theorem Bld.step {n base : Nat} {w2 w3 : World} {g : Nat} {vp vp' vc vs v1 v2 : Value} {ps : List Prt} {cs : List Chn} {ss : List Slt} {p : Prt} {m : Nat} (h : Bld n base w2 g vp vc vs ps cs ss)
    (hp : PrtR w2 v1 v2 p) (h1 : NewB m v1) (h2 : NewB m v2) (hm : g + 1 ≤ m) (hvp : ∀ k, vp.ownBlock = some k → k < m) (l0 : List (Value × Value))
    (hl0 : l0.length = ps.length ∧ w2.ownsRow base 49 2 vp ps.length (rowC prC l0) ∧ ∀ k (hk : k < ps.length) (hk' : k < l0.length), PrtR w2 l0[k].1 l0[k].2 ps[k] ∧ (NewB (g + 1) l0[k].1 ∧ NewB (g + 1) l0[k].2) ∧ (Apart l0[k].1 vp ∧ Apart l0[k].2 vp) ∧ LtB w2 l0[k].1 ∧ LtB w2 l0[k].2)
    (hlt1 : LtB w2 v1 ∧ LtB w2 v2)
    {o : Obj} (hgrow : (w2.alloc o).grownBy w3 vp.ownBlock) (hown : w3.ownsRow base 49 2 vp' (ps.length + 1) (rowC prC l0 ++ [v1, v2])) (hat : ∀ k, vp'.ownBlock = some k → vp.ownBlock = some k ∨ w2.heap.size + 1 ≤ k) :
    Bld n base (w3.setCell ⟨g, 0, none⟩ vp') g vp' vc vs (ps ++ [p]) cs ss ∧ (∀ b, vp'.ownBlock = some b → base ≤ b) := by
  have hb2 : Below w2.heap.size w2 (w2.alloc o) := (Below.refl _ _).alloc (Nat.le_refl _) _
  have hu := h.up hb2
  have hg : g < w2.heap.size := Nat.lt_of_lt_of_le h.gl h.bs
  have hrow := hl0.2.1
  have hgv : some g ≠ vp.ownBlock := fun e => by have := own_block hrow g e.symm; have := h.gl; omega
  have hgl : g < (w2.alloc o).heap.size := by simp; omega
  have hbs := h.bs
  have hnew' := own_block hown
  have far : ∀ v : Value, (∀ b, v.ownBlock = some b → b < w2.heap.size) → Apart v vp → Apart v vp' := fun v hv ha k e e2 => by
    rcases hat k e2 with h1 | h1
    · exact ha k e h1
    · have := hv k e; omega
  have slg : ∀ {size nn : Nat} {v : Value} {xs : List Value}, Sl w2 size v nn xs → NewB (g + 1) v → Apart v vp → Sl (w3.setCell ⟨g, 0, none⟩ vp') size v nn xs := fun hs hn ha =>
    (sl_grown (hs.up hb2) hgrow (fun k e e2 => ha k e e2)).set _ (fun e => by have := hn g e; omega)
  have slc : ∀ {size nn : Nat} {v : Value} {xs : List Value}, Sl w2 size v nn xs → (∀ k, v.ownBlock = some k → k ≠ g ∧ k < base) → Sl (w3.setCell ⟨g, 0, none⟩ vp') size v nn xs := fun hs hn =>
    (sl_grown (hs.up hb2) hgrow (fun k e e2 => by have := own_block hrow k e2; have := (hn k e).2; omega)).set _ (fun e => (hn g e).1 rfl)
  have hsz : w2.heap.size ≤ (w3.setCell ⟨g, 0, none⟩ vp').heap.size := by rw [size_set]; have := hgrow.size; simp at this; omega
  have c0 : w3.cell? ⟨g, 0, none⟩ = some vp := (hgrow.cell_far ⟨g, 0, none⟩ hgl hgv).trans hu.cp
  refine ⟨⟨cl_same c0, fr_set ((hgrow.frozen_far ⟨g, 0, none⟩ hgl hgv).trans hu.fp), cl_set (Or.inr (by decide)) ((hgrow.cell_far ⟨g, 1, none⟩ hgl hgv).trans hu.cc), cl_set (Or.inr (by decide)) ((hgrow.cell_far ⟨g, 2, none⟩ hgl hgv).trans hu.ct), h.gl, h.gn, ?_, ?_, slc h.c h.nc.2, slc h.s h.ns.2, h.nc, h.ns⟩, hnew'⟩
  · rw [size_set]; have := hgrow.size; simp at this; omega
  · refine ⟨l0 ++ [(v1, v2)], by simp [hl0.1], ?_, fun k hk hk' => ?_⟩
    · rw [rowC_snoc]
      have : (ps ++ [p]).length = ps.length + 1 := by simp
      rw [this]
      exact ownsRow_setCell_below hown (by simpa using h.gl) _
    · by_cases hkl : k < l0.length
      · have hkp : k < ps.length := by have := hl0.1; omega
        obtain ⟨a1, ⟨a2, a3⟩, ⟨a4, a5⟩, a6, a7⟩ := hl0.2.2 k hkp hkl
        rw [List.getElem_append_left hkl, List.getElem_append_left hkp]
        exact ⟨⟨slg a1.code a2 a4, slg a1.inn a3 a5⟩, ⟨a2, a3⟩, ⟨far _ a6 a4, far _ a7 a5⟩, a6.up hsz, a7.up hsz⟩
      · have hke : k = ps.length := by have := hl0.1; simp at hk; omega
        have hke' : k = l0.length := by have := hl0.1; omega
        have e1 : (l0 ++ [(v1, v2)])[k] = (v1, v2) := by rw [List.getElem_append_right (by omega)]; simp
        have e2 : (ps ++ [p])[k] = p := by rw [List.getElem_append_right (by omega)]; simp
        rw [e1, e2]
        have n1 : NewB (g + 1) v1 := h1.mono hm
        have n2 : NewB (g + 1) v2 := h2.mono hm
        exact ⟨⟨slg hp.code n1 (apart_lt h1 hvp), slg hp.inn n2 (apart_lt h2 hvp)⟩, ⟨n1, n2⟩, ⟨far _ hlt1.1 (apart_lt h1 hvp), far _ hlt1.2 (apart_lt h2 hvp)⟩, hlt1.1.up hsz, hlt1.2.up hsz⟩
theorem Bld.done {n base : Nat} {wr : World} {g : Nat} {vp vc vs : Value} {ps : List Prt} {cs : List Chn} {ss : List Slt} (h : Bld n base wr g vp vc vs ps cs ss) : SysN n wr vp vc vs ⟨ps, cs, ss⟩ := by
  obtain ⟨l, h1, h2, h3⟩ := h.row
  have hgn := h.gn
  have hgl := h.gl
  exact ⟨⟨l, h1, own_sl h2, fun k e => by have := own_block h2 k e; omega, fun k hk hk' => ⟨(h3 k hk hk').1, (h3 k hk hk').2.1.1.mono (by omega), (h3 k hk hk').2.1.2.mono (by omega)⟩⟩, h.c, h.s, h.nc.1, h.ns.1⟩
end Go.Proofs.YtehhhiodfcdnmaaGreatDoor

namespace Go.Proofs.YtehhhiodfcdnmaaGreatDoor
set_option linter.unusedSimpArgs false
set_option linter.unusedVariables false
open Go.RowKit Go.Sort Go.Shelf
attribute [local go_sem] Oper.semAt_some
def sumT : Int → List Slt → Int
  | e, [] => e
  | e, t :: r => sumT (e + t.tk) r
theorem sumT_snoc : ∀ (l : List Slt) (e : Int) (t : Slt), sumT e (l ++ [t]) = sumT e l + t.tk
  | [], e, t => rfl
  | x :: r, e, t => by rw [List.cons_append, sumT, sumT, sumT_snoc r]
def turnsL : Int → List Slt → List (Int × Int)
  | _, [] => []
  | e, t :: r => (t.pt, e + t.tk) :: turnsL (e + t.tk) r
theorem turnsL_snoc : ∀ (l : List Slt) (e : Int) (t : Slt), turnsL e (l ++ [t]) = turnsL e l ++ [(t.pt, sumT e l + t.tk)]
  | [], e, t => rfl
  | x :: r, e, t => by rw [List.cons_append, turnsL, turnsL_snoc r, turnsL, sumT]; rfl
theorem turnsL_len : ∀ (l : List Slt) (e : Int), (turnsL e l).length = l.length
  | [], e => rfl
  | x :: r, e => by rw [turnsL, List.length_cons, turnsL_len r]; rfl
def SlotsOk (ts : List Slt) : Prop := ts.length ≤ 6 ∧ ∀ j (h : j < ts.length), 1 ≤ ts[j].tk ∧ ts[j].tk ≤ 8
theorem sumT_bd {ts : List Slt} (h : SlotsOk ts) : ∀ k, k ≤ ts.length → (k : Int) ≤ sumT 0 (ts.take k) ∧ sumT 0 (ts.take k) ≤ 8 * k
  | 0, _ => by simp [sumT]
  | k + 1, hk => by
    have ih := sumT_bd h k (by omega)
    have ht := h.2 k (by omega)
    rw [List.take_succ_eq_append_getElem (by omega), sumT_snoc]
    omega
set_option maxRecDepth 100000 in
set_option maxHeartbeats 2000000 in
theorem turns1_in (F : Fence) (n : Nat) (hf : F.fn 172) (hro : F.round = none) (hn : 1 ≤ n) (l Bs n₀ b off cap : Nat) (ts : List Slt) (hts : SlotsOk ts) (hb : b < n₀) (J Jx : List (Int × Int) → World → Prop) (W : World) (hW : n₀ ≤ W.heap.size) (hJ : AbidesFrom W.heap.size J)
    (hY : ∀ pre x W, J pre W → pre.length < ts.length → YieldAt F (n - 1) Tryz.prog l #[.int .i64 x.1, .int .i64 x.2] W fun e W' =>
      (e = .returned (.bool true) ∧ J (pre ++ [x]) W' ∧ Below n₀ W W') ∨ (e = .returned (.bool false) ∧ Jx (pre ++ [x]) W'))
    (hBs : W.cell? ⟨Bs, 0, none⟩ = some (.slice (some ⟨b, off, none⟩) ts.length cap)) (hc : ∀ j u, (rowC slC ts)[j]? = some u → W.cell? ⟨b, off + j, none⟩ = some u) (h0 : J [] W) :
    CallsIn F n Tryz.prog 172 #[.func (.yield l) #[] #[], .pointer (some ⟨Bs, 0, none⟩)] W fun e W' => (∃ v, e = .returned v) ∧
      ((∃ ys, ys = turnsL 0 ts ∧ J ys W') ∨ (∃ pre, (∃ k, k ≤ ts.length ∧ pre = turnsL 0 (ts.take k)) ∧ Jx pre W')) := by
  have HC := Lib.hid hc
  have HJ := Lib.hid hJ
  have HT := Lib.hid hts
  have HY := Lib.hid hY
  have hl6 := hts.1
  clear hc hJ hts hY
  refine callsIn_of_wp Tryz.func172 rfl hf ?_ hro
  simp only [Tryz.ntmps172, List.size_toArray, List.length_cons, List.length_nil, Nat.reduceAdd, Nat.reduceSub, Array.replicate_succ, Array.replicate_zero, List.push_toArray, List.append_toArray, List.nil_append, List.cons_append]
  gi_wp2
  gi_loopw [3, 8] (fun e i wr => ∃ k : Nat, k ≤ ts.length ∧ i = .int .i64 k ∧ e = .int .i64 (sumT 0 (ts.take k)) ∧ J (turnsL 0 (ts.take k)) wr ∧ Below n₀ W wr)
    (fun _ i _ => ts.length - (intOf i).toNat)
  case atStart => exact ⟨0, Nat.zero_le _, rfl, rfl, h0, Below.refl _ _⟩
  case round =>
    obtain ⟨k, hk, rfl, rfl, hJs, hnx⟩ := hrel
    have hbd := sumT_bd HT.out k hk
    by_cases hlt : k < ts.length
    · have htk := HT.out.2 k hlt
      have hli : (k : Int) < ts.length := by omega
      have hJ1 := HJ.out _ _ (wr.alloc (.cells #[.int .i64 ts[k].pt, .int .i64 ts[k].tk] 105)) none hJs (World.grownBy_alloc _ _ _) (fun r e => by cases e)
      obtain ⟨fn, tmps, assign, body, hy, hR⟩ := HY.out _ (ts[k].pt, sumT 0 (ts.take k) + ts[k].tk) _ hJ1 (by rw [turnsL_len, List.length_take]; omega)
      dsimp only at hy
      obtain ⟨c0, c1⟩ := slot_cells HC.out k hlt
      have c0 := bcl hnx hb c0
      have c1 := bcl hnx hb c1
      have HSN : Hid (turnsL 0 (ts.take (k + 1)) = turnsL 0 (ts.take k) ++ [(ts[k].pt, sumT 0 (ts.take k) + ts[k].tk)]) := by
        show _ = _
        rw [List.take_succ_eq_append_getElem hlt, turnsL_snoc]
      have HSM : Hid (sumT 0 (ts.take (k + 1)) = sumT 0 (ts.take k) + ts[k].tk) := by
        show _ = _
        rw [List.take_succ_eq_append_getElem hlt, sumT_snoc]
      have hsz := hnx.size
      gi_wp2
      refine hR.mono ?_
      rintro e W3 (⟨rfl, hJ3, hk3⟩ | ⟨rfl, hJx3⟩)
      · gi_wp2
        go_roundw
        case rel => exact ⟨k + 1, by omega, by go_num, by rw [HSM.out], by rw [HSN.out]; exact hJ3, (hnx.alloc (by omega) _).trans hk3⟩
        case measure => simp [intOf]; omega
      · gi_wp2
        refine bodyPost_ret (results_none rfl _ _ _) rfl ?_
        exact ⟨⟨_, rfl⟩, .inr ⟨_, ⟨k + 1, by omega, HSN.out.symm⟩, hJx3⟩⟩
    · obtain rfl : k = ts.length := by omega
      rw [List.take_length] at hJs
      gi_wp2
      go_end0
      exact ⟨⟨_, rfl⟩, .inl ⟨_, rfl, hJs⟩⟩
set_option maxHeartbeats 1000000 in
theorem turns_in (F : Fence) (n : Nat) (hf : F.fn 161) (hro : F.round = none) (a : Option Addr) (len cap : Nat) (w : World) :
    CallsIn F n Tryz.prog 161 #[.slice a len cap] w fun e w' => e = .returned (.func (.func 172) #[] #[.pointer (some ⟨w.heap.size, 0, none⟩)]) ∧ w' = w.alloc (.cells #[.slice a len cap] 24) := by
  refine callsIn_of_wp Tryz.func161 rfl hf ?_ hro
  simp only [Tryz.ntmps161, List.size_toArray, List.length_cons, List.length_nil, Nat.reduceAdd, Nat.reduceSub, Array.replicate_succ, Array.replicate_zero, List.push_toArray, List.append_toArray, List.nil_append, List.cons_append]
  gi_wp2
  go_ret
  exact ⟨rfl, rfl⟩
theorem turns_stops (F : Fence) (n : Nat) (hf : F.fn 172) (hro : F.round = none) (hn : 1 ≤ n) (Bs n₀ b off cap : Nat) (ts : List Slt) (hts : SlotsOk ts) (w : World) (hBs : Bs < w.heap.size) (hn₀ : n₀ ≤ w.heap.size) (hb : b < n₀)
    (hc : w.cell? ⟨Bs, 0, none⟩ = some (.slice (some ⟨b, off, none⟩) ts.length cap)) (hI : ∀ j u, (rowC slC ts)[j]? = some u → w.cell? ⟨b, off + j, none⟩ = some u) :
    SeqStopsK F n Tryz.prog 172 #[.pointer (some ⟨Bs, 0, none⟩)] (fun x : Int × Int => #[Value.int .i64 x.1, Value.int .i64 x.2]) (Below n₀) (fun ys => ys = turnsL 0 ts)
      (fun pre => ∃ k, k ≤ ts.length ∧ pre = turnsL 0 (ts.take k)) ts.length w := fun l J Jx W hW hJ _ hY h0 => by
  have hc' := (hW.cell (p := ⟨Bs, 0, none⟩) hBs).trans hc
  exact turns1_in F n hf hro hn l Bs n₀ b off cap ts hts hb J Jx W (Nat.le_trans hn₀ hW.size) hJ hY hc' (fun j u hj => bcl hW (by omega) (hI j u hj)) h0
end Go.Proofs.YtehhhiodfcdnmaaGreatDoor

namespace Go.Proofs.YtehhhiodfcdnmaaGreatDoor
set_option linter.unusedSimpArgs false
set_option linter.unusedVariables false
open Go.RowKit Go.Sort Go.Shelf
attribute [local go_sem] Oper.semAt_some
theorem turnsL_app : ∀ (l m : List Slt) (e : Int), turnsL e (l ++ m) = turnsL e l ++ turnsL (sumT e l) m
  | [], m, e => rfl
  | x :: r, m, e => by rw [List.cons_append, turnsL, turnsL_app r, turnsL, sumT]; rfl
def lastE (e : Int) : List (Int × Int) → Int
  | [] => e
  | x :: r => lastE x.2 r
theorem lastE_snoc : ∀ (l : List (Int × Int)) (e : Int) (x : Int × Int), lastE e (l ++ [x]) = x.2
  | [], e, x => rfl
  | y :: r, e, x => by rw [List.cons_append, lastE, lastE_snoc r]
theorem lastE_turns : ∀ (l : List Slt) (e : Int), lastE e (turnsL e l) = sumT e l
  | [], e => rfl
  | x :: r, e => by rw [turnsL, lastE, sumT, lastE_turns r]
def lastP (w : Int) : List (Int × Int) → Int
  | [] => w
  | x :: r => lastP x.1 r
theorem lastP_snoc : ∀ (l : List (Int × Int)) (e : Int) (x : Int × Int), lastP e (l ++ [x]) = x.1
  | [], e, x => rfl
  | y :: r, e, x => by rw [List.cons_append, lastP, lastP_snoc r]
def ownL (tick : Int) : Int → List (Int × Int) → Int
  | who, [] => who
  | _, x :: r => if tick < x.2 then x.1 else ownL tick x.1 r
theorem ownL_all (tick : Int) : ∀ (l : List (Int × Int)) (who : Int), (∀ p ∈ l, p.2 ≤ tick) → ownL tick who l = lastP who l
  | [], _, _ => rfl
  | x :: r, who, h => by
    rw [ownL, if_neg (by have := h x (by simp); omega), lastP]
    exact ownL_all tick r x.1 (fun p hp => h p (by simp [hp]))
theorem ownL_stop (tick : Int) : ∀ (l : List (Int × Int)) (who : Int) (x : Int × Int) (r : List (Int × Int)), (∀ p ∈ l, p.2 ≤ tick) → tick < x.2 → ownL tick who (l ++ x :: r) = x.1
  | [], _, x, r, _, hx => by rw [List.nil_append, ownL, if_pos hx]
  | y :: l, who, x, r, h, hx => by
    rw [List.cons_append, ownL, if_neg (by have := h y (by simp); omega)]
    exact ownL_stop tick l y.1 x r (fun p hp => h p (by simp [hp])) hx
set_option maxRecDepth 100000 in
set_option maxHeartbeats 2000000 in
theorem frame_in (F : Fence) (n : Nat) (h3 : F.fn 138) (h5 : F.fn 161) (h7 : F.fn 172) (hro : F.round = none) (hn : 3 ≤ n) (b off cap : Nat) (ts : List Slt) (hts : SlotsOk ts) (w : World) (hb : b < w.heap.size)
    (hI : ∀ j u, (rowC slC ts)[j]? = some u → w.cell? ⟨b, off + j, none⟩ = some u) :
    CallsIn F n Tryz.prog 138 #[.slice (some ⟨b, off, none⟩) ts.length cap] w fun e W' => e = .returned (.int .i64 (sumT 0 ts)) ∧ Below w.heap.size w W' := by
  have h1 : 1 ≤ n := by omega
  refine callsIn_of_wp_marks Tryz.func138 rfl h3 ?_ hro
  simp only [Tryz.ntmps138, List.size_toArray, List.length_cons, List.length_nil, Nat.reduceAdd, Nat.reduceSub, Array.replicate_succ, Array.replicate_zero, List.push_toArray, List.append_toArray, List.nil_append, List.cons_append]
  gi_wp2_with (gi_at_call 161; refine (turns_in F (n - 1) h5 hro _ _ _ _).mono ?_; rintro e w' ⟨rfl, rfl⟩)
  have bS := Boxed.new w 3 (.int .i64 0)
  have bN := Boxed.new (w.alloc (.cells #[.int .i64 0] 3)) 24 (.slice (some ⟨b, off, none⟩) ts.length cap)
  rw [World.size_alloc] at bN
  have hB0 : Below w.heap.size w ((w.alloc (.cells #[.int .i64 0] 3)).alloc (.cells #[.slice (some ⟨b, off, none⟩) ts.length cap] 24)) := ((Below.refl _ w).alloc (Nat.le_refl _) _).alloc (by simp) _
  refine wpIn_rangeFunc_ownG hro h1 (gf := 172) (lb := #[.pointer (some ⟨w.heap.size + 1, 0, none⟩)]) rfl h7 (enters_of Tryz.func172 (by kernel_rfl) rfl)
    (turns_stops F (n - 1) h7 hro (by omega) (w.heap.size + 1) w.heap.size b off cap ts hts _ (by simp) (by simp; omega) hb bN.cell (fun j u hj => bcl hB0 hb (hI j u hj))) belowK_t (belowK_b (by simp; omega)) (Below.refl _ _) (fun _ => rfl)
    (fun pre W => (W.cell? ⟨w.heap.size, 0, none⟩ = some (.int .i64 (lastE 0 pre)) ∧ W.frozen? ⟨w.heap.size, 0, none⟩ = false) ∧ Below w.heap.size w W)
    (fun _ _ _ => False)
    (OwnFrom.and (Own.from (fun s A B row hs hg hr => ⟨cell_kept hs.1 hg hr, (frozen_kept hs.1 hg hr).trans hs.2⟩) _) (ownFrom_below (Nat.le_refl _) (by simp; omega)))
    (fun _ _ _ _ _ hs _ _ => hs)
    ⟨⟨(bS.alloc _).cell, (bS.alloc _).frozen⟩, hB0⟩
    (fun x => { tmps := #[.slice (some ⟨b, off, none⟩) ts.length cap, undef, .int .i64 0, .pointer (some ⟨w.heap.size, 0, none⟩), undef, .int .i64 x.2, .slice (some ⟨b, off, none⟩) ts.length cap, .func (.func 172) #[] #[.pointer (some ⟨w.heap.size + 1, 0, none⟩)], .int .i64 x.1, .int .i64 x.2, undef, undef], defers := [] }) ?assign ?body ?done ?stop
  case assign =>
    intro l x W K hK
    gi_wp2
    exact hK
  case body =>
    rintro l pre x W ⟨⟨hc, hf⟩, hB⟩ _
    gi_wp2
    exact ⟨(KeepsOthers.setCell _ _ _).from _, (Below.refl w.heap.size W).setCell (p := ⟨w.heap.size, 0, none⟩) (Nat.le_refl _) _, ⟨by rw [lastE_snoc]; exact World.cell?_setCell_same' _ _ _ (by rw [hc]; rfl), by rw [World.frozen?_setCell]; exact hf⟩, hB.setCell (p := ⟨w.heap.size, 0, none⟩) (Nat.le_refl _) _⟩
  case done =>
    rintro D ys W hD rfl ⟨⟨hc, _⟩, hB⟩ hK
    rw [lastE_turns] at hc
    gi_wp2
    refine ⟨by simp, .inl ⟨_, _, rfl, run_takeDeferred hK, ?_⟩⟩
    exact ⟨_, results_tmp rfl _ _ _, rfl, hB.trans (belowK_b (w := w) (Nat.le_refl _) W D _ _ (by simp at hD; omega) hK rfl rfl)⟩
  case stop =>
    rintro D c pre W _ _ h _
    exact h.elim
set_option maxRecDepth 100000 in
set_option maxHeartbeats 2000000 in
theorem owner_in (F : Fence) (n : Nat) (h3 : F.fn 137) (h5 : F.fn 161) (h7 : F.fn 172) (hro : F.round = none) (hn : 3 ≤ n) (b off cap : Nat) (ts : List Slt) (hts : SlotsOk ts) (tick : Int) (w : World) (hb : b < w.heap.size)
    (hI : ∀ j u, (rowC slC ts)[j]? = some u → w.cell? ⟨b, off + j, none⟩ = some u) :
    CallsIn F n Tryz.prog 137 #[.slice (some ⟨b, off, none⟩) ts.length cap, .int .i64 tick] w fun e W' => e = .returned (.int .i64 (ownL tick 0 (turnsL 0 ts))) ∧ Below w.heap.size w W' := by
  have h1 : 1 ≤ n := by omega
  refine callsIn_of_wp_marks Tryz.func137 rfl h3 ?_ hro
  simp only [Tryz.ntmps137, List.size_toArray, List.length_cons, List.length_nil, Nat.reduceAdd, Nat.reduceSub, Array.replicate_succ, Array.replicate_zero, List.push_toArray, List.append_toArray, List.nil_append, List.cons_append]
  gi_wp2_with (gi_at_call 161; refine (turns_in F (n - 1) h5 hro _ _ _ _).mono ?_; rintro e w' ⟨rfl, rfl⟩)
  have bT := Boxed.new w 3 (.int .i64 tick)
  have bS := Boxed.new (w.alloc (.cells #[.int .i64 tick] 3)) 3 (.int .i64 0)
  have bN := Boxed.new ((w.alloc (.cells #[.int .i64 tick] 3)).alloc (.cells #[.int .i64 0] 3)) 24 (.slice (some ⟨b, off, none⟩) ts.length cap)
  rw [World.size_alloc] at bS
  rw [World.size_alloc, World.size_alloc] at bN
  have hB0 : Below w.heap.size w (((w.alloc (.cells #[.int .i64 tick] 3)).alloc (.cells #[.int .i64 0] 3)).alloc (.cells #[.slice (some ⟨b, off, none⟩) ts.length cap] 24)) := (((Below.refl _ w).alloc (Nat.le_refl _) _).alloc (by simp) _).alloc (by simp; omega) _
  refine wpIn_rangeFunc_ownG hro h1 (gf := 172) (lb := #[.pointer (some ⟨w.heap.size + 1 + 1, 0, none⟩)]) rfl h7 (enters_of Tryz.func172 (by kernel_rfl) rfl)
    (turns_stops F (n - 1) h7 hro (by omega) (w.heap.size + 1 + 1) w.heap.size b off cap ts hts _ (by simp) (by simp; omega) hb bN.cell (fun j u hj => bcl hB0 hb (hI j u hj))) belowK_t (belowK_b (by simp; omega)) (Below.refl _ _) (fun _ => rfl)
    (fun pre W => ((∀ p ∈ pre, p.2 ≤ tick) ∧ W.cell? ⟨w.heap.size, 0, none⟩ = some (.int .i64 tick) ∧ W.cell? ⟨w.heap.size + 1, 0, none⟩ = some (.int .i64 (lastP 0 pre)) ∧ W.frozen? ⟨w.heap.size + 1, 0, none⟩ = false) ∧ Below w.heap.size w W)
    (fun c pre W => (c = .exit 0 ∧ ∃ ini last, pre = ini ++ [last] ∧ (∀ p ∈ ini, p.2 ≤ tick) ∧ tick < last.2 ∧ W.cell? ⟨w.heap.size + 1, 0, none⟩ = some (.int .i64 last.1)) ∧ Below w.heap.size w W)
    (OwnFrom.and (Own.from (fun s A B row hs hg hr => ⟨hs.1, cell_kept hs.2.1 hg hr, cell_kept hs.2.2.1 hg hr, (frozen_kept hs.2.2.1 hg hr).trans hs.2.2.2⟩) _) (ownFrom_below (Nat.le_refl _) (by simp; omega)))
    (fun c => OwnFrom.and (Own.from (fun s A B row hs hg hr => by obtain ⟨hc, ini, last, e1, e2, e3, e4⟩ := hs; exact ⟨hc, ini, last, e1, e2, e3, cell_kept e4 hg hr⟩) _) (ownFrom_below (Nat.le_refl _) (by simp; omega)))
    ⟨⟨by simp, ((bT.alloc _).alloc _).cell, (bS.alloc _).cell, (bS.alloc _).frozen⟩, hB0⟩
    (fun x => { tmps := #[.slice (some ⟨b, off, none⟩) ts.length cap, .int .i64 tick, undef, .pointer (some ⟨w.heap.size, 0, none⟩), .int .i64 0, .pointer (some ⟨w.heap.size + 1, 0, none⟩), .int .i64 x.1, .int .i64 x.2, .slice (some ⟨b, off, none⟩) ts.length cap, .func (.func 172) #[] #[.pointer (some ⟨w.heap.size + 1 + 1, 0, none⟩)], .int .i64 x.1, .int .i64 x.2, undef, undef, undef, undef, undef], defers := [] }) ?assign ?body ?done ?stop
  case assign =>
    intro l x W K hK
    gi_wp2
    exact hK
  case body =>
    rintro l pre x W ⟨⟨hp, hct, hcr, hfr⟩, hB⟩ _
    have hct' : (W.setCell ⟨w.heap.size + 1, 0, none⟩ (.int .i64 x.1)).cell? ⟨w.heap.size, 0, none⟩ = some (.int .i64 tick) := cl_set (Or.inl (by omega)) hct
    gi_wp2
    · have hx : tick < x.2 := by assumption
      exact ⟨(KeepsOthers.setCell _ _ _).from _, ⟨rfl, pre, x, rfl, hp, hx, World.cell?_setCell_same' _ _ _ (by rw [hcr]; rfl)⟩, hB.setCell (p := ⟨w.heap.size + 1, 0, none⟩) (by simp) _⟩
    · have hx : x.2 ≤ tick := by first | assumption | omega
      exact ⟨(KeepsOthers.setCell _ _ _).from _, (Below.refl w.heap.size W).setCell (p := ⟨w.heap.size + 1, 0, none⟩) (by simp) _, ⟨fun p hp' => (List.mem_append.1 hp').elim (hp p) (fun e => by simp at e; subst e; exact hx), hct', by rw [lastP_snoc]; exact World.cell?_setCell_same' _ _ _ (by rw [hcr]; rfl), by rw [World.frozen?_setCell]; exact hfr⟩, hB.setCell (p := ⟨w.heap.size + 1, 0, none⟩) (by simp) _⟩
  case done =>
    rintro D ys W hD rfl ⟨⟨hp, hct, hcr, hfr⟩, hB⟩ hK
    rw [← ownL_all tick _ 0 hp] at hcr
    gi_wp2
    refine ⟨by simp, .inl ⟨_, _, rfl, run_takeDeferred hK, ?_⟩⟩
    exact ⟨_, results_tmp rfl _ _ _, rfl, hB.trans (belowK_b (w := w) (Nat.le_refl _) W D _ _ (by simp at hD; omega) hK rfl rfl)⟩
  case stop =>
    rintro D c pre W hD ⟨k, hk, rfl⟩ ⟨⟨rfl, ini, last, e1, e2, e3, hcr⟩, hB⟩ hK
    have he : last.1 = ownL tick 0 (turnsL 0 ts) := by
      have h := turnsL_app (ts.take k) (ts.drop k) 0
      rw [List.take_append_drop, e1, List.append_assoc] at h
      rw [h]
      exact (ownL_stop tick ini 0 last _ e2 e3).symm
    rw [he] at hcr
    gi_wp2
    refine ⟨by simp, .inl ⟨_, _, rfl, run_takeDeferred hK, ?_⟩⟩
    exact ⟨_, results_tmp rfl _ _ _, rfl, hB.trans (belowK_b (w := w) (Nat.le_refl _) W D _ _ (by simp at hD; omega) hK rfl rfl)⟩
theorem frame_any (ts : List Slt) (v : Value) (w : World) (hts : SlotsOk ts) (h1 : 1 ≤ ts.length) (hS : Sl w 2 v ts.length (rowC slC ts)) : Calls Tryz.prog 138 #[v] w fun e w' => e = .returned (.int .i64 (sumT 0 ts)) ∧ Below w.heap.size w w' := by
  obtain ⟨b, off, cap, rfl, hcap, hb, hc⟩ := hS.open (by omega)
  exact (callsIn_wide (n := 3)).1 (frame_in Fence.wide 3 trivial trivial trivial rfl (Nat.le_refl _) b off cap ts hts w hb hc)
theorem owner_any (ts : List Slt) (v : Value) (tick : Int) (w : World) (hts : SlotsOk ts) (h1 : 1 ≤ ts.length) (hS : Sl w 2 v ts.length (rowC slC ts)) : Calls Tryz.prog 137 #[v, .int .i64 tick] w fun e w' => e = .returned (.int .i64 (ownL tick 0 (turnsL 0 ts))) ∧ Below w.heap.size w w' := by
  obtain ⟨b, off, cap, rfl, hcap, hb, hc⟩ := hS.open (by omega)
  exact (callsIn_wide (n := 3)).1 (owner_in Fence.wide 3 trivial trivial trivial rfl (Nat.le_refl _) b off cap ts hts tick w hb hc)
end Go.Proofs.YtehhhiodfcdnmaaGreatDoor

namespace Go.Proofs.YtehhhiodfcdnmaaGreatDoor
set_option linter.unusedSimpArgs false
set_option linter.unusedVariables false
open Go.RowKit Go.Sort
def repL : List Slt → List Int
  | [] => []
  | t :: r => List.replicate t.tk.toNat t.pt ++ repL r
theorem repL_len : ∀ (l : List Slt) (e : Int), (∀ t ∈ l, 0 ≤ t.tk) → sumT e l = e + (repL l).length
  | [], e, _ => by simp [sumT, repL]
  | x :: r, e, h => by
    rw [sumT, repL_len r _ (fun t ht => h t (by simp [ht])), repL, List.length_append, List.length_replicate]
    have := h x (by simp)
    omega
theorem ownL_rep : ∀ (l : List Slt) (e who : Int) (x : Nat), (∀ t ∈ l, 0 ≤ t.tk) → (hx : x < (repL l).length) → ownL (e + x) who (turnsL e l) = (repL l)[x]
  | t :: r, e, who, x, h, hx => by
    have h0 := h t (by simp)
    simp only [turnsL, ownL, repL]
    by_cases hlt : x < t.tk.toNat
    · rw [if_pos (by omega), List.getElem_append_left (by simpa using hlt)]
      simp
    · rw [if_neg (by omega), List.getElem_append_right (by simpa using hlt)]
      simp only [repL, List.length_append, List.length_replicate] at hx
      have := ownL_rep r (e + t.tk) t.pt (x - t.tk.toNat) (fun t ht => h t (by simp [ht])) (by omega)
      rw [show e + t.tk + ((x - t.tk.toNat : Nat) : Int) = e + x by omega] at this
      rw [this]
      congr 1
      simp
theorem chkS_zero {S : SysD} (h : chkS S = 0) : countsB S = true ∧ (∀ j (hj : j < S.parts.length), chkC S.parts[j].code = 0) ∧ S.chans.any kindBad = false ∧ placesB S = true ∧ namesB S = true := by
  unfold chkS at h
  split at h
  · omega
  · rename_i h1
    split at h
    · rename_i h2; exact absurd h h2
    · rename_i h2
      split at h
      · omega
      · rename_i h3
        split at h
        · omega
        · rename_i h4
          split at h
          · omega
          · rename_i h5
            exact ⟨by simpa using h1, firstP_zero (by simpa using h2), by simpa using h3, by simpa using h4, by simpa using h5⟩
theorem slots_ok {S : SysD} (h : chkS S = 0) : SlotsOk S.slots ∧ 1 ≤ S.slots.length := by
  obtain ⟨h1, -, -, h4, -⟩ := chkS_zero h
  obtain ⟨hc, -⟩ := countsB_is h1
  refine ⟨⟨hc.2.2.2.2, fun j hj => ?_⟩, hc.2.2.2.1⟩
  unfold placesB at h4
  rw [Bool.and_eq_true, Bool.not_eq_true', Bool.not_eq_true', List.any_eq_false, List.any_eq_false] at h4
  have := h4.2 _ (List.getElem_mem hj)
  unfold slotBad withinB at this
  simp at this
  omega
theorem SlotsOk.nonneg {ts : List Slt} (h : SlotsOk ts) : ∀ t ∈ ts, 0 ≤ t.tk := fun t ht => by
  obtain ⟨j, hj, rfl⟩ := List.getElem_of_mem ht
  have := h.2 j hj; omega
theorem frame_pos {ts : List Slt} (h : SlotsOk ts) (h1 : 1 ≤ ts.length) : 1 ≤ sumT 0 ts ∧ sumT 0 ts ≤ 48 := by
  have := sumT_bd h ts.length (Nat.le_refl _)
  rw [List.take_length] at this
  have := h.1
  omega
def whoS (S : SysD) (tick : Int) : Int := ownL (tick % sumT 0 S.slots) 0 (turnsL 0 S.slots)
end Go.Proofs.YtehhhiodfcdnmaaGreatDoor

namespace Go.Proofs.YtehhhiodfcdnmaaGreatDoor
set_option linter.unusedSimpArgs false
set_option linter.unusedVariables false
open Go.RowKit Go.Sort
attribute [local go_sem ↓] Go.wp_at_zero Go.wp_at_succ
structure Var3 (w : World) (g : Nat) (a b c : Value) : Prop where
  x : w.cell? ⟨g, 0, none⟩ = some a
  y : w.cell? ⟨g, 1, none⟩ = some b
  z : w.cell? ⟨g, 2, none⟩ = some c
  fx : w.frozen? ⟨g, 0, none⟩ = false
  fy : w.frozen? ⟨g, 1, none⟩ = false
  fz : w.frozen? ⟨g, 2, none⟩ = false
  lt : g < w.heap.size
theorem Var3.up {w w' : World} {g : Nat} {a b c : Value} (h : Var3 w g a b c) (hb : Below w.heap.size w w') : Var3 w' g a b c :=
  ⟨bcl hb h.lt h.x, bcl hb h.lt h.y, bcl hb h.lt h.z, bfr hb h.lt h.fx, bfr hb h.lt h.fy, bfr hb h.lt h.fz, Nat.lt_of_lt_of_le h.lt hb.size⟩
theorem var3_new (w : World) (a b c : Value) (t : TypeId) (g : Nat) (hg : g = w.heap.size) : Var3 (w.alloc (.cells #[a, b, c] t)) g a b c := by
  subst hg
  exact ⟨by simp, by simp, by simp, by simp, by simp, by simp, by simp⟩
def stopP : Prt := ⟨[⟨15, 0, 0, 0⟩], []⟩
def calmS (S : SysD) (k : Nat) : SysD := ⟨S.parts.set k stopP, S.chans, S.slots⟩
end Go.Proofs.YtehhhiodfcdnmaaGreatDoor

namespace Go.Proofs.YtehhhiodfcdnmaaGreatDoor
set_option linter.unusedSimpArgs false
set_option linter.unusedVariables false
open Go.RowKit Go.Sort
theorem step_call {ops : Array Oper} {o : Oper} {a : Act} {w : World} {K : Act → World → Prop} {Q : Exit → Act → World → Prop} {E : Prop} (hgd : o.guard = none) (f : Nat) (args : Array Operand) (tys : Array TypeId)
    (ho : o.op = .call { callee := .value (.func f), args := args, argTypes := tys }) (hen : Enters f) (vs : Array Value) (hvs : args.map a.eval = vs) (h : Calls Tryz.prog f vs w fun e w' => ∃ v, e = .returned v ∧ K (a.put o.dst v) w') :
    if Region.wanted o (yielded ops a.tmps) = true then Oper.wp Tryz.prog o a w K Q else E := by
  have hw : Region.wanted o (yielded ops a.tmps) = true := by simp [Region.wanted, hgd]
  rw [if_pos hw]
  unfold Oper.wp
  subst hvs
  unfold Enters at hen
  simp [execOp, ho, resolve, invoke, hen, Result.andThen, go_sem]
  refine h.mono ?_
  rintro e w' ⟨v, rfl, hk⟩
  exact hk
theorem wp_call {o : Oper} {a : Act} {w : World} {K : Act → World → Prop} {Q : Exit → Act → World → Prop} (f : Nat) (args : Array Operand) (tys : Array TypeId)
    (ho : o.op = .call { callee := .value (.func f), args := args, argTypes := tys }) (hen : Enters f) (vs : Array Value) (hvs : args.map a.eval = vs) (h : Calls Tryz.prog f vs w fun e w' => ∃ v, e = .returned v ∧ K (a.put o.dst v) w') : Oper.wp Tryz.prog o a w K Q := by
  unfold Oper.wp
  subst hvs
  unfold Enters at hen
  simp [execOp, ho, resolve, invoke, hen, Result.andThen, go_sem]
  refine h.mono ?_
  rintro e w' ⟨v, rfl, hk⟩
  exact hk
theorem wp_call_panic {o : Oper} {a : Act} {w : World} {K : Act → World → Prop} {Q : Exit → Act → World → Prop} (f : Nat) (args : Array Operand) (tys : Array TypeId)
    (ho : o.op = .call { callee := .value (.func f), args := args, argTypes := tys }) (hen : Enters f) (vs : Array Value) (hvs : args.map a.eval = vs) (chain : List PanicEntry) (h : Calls Tryz.prog f vs w fun e w' => e = .panicked chain ∧ Q (.panic chain) a w') : Oper.wp Tryz.prog o a w K Q := by
  unfold Oper.wp
  subst hvs
  unfold Enters at hen
  simp [execOp, ho, resolve, invoke, hen, Result.andThen, go_sem]
  refine h.mono ?_
  rintro e w' ⟨rfl, hk⟩
  exact hk
theorem wp_call_or {o : Oper} {a : Act} {w : World} {K : Act → World → Prop} {Q : Exit → Act → World → Prop} (f : Nat) (args : Array Operand) (tys : Array TypeId)
    (ho : o.op = .call { callee := .value (.func f), args := args, argTypes := tys }) (hen : Enters f) (vs : Array Value) (hvs : args.map a.eval = vs) (chain : List PanicEntry) (h : Calls Tryz.prog f vs w fun e w' => (∃ v, e = .returned v ∧ K (a.put o.dst v) w') ∨ (e = .panicked chain ∧ Q (.panic chain) a w')) : Oper.wp Tryz.prog o a w K Q := by
  unfold Oper.wp
  subst hvs
  unfold Enters at hen
  simp [execOp, ho, resolve, invoke, hen, Result.andThen, go_sem]
  refine h.mono ?_
  rintro e w' (⟨v, rfl, hk⟩ | ⟨rfl, hk⟩)
  · exact hk
  · exact hk
end Go.Proofs.YtehhhiodfcdnmaaGreatDoor

/- flow.Path. -/
import Derived.Test.YtbkdoohhdkahiaaGreatDoorK18
import Derived.Test.YtbkdoohhdkahiaaGreatDoorK0
import Derived.Test.YtbkdoohhdkahiaaGreatDoorK7
import Derived.Deep.OwnRows
import Derived.Test.YtbkdoohhdkahiaaGreatDoorK17
import Derived.Test.YtbkdoohhdkahiaaGreatDoorK12
import Derived.Test.YtbkdoohhdkahiaaGreatDoorK15
namespace Go.Proofs.YtbkdoohhdkahiaaGreatDoor
set_option linter.unusedSimpArgs false
set_option linter.unusedVariables false
open Go.RowKit Go.Sort Go.Shelf Go.Lib Go.Maps
set_option maxRecDepth 100000 in
set_option maxHeartbeats 4000000 in
theorem flPath_any (S : SysD) (a b : Int) (vp vc vs : Value) (w : World) (he : Env w) (hS : Sys w vp vc vs S) :
    Calls Tryz.prog 40 #[.agg #[vp, vc, vs], .int .i64 a, .int .i64 b] w fun e w' => ∃ v, e = .returned (.tuple #[v, .bool (pathY S a b), .int .i64 (pathE S a b)]) ∧ Sl w' 1 v (pathQ S a b).length (ints (pathQ S a b)) ∧ RowKit.Below w.heap.size w w' ∧ Hid (pathE S a b = 0 → ∃ l, SearchR (edgesL S) a b l (pathY S a b) ∧ l = pathQ S a b) := by
  obtain ⟨pa, pc, rfl⟩ := hS.p.form
  obtain ⟨ca, cc, rfl⟩ := hS.c.form
  obtain ⟨sa, sc, rfl⟩ := hS.s.form
  generalize hr : chkS S = r
  have HS := Lib.hid hS
  have HR := Lib.hid hr
  clear hS hr
  go_enter Tryz.func40, Tryz.ntmps40
  go_wp2_with fail
  refine (confCheck_any S _ _ _ _ (he.up up0) (HS.out.up up0)).mono ?_
  rw [HR.out]
  rintro e w1 ⟨rfl, bb⟩
  have HB := Lib.hid (((box_new w (.slice pa S.parts.length pc) (.slice ca S.chans.length cc) (.slice sa S.slots.length sc) 39 _ rfl).up ((RowKit.Below.refl _ _).alloc (Nat.le_refl _) (.cells #[.int .i64 b] 3))).up bb)
  have hbb : w1.cell? ⟨w.heap.size + 1, 0, none⟩ = some (.int .i64 b) := bcl bb (by simp) (by simp)
  have D := Lib.hid (RowKit.Below.trans (show RowKit.Below w.heap.size w _ from up0) (bb.mono (by simp; omega)))
  have hsz : w.heap.size + 2 ≤ w1.heap.size := by have := bb.size; simpa using this
  clear bb
  by_cases h0 : r = 0
  · subst h0
    obtain ⟨h4, _, hl, hE⟩ := chk_flow HR.out
    have k0 := HB.out.p
    have k1 := HB.out.c
    have k2 := HB.out.s
    go_wp2_with fail
    refine (flIsPart_any S a _ _ _ _ ⟨_, _, rfl⟩).mono ?_
    rintro e w2 ⟨rfl, b2⟩
    have HB2 := Lib.hid (HB.out.up b2)
    have hbb2 := bcl b2 (by omega) hbb
    have D2 := Lib.hid (D.out.trans (b2.mono D.out.size))
    have hsz2 : w.heap.size + 2 ≤ w2.heap.size := by have := b2.size; omega
    clear HB hbb D b2 hsz k0 k1 k2
    have k0 := HB2.out.p
    have k1 := HB2.out.c
    have k2 := HB2.out.s
    cases hwa : withinB a 0 ((S.parts.length : Int) - 1) with
    | false =>
      have HE := Lib.hid (pathE_a (a := a) (b := b) HR.out hwa)
      have HN : Hid (pathE S a b ≠ 0) := Lib.hid (by rw [HE.out]; decide)
      have HQ := Lib.hid (pathQ_bad HN.out)
      go_wp2
      go_ret3
      exact ⟨.slice none 0 0, by rw [HE.out, HQ.out.2]; rfl, by rw [HQ.out.1]; exact Sl.nil _ _, D2.out, Lib.hid (fun h => absurd h HN.out)⟩
    | true =>
      have ha : 0 ≤ a ∧ a < S.parts.length := by unfold withinB at hwa; simp at hwa; omega
      have HA := Lib.hid ha
      clear ha
      go_wp2_with fail
      refine (flIsPart_any S b _ _ _ _ ⟨_, _, rfl⟩).mono ?_
      rintro e w3 ⟨rfl, b3⟩
      have HB3 := Lib.hid (HB2.out.up b3)
      have hbb3 := bcl b3 (by omega) hbb2
      have D3 := Lib.hid (D2.out.trans (b3.mono D2.out.size))
      have hsz3 : w.heap.size + 2 ≤ w3.heap.size := by have := b3.size; omega
      clear HB2 hbb2 D2 b3 hsz2 k0 k1 k2
      have k1 := HB3.out.c
      cases hwb : withinB b 0 ((S.parts.length : Int) - 1) with
      | false =>
        have HE := Lib.hid (pathE_b (a := a) (b := b) HR.out hwa hwb)
        have HN : Hid (pathE S a b ≠ 0) := Lib.hid (by rw [HE.out]; decide)
        have HQ := Lib.hid (pathQ_bad HN.out)
        go_wp2
        go_ret3
        exact ⟨.slice none 0 0, by rw [HE.out, HQ.out.2]; rfl, by rw [HQ.out.1]; exact Sl.nil _ _, D3.out, Lib.hid (fun h => absurd h HN.out)⟩
      | true =>
        have HE := Lib.hid (pathE_ok (a := a) (b := b) HR.out hwa hwb)
        have HQ := Lib.hid (pathQ_ok HE.out)
        go_wp2_with fail
        refine (edges_any S.chans _ hl _ (HS.out.c.up D3.out)).mono ?_
        rintro e w4 ⟨v, l, rfl, hi, hl12, hs, b4⟩
        have hel := edges_eq hE hi
        subst hel
        have HSL := Lib.hid hs
        have D4 := Lib.hid (D3.out.trans (b4.mono D3.out.size))
        have hbb4 := bcl b4 (by omega) hbb3
        have hsz4 : w.heap.size + 2 ≤ w4.heap.size := by have := b4.size; omega
        clear HB3 hbb3 D3 b4 hsz3 k1 hi hs
        have HF : Hid (∀ x w', RowKit.Below w4.heap.size w4 w' → Calls Tryz.prog 73 (#[.int .i64 x] ++ #[.pointer (some ⟨w.heap.size + 1, 0, none⟩)]) w' fun e w'' => e = .returned (.bool (x == b)) ∧ w'' = w') := Lib.hid (fun x w' hb => path1_any x b _ w' (bcl hb (by omega) hbb4))
        clear hbb4
        go_wp2_with fail
        refine (search_any (edgesL S) S.parts.length (by omega) (edgesL_in S) (by omega) a b HA.out 73 ent_path1 #[.pointer (some ⟨w.heap.size + 1, 0, none⟩)] _ _ HSL.out HF.out).mono ?_
        rintro e w5 ⟨v5, l5, r5, rfl, hsr, hs5, b5⟩
        obtain ⟨e1, e2⟩ := search_path (by omega) HA.out hsr
        have HSR := Lib.hid hsr
        subst e1
        subst e2
        have HS5 := Lib.hid hs5
        have D5 := Lib.hid (D4.out.trans (b5.mono D4.out.size))
        clear HF HSL D4 b5 hs5 hsr
        go_wp2
        go_ret3
        exact ⟨v5, by rw [HE.out, HQ.out.2]; rfl, by rw [HQ.out.1]; exact HS5.out, D5.out, Lib.hid (fun _ => ⟨_, by rw [HQ.out.2]; exact HSR.out, HQ.out.1.symm⟩)⟩
  · have h0' : (r != 0) = true := by simpa using h0
    have HE : Hid (pathE S a b = r) := Lib.hid ((pathE_bad (by rw [HR.out]; exact h0)).trans HR.out)
    have HN : Hid (pathE S a b ≠ 0) := Lib.hid (by rw [HE.out]; exact h0)
    have HQ := Lib.hid (pathQ_bad HN.out)
    clear h0
    go_wp2
    go_ret3
    exact ⟨.slice none 0 0, by rw [HE.out, HQ.out.2]; rfl, by rw [HQ.out.1]; exact Sl.nil _ _, D.out, Lib.hid (fun h => absurd h HN.out)⟩
end Go.Proofs.YtbkdoohhdkahiaaGreatDoor
namespace Go.Proofs.YtbkdoohhdkahiaaGreatDoor
set_option linter.unusedSimpArgs false
set_option linter.unusedVariables false
open Go.RowKit Go.Sort Go.Shelf Go.Lib Go.Maps
def bools (f : Nat → Bool) (n : Nat) : List Value := (List.range n).map fun j => .bool (f j)
def upto (f : Nat → Bool) (k n : Nat) : Array Value := ((List.range n).map fun j => Value.bool (if j < k then f j else false)).toArray
theorem upto_zero (f : Nat → Bool) (n : Nat) : madeCells #[.bool false] n = upto f 0 n := by
  apply Array.ext'
  rw [toList_madeCells_one]
  apply List.ext_getElem
  · simp [upto]
  · intro j h1 h2
    simp [upto]
theorem upto_step (f : Nat → Bool) {k n : Nat} : (upto f k n).setIfInBounds k (.bool (f k)) = upto f (k + 1) n := by
  apply Array.ext'
  apply List.ext_getElem
  · simp [upto]
  · intro j h1 h2
    simp only [upto, List.setIfInBounds_toArray, List.getElem_set, List.getElem_map, List.getElem_range]
    by_cases e : k = j
    · subst e; simp
    · rw [if_neg e]
      have : (j < k + 1) ↔ (j < k) := by omega
      simp [this]
theorem upto_full (f : Nat → Bool) (n : Nat) : (upto f n n).toList = bools f n := by
  apply List.ext_getElem
  · simp [upto, bools]
  · intro j h1 h2
    simp [upto, bools] at h1 h2 ⊢
    intro h
    omega
theorem upto_at (f : Nat → Bool) {k n j : Nat} (hj : j < n) : (upto f k n)[j]? = some (.bool (if j < k then f j else false)) := by
  simp [upto, hj]
theorem bools_at (f : Nat → Bool) {n j : Nat} (hj : j < n) : (bools f n)[j]? = some (.bool (f j)) := by
  simp [bools, hj]
theorem upto_sl {w : World} {g : Nat} {t : TypeId} {f : Nat → Bool} {n : Nat} (h : Rw w g t (upto f n n)) : Sl w 1 (.slice (some ⟨g, 0, none⟩) n n) n (bools f n) := by
  refine ⟨by simp [bools], _, _, rfl, Nat.le_refl _, fun _ => ⟨g, 0, rfl, h.lt, fun j u hj => ?_⟩⟩
  rw [Nat.zero_add]
  refine h.cell ?_
  rw [← Array.getElem?_toList, upto_full]
  exact hj
theorem flSl_grown {w w' : World} {row : Option Nat} {size : Nat} {v : Value} {n : Nat} {xs : List Value} (h : Sl w size v n xs) (hg : w.grownBy w' row) (hne : ∀ k, v.ownBlock = some k → row ≠ some k) : Sl w' size v n xs := by
  obtain ⟨h1, ao, cap, rfl, h3, h4⟩ := h
  refine ⟨h1, ao, cap, rfl, h3, fun hn => ?_⟩
  obtain ⟨b, off, rfl, hlt, hc⟩ := h4 hn
  exact ⟨b, off, rfl, Nat.lt_of_lt_of_le hlt hg.size, fun j u hj => (hg.cell_far ⟨b, off + j, none⟩ hlt (fun e => hne b rfl e.symm)).trans (hc j u hj)⟩
def TabR (w : World) (v : Value) (f : Nat → Nat → Bool) (k n : Nat) : Prop :=
  ∃ vs : List Value, vs.length = k ∧ Sl w 1 v k vs ∧ ∀ a (h : a < vs.length), Sl w 1 vs[a] n (bools (f a) n)
theorem TabR.up {w w' : World} {v : Value} {f : Nat → Nat → Bool} {k n : Nat} (h : TabR w v f k n) (hb : RowKit.Below w.heap.size w w') : TabR w' v f k n := by
  obtain ⟨vs, h1, h2, h3⟩ := h
  exact ⟨vs, h1, h2.up hb, fun a ha => (h3 a ha).up hb⟩
theorem tabR_nil (w : World) (f : Nat → Nat → Bool) (n : Nat) : TabR w (.slice none 0 0) f 0 n := ⟨[], rfl, Sl.nil _ _, fun a h => absurd h (Nat.not_lt_zero _)⟩
theorem TabR.form {w : World} {v : Value} {f : Nat → Nat → Bool} {k n : Nat} (h : TabR w v f k n) : ∃ ao cap, v = .slice ao k cap := let ⟨_, _, h2, _⟩ := h; h2.form
def TabO (w : World) (B : Nat) (v : Value) (f : Nat → Nat → Bool) (k n : Nat) : Prop :=
  ∃ vs : List Value, vs.length = k ∧ w.ownsRow B 95 1 v k vs ∧ ∀ a (h : a < vs.length), Sl w 1 vs[a] n (bools (f a) n) ∧ ∀ b, vs[a].ownBlock = some b → v.ownBlock ≠ some b ∧ b < w.heap.size
theorem TabO.r {w : World} {B : Nat} {v : Value} {f : Nat → Nat → Bool} {k n : Nat} (h : TabO w B v f k n) : TabR w v f k n := by
  obtain ⟨vs, h1, h2, h3⟩ := h
  exact ⟨vs, h1, own_sl h2, fun a ha => (h3 a ha).1⟩
theorem TabO.up {w w' : World} {B : Nat} {v : Value} {f : Nat → Nat → Bool} {k n : Nat} (h : TabO w B v f k n) (hb : RowKit.Below w.heap.size w w') : TabO w' B v f k n := by
  obtain ⟨vs, h1, h2, h3⟩ := h
  exact ⟨vs, h1, own_upF h2 hb, fun a ha => ⟨(h3 a ha).1.up hb, fun b e => ⟨((h3 a ha).2 b e).1, Nat.lt_of_lt_of_le ((h3 a ha).2 b e).2 hb.size⟩⟩⟩
theorem TabO.lt {w : World} {B : Nat} {v : Value} {f : Nat → Nat → Bool} {k n b : Nat} (h : TabO w B v f k n) (e : v.ownBlock = some b) : b < w.heap.size := by
  obtain ⟨vs, h1, h2, h3⟩ := h
  exact (h2.lt b e).2
theorem tabO_nil (w : World) (B : Nat) (f : Nat → Nat → Bool) (n : Nat) : TabO w B (.slice none 0 0) f 0 n := ⟨[], rfl, World.ownsRow_nil _ _ _ _, fun a h => absurd h (Nat.not_lt_zero _)⟩
theorem TabO.add {w w' : World} {B : Nat} {v : Value} {f : Nat → Nat → Bool} {k n g cap : Nat} {x : Value} {vs : List Value} (h1 : vs.length = k) (h3 : ∀ a (h : a < vs.length), Sl w 1 vs[a] n (bools (f a) n) ∧ ∀ b, vs[a].ownBlock = some b → v.ownBlock ≠ some b ∧ b < w.heap.size)
    (ho : w'.ownsRow B 95 1 (.slice (some ⟨g, 0, none⟩) (k + 1) cap) (k + 1) (vs ++ [x])) (hg : w.grownBy w' v.ownBlock) (hat : v.ownBlock = some g ∨ g = w.heap.size) (hx : Sl w 1 x n (bools (f k) n)) (hxb : ∀ b, x.ownBlock = some b → v.ownBlock ≠ some b ∧ b < w.heap.size) :
    TabO w' B (.slice (some ⟨g, 0, none⟩) (k + 1) cap) f (k + 1) n := by
  have far : ∀ b, v.ownBlock ≠ some b ∧ b < w.heap.size → (Value.slice (some ⟨g, 0, none⟩) (k + 1) cap).ownBlock ≠ some b ∧ b < w'.heap.size := fun b ⟨e1, e2⟩ => ⟨fun e => by
    simp [Value.ownBlock] at e
    subst e
    rcases hat with hat | hat
    · exact e1 hat
    · omega, Nat.lt_of_lt_of_le e2 hg.size⟩
  refine ⟨vs ++ [x], by simp [h1], ho, fun a ha => ?_⟩
  by_cases hak : a < vs.length
  · rw [List.getElem_append_left hak]
    exact ⟨flSl_grown (h3 a hak).1 hg (fun b e => ((h3 a hak).2 b e).1), fun b e => far b ((h3 a hak).2 b e)⟩
  · have : a = k := by simp at ha; omega
    subst this
    rw [List.getElem_append_right (by omega)]
    simp only [h1, Nat.sub_self, List.getElem_cons_zero]
    exact ⟨flSl_grown hx hg (fun b e => (hxb b e).1), fun b e => far b (hxb b e)⟩
theorem infoBools : (Tryz.prog.info? 95).map (fun i => (i.zero, i.size, i.bytes)) = some (some (.slice none 0 0), 1, 24) := by kernel_rfl
theorem infoBool : (Tryz.prog.info? 4).map (fun i => (i.zero, i.size, i.bytes)) = some (some (.bool false), 1, 1) := by kernel_rfl
theorem ent_search : Enters 70 := enters Tryz.func70 (by kernel_rfl) (by kernel_rfl)
end Go.Proofs.YtbkdoohhdkahiaaGreatDoor
namespace Go.Proofs.YtbkdoohhdkahiaaGreatDoor
set_option linter.unusedSimpArgs false
set_option linter.unusedVariables false
open Go.RowKit Go.Sort Go.Shelf Go.Lib Go.Maps
def reachQ (S : SysD) : Nat := if chkS S = 0 then S.parts.length else 0
set_option maxRecDepth 100000 in
set_option maxHeartbeats 8000000 in
theorem flReach_any (S : SysD) (vp vc vs : Value) (w : World) (he : Env w) (hS : Sys w vp vc vs S) :
    Calls Tryz.prog 35 #[.agg #[vp, vc, vs]] w fun e w' => ∃ v, e = .returned (.tuple #[v, .int .i64 (chkS S)]) ∧ TabR w' v (fun a b => reachB S a b) (reachQ S) (reachQ S) ∧ RowKit.Below w.heap.size w w' ∧ Hid (∀ a b : Nat, a < reachQ S → b < reachQ S → ∃ l, SearchR (edgesL S) a b l (reachB S a b)) := by
  obtain ⟨i1, hi1, hy0, hy1, hy2⟩ := info_parts infoBools
  obtain ⟨i2, hi2, hb0, hb1, hb2⟩ := info_parts infoBool
  obtain ⟨pa, pc, rfl⟩ := hS.p.form
  obtain ⟨ca, cc, rfl⟩ := hS.c.form
  obtain ⟨sa, sc, rfl⟩ := hS.s.form
  generalize hr : chkS S = r
  have HS := Lib.hid hS
  have HR := Lib.hid hr
  clear hS hr
  go_enter Tryz.func35, Tryz.ntmps35
  go_wp2_with fail
  refine (confCheck_any S _ _ _ _ (he.up up0) (HS.out.up up0)).mono ?_
  rw [HR.out]
  rintro e w1 ⟨rfl, bb⟩
  have HB := Lib.hid ((box_new w (.slice pa S.parts.length pc) (.slice ca S.chans.length cc) (.slice sa S.slots.length sc) 39 _ rfl).up bb)
  have D := Lib.hid (RowKit.Below.trans (show RowKit.Below w.heap.size w _ from up0) (bb.mono (by simp)))
  clear bb
  by_cases h0 : r = 0
  · subst h0
    obtain ⟨h4, _, hl, hE⟩ := chk_flow HR.out
    have HQN : Hid (reachQ S = S.parts.length) := Lib.hid (by unfold reachQ; rw [if_pos HR.out])
    have k1 := HB.out.c
    go_wp2_with fail
    refine (edges_any S.chans _ hl _ (HS.out.c.up D.out)).mono ?_
    rintro e w2 ⟨ve, l, rfl, hi, hl12, hs, b2⟩
    have hel := edges_eq hE hi
    subst hel
    have HSL := Lib.hid hs
    have D2 := Lib.hid (D.out.trans (b2.mono D.out.size))
    have HB2 := Lib.hid (HB.out.up b2)
    clear HB D b2 k1 hi hs
    have k0 := HB2.out.p
    go_wp2
    clear k0
    go_loopw [21, 6] (fun i l wo => ∃ k : Nat, i = .int .i64 k ∧ k ≤ S.parts.length ∧ Hid (TabO wo w2.heap.size l (fun a b => reachB S a b) k S.parts.length) ∧ Hid (RowKit.Below w2.heap.size w2 wo) ∧ Hid (∀ a b : Nat, a < k → b < S.parts.length → ∃ l, SearchR (edgesL S) a b l (reachB S a b))) (fun i _ _ => S.parts.length - (intOf i).toNat)
    case atStart => exact ⟨0, rfl, Nat.zero_le _, Lib.hid (tabO_nil _ _ _ _), Lib.hid (RowKit.Below.refl _ _), Lib.hid (fun a b h => by omega)⟩
    case round =>
      obtain ⟨k, rfl, hk, HT, H2, HA⟩ := hrel
      obtain ⟨wo, hwo⟩ : ∃ wo, wo = wr := ⟨_, rfl⟩
      subst hwo
      have HB3 := Lib.hid (HB2.out.up H2.out)
      have k0 := HB3.out.p
      by_cases hlt : k < S.parts.length
      · have hli : (k : Int) < S.parts.length := by omega
        go_wp2_with (refine wpList_make_row _ rfl _ _ 95 rfl 4 i2 (.bool false) Tryz.underlying95 hi2 hb0 hb1 rfl .i64 .i64 S.parts.length rfl rfl (by rw [hb2]; omega) (by omega) ?_)
        clear k0
        go_loopw [30] (fun i wr => ∃ j : Nat, i = .int .i64 j ∧ j ≤ S.parts.length ∧ Hid (Rw wr wo.heap.size 4 (upto (fun b => reachB S k b) j S.parts.length)) ∧ Hid (RowKit.Below wo.heap.size wo wr) ∧ Hid (∀ b : Nat, b < j → ∃ l, SearchR (edgesL S) k b l (reachB S k b))) (fun i _ => S.parts.length - (intOf i).toNat)
        case atStart => exact ⟨0, rfl, Nat.zero_le _, Lib.hid (by rw [← upto_zero]; exact Rw.new _ _ _ rfl), up0, Lib.hid (fun b h => by omega)⟩
        case round =>
          obtain ⟨j, rfl, hj, HR, HQ, HA2⟩ := hrel
          by_cases hjl : j < S.parts.length
          · have hji : (j : Int) < S.parts.length := by omega
            go_upto_region 13 with fail
            have hc0 : (wr.alloc (.cells #[.int .i64 j] 3)).cell? ⟨wr.heap.size, 0, none⟩ = some (.int .i64 j) := by simp
            have HX : Hid (RowKit.Below wr.heap.size wr (wr.alloc (.cells #[.int .i64 j] 3))) := Lib.hid up0
            have hxs : wr.heap.size < (wr.alloc (.cells #[.int .i64 j] 3)).heap.size := by simp
            generalize wr.alloc (.cells #[.int .i64 j] 3) = X at hc0 HX hxs ⊢
            refine region_still (S := fun w' => w'.cell? ⟨wr.heap.size, 0, none⟩ = some (.int .i64 (j : Int))) 10 (by kernel_rfl) hc0 (fun hHeld => ?_)
            refine Still.t 0 [] hHeld ?_
            refine Still.t 1 [] hHeld ?_
            refine Still.t 2 [] hHeld ?_
            refine Still.t 3 [] hHeld ?_
            refine Still.t 4 [] hHeld ?_
            refine Still.o 5 rfl rfl (fun K hK => ?_)
            refine wp_call 70 _ _ rfl ent_search #[ve, .int .i64 k, .func (.func 71) #[] #[.pointer (some ⟨wr.heap.size, 0, none⟩)]] (by first | rfl | simp [Act.eval, Act.put]) ((search_any (edgesL S) S.parts.length (by omega) (edgesL_in S) (by omega) k j ⟨by omega, by omega⟩ 71 ent_reach1 #[.pointer (some ⟨wr.heap.size, 0, none⟩)] ve X.drew (HSL.out.up ((H2.out.trans ((HQ.out.trans (HX.out.mono HQ.out.size)).mono H2.out.size)).trans (RowKit.Below.refl _ _).drew)) (fun x w' hb => reach1_any x j _ w' (bcl hb hxs hc0))).mono ?_)
            rintro e V1 ⟨v5, l5, r5, rfl, hsr, hs5, b5⟩
            have hc1 := bcl b5 hxs hc0
            have e2 := search_reach (by omega) ⟨by omega, by omega⟩ hsr
            subst e2
            have HSR := Lib.hid hsr
            have HV : Hid (RowKit.Below wr.heap.size wr V1) := Lib.hid ((HX.out.trans (RowKit.Below.refl _ _).drew).trans (b5.mono HX.out.size))
            have hu4 := (HR.out.up HV.out HR.out.lt).cell (upto_at (fun b : Nat => reachB S k b) (k := j) hjl)
            have hf4 := (HR.out.up HV.out HR.out.lt).fr j
            refine ⟨_, rfl, hK _ _ (fun _ => hc1) (fun hh => ?_)⟩
            have hHeld := hh (by decide)
            clear hK K hh hsr hs5 b5 HX hxs hc0
            try simp only [Act.put, List.getElem_toArray, List.getElem_cons_zero, List.getElem_cons_succ, List.setIfInBounds_toArray, List.set_cons_zero, List.set_cons_succ]
            refine Still.t 6 [] hHeld ?_
            refine Still.t 7 [] hHeld ?_
            refine Still.t 8 [] hHeld ?_
            refine Still.t 9 [] hHeld ?_
            refine Still.o 10 rfl rfl (fun K hK => ?_)
            go_simp
            refine hK _ _ (fun h => absurd rfl h) (fun _ => ?_)
            clear hK K
            refine Still.over (by kernel_rfl) ?_ _
            clear hHeld
            go_wp2
            go_roundw
            case rel =>
              refine ⟨j + 1, by go_num, by omega, Lib.hid ?_, Lib.hid ?_, Lib.hid ?_⟩
              · rw [← upto_step]
                exact (HR.out.up HV.out HR.out.lt).set j _
              · exact (HQ.out.trans (HV.out.mono HQ.out.size)).setCell (by simp) _
              · intro b hb
                by_cases e : b = j
                · subst e; exact ⟨_, HSR.out⟩
                · exact HA2.out b (by omega)
            case measure => simp [intOf]; omega
          · have hji : ¬ (j : Int) < S.parts.length := by omega
            have hje : j = S.parts.length := by omega
            subst hje
            obtain ⟨vs, hv1, hv2, hv3⟩ := HT.out.up HQ.out
            have hsq := HQ.out.size
            have hs2 := H2.out.size
            have HO3 := Lib.hid (hv2.alloc (.cells #[.slice (some ⟨wo.heap.size, 0, none⟩) S.parts.length S.parts.length] 95))
            have HTT := HT.out
            have HV3 := Lib.hid hv3
            have HV1 := Lib.hid hv1
            obtain ⟨a3, c3, hform⟩ := own_form HO3.out
            subst hform
            clear hv2 hv3 hv1 HTT
            go_wp2_with (at_builtin; refine wpList_append_lies _ rfl (.tmp 44) (.tmp 46) 88 rfl w2.heap.size 95 i1 _ 1 24 Tryz.underlying88 hi1 hy0 hy1 hy2 rfl (by decide) _ k vs rfl HO3.out ⟨wr.heap.size, 0, none⟩ 1 1 [.slice (some ⟨wo.heap.size, 0, none⟩) S.parts.length S.parts.length] rfl rfl (new_rangeE _ _ _ _ rfl) (by simp [Value.oneCell']) (by decide) (by unfold maxLen; omega) (by omega) (by simp; omega) _ rfl ?_)
            intro g5 cap5 W5 hown hgrow hat hg5
            have HTB := Lib.hid (HR.out.lt)
            have HT5 : Hid (TabO W5 w2.heap.size (.slice (some ⟨g5, 0, none⟩) (k + 1) cap5) (fun a b => reachB S a b) (k + 1) S.parts.length) := Lib.hid (TabO.add (w := wr.alloc (.cells #[.slice (some ⟨wo.heap.size, 0, none⟩) S.parts.length S.parts.length] 95)) HV1.out (fun a h => ⟨(HV3.out a h).1.up ((RowKit.Below.refl _ _).alloc (Nat.le_refl _) _), fun b e => ⟨((HV3.out a h).2 b e).1, by have := ((HV3.out a h).2 b e).2; simp; omega⟩⟩) hown hgrow (by simpa using hat) ((upto_sl HR.out).up ((RowKit.Below.refl _ _).alloc (Nat.le_refl _) _)) (fun b e => by
              simp [Value.ownBlock] at e
              subst e
              refine ⟨fun e2 => ?_, by simp; have := HTB.out; omega⟩
              have := HT.out.lt e2
              omega))
            have H5 := Lib.hid (((H2.out.trans (HQ.out.mono H2.out.size)).alloc (by omega) _).grown hgrow (by simp; omega) (fun q e => by have := own_block HO3.out q e; omega))
            clear hown hgrow hat HO3 HQ HT
            go_wp2
            go_roundw
            case rel =>
              refine ⟨k + 1, by go_num, by omega, HT5, H5, Lib.hid (fun a b h1 h2 => ?_)⟩
              by_cases e : a = k
              · subst e; exact HA2.out b h2
              · exact HA.out a b (by omega) h2
            case measure => simp [intOf]; omega
      · have hli : ¬ (k : Int) < S.parts.length := by omega
        have hke : k = S.parts.length := by omega
        subst hke
        go_wp2
        go_ret2
        exact ⟨_, rfl, by rw [HQN.out]; exact HT.out.r, D2.out.trans (H2.out.mono D2.out.size), by rw [HQN.out]; exact HA⟩
  · have h0' : (r != 0) = true := by simpa using h0
    have HQN : Hid (reachQ S = 0) := Lib.hid (by unfold reachQ; rw [if_neg (by rw [HR.out]; exact h0)])
    clear h0
    go_wp2
    go_ret2
    exact ⟨_, rfl, by rw [HQN.out]; exact tabR_nil _ _ _, D.out, Lib.hid (fun a b h => by rw [HQN.out] at h; omega)⟩
end Go.Proofs.YtbkdoohhdkahiaaGreatDoor
namespace Go.Proofs.YtbkdoohhdkahiaaGreatDoor
set_option linter.unusedSimpArgs false
set_option linter.unusedVariables false
open Go.RowKit Go.Sort
theorem sl_old {w : World} {size n : Nat} {v : Value} {xs : List Value} (h : Sl w size v n xs) (hn : 0 < n) : ∀ b, v.ownBlock = some b → b < w.heap.size := fun b e => by
  obtain ⟨b', off, cap, rfl, _, hb, _⟩ := h.open hn
  simp [Value.ownBlock] at e
  omega
end Go.Proofs.YtbkdoohhdkahiaaGreatDoor
namespace Go.Proofs.YtbkdoohhdkahiaaGreatDoor
set_option linter.unusedSimpArgs false
set_option linter.unusedVariables false
open Go.RowKit Go.Sort
def sysZV : SysD := ⟨[], [], []⟩
theorem SysF.nil (n : Nat) (w : World) : SysF n w (.slice none 0 0) (.slice none 0 0) (.slice none 0 0) sysZV := ⟨⟨[], rfl, Sl.nil _ _, fun k hk => by simp [sysZV] at hk⟩, newB_nil _ _, Sl.nil _ _, Sl.nil _ _, newB_nil _ _, newB_nil _ _⟩
theorem thE_zero {S : SysD} {part : Int} (h : thE S part = 0) : chkS S = 0 ∧ 0 ≤ part ∧ part < S.parts.length := by
  unfold thE at h
  by_cases hk : chkS S = 0
  · rw [if_pos hk] at h
    by_cases hw : withinB part 0 ((S.parts.length : Int) - 1) = true
    · simp [withinB] at hw
      exact ⟨hk, by omega, by omega⟩
    · rw [if_neg hw] at h
      omega
  · rw [if_neg hk] at h
    exact absurd h hk
theorem small_sys {S : SysD} (hz : chkS S = 0) : SmallS S := by
  have hcnt := (countsB_is (chkS_zero hz).1)
  refine ⟨hcnt.1.2.1, by have := hcnt.1.2.2.1; omega, by have := hcnt.1.2.2.2.2; omega, fun k h => ⟨?_, ?_⟩⟩
  · have := (chkC_zero ((chkS_zero hz).2.1 k h)).2.1
    omega
  · have := hcnt.2 k h
    omega
end Go.Proofs.YtbkdoohhdkahiaaGreatDoor
namespace Go.Proofs.YtbkdoohhdkahiaaGreatDoor
set_option linter.unusedSimpArgs false
set_option linter.unusedVariables false
open Go.RowKit Go.Sort
theorem entOther1 : Enters 44 := enters Tryz.func44 (by kernel_rfl) (by kernel_rfl)
def otherS (S : SysD) (part : Nat) (p : Prt) : SysD := ⟨S.parts.set part p, S.chans, S.slots⟩
theorem otherS_at (S : SysD) (part : Nat) (p : Prt) (k : Nat) (h : k < (otherS S part p).parts.length) (h' : k < S.parts.length) : (otherS S part p).parts[k] = if part = k then p else S.parts[k] := by
  simp [otherS, List.getElem_set]
def otherE (S : SysD) (part : Int) (p : Prt) : Int := if thE S part ≠ 0 then thE S part else chkS (otherS S part.toNat p)
def otherR (S : SysD) (part : Int) (p : Prt) : SysD := if otherE S part p = 0 then otherS S part.toNat p else sysZV
set_option maxRecDepth 100000 in
set_option maxHeartbeats 4000000 in
theorem other1_any (part k : Nat) (p q : Prt) (g4 g5 : Nat) (c i pv iv : Value) (w W : World) (hwW : Below w.heap.size w W) (h4 : Rw W g4 3 #[.int .i64 (part : Int)]) (h5 : Rw W g5 43 #[pv, iv]) (hp : PrtR w pv iv p) (hpr : PrtR w c i q) :
    Calls Tryz.prog 44 #[.int .i64 (k : Int), .agg #[c, i], .pointer (some ⟨g4, 0, none⟩), .pointer (some ⟨g5, 0, none⟩)] W fun e W' => ∃ c' i', e = .returned (.agg #[c', i']) ∧ PrtR W' c' i' (if part = k then p else q) ∧ (0 < (if part = k then p else q).code.length → ∀ b, c'.ownBlock = some b → b < w.heap.size ∨ W.heap.size ≤ b) ∧ (0 < (if part = k then p else q).inn.length → ∀ b, i'.ownBlock = some b → b < w.heap.size ∨ W.heap.size ≤ b) ∧ Below W.heap.size W W' := by
  obtain ⟨pa, pc, rfl⟩ := hp.code.form
  obtain ⟨ja, jc, rfl⟩ := hp.inn.form
  obtain ⟨ca, cc, rfl⟩ := hpr.code.form
  obtain ⟨ia, ic, rfl⟩ := hpr.inn.form
  have hr4 := h4.lt
  have hr5 := h5.lt
  obtain ⟨r, hr⟩ : ∃ r, (if part = k then p else q) = r := ⟨_, rfl⟩
  rw [hr]
  have HR := Lib.hid hr
  clear hr
  have HP := Lib.hid hp
  have HPR := Lib.hid hpr
  have HWW := Lib.hid hwW
  have H4 := Lib.hid h4
  have H5 := Lib.hid h5
  clear hp hpr hwW h4 h5
  go_enter Tryz.func44, Tryz.ntmps44
  go_upto_region 1 with fail
  generalize hX : World.alloc _ _ = X
  have hXX : X = (W.alloc (.cells #[.slice ca q.code.length cc, .slice ia q.inn.length ic] 43)).alloc (.cells #[.slice none 0 0, .slice none 0 0] 43) := by rw [← hX]
  have hzX : X.heap.size = W.heap.size + 2 := by rw [hXX]; simp
  have d0 : Below W.heap.size W X := by rw [hXX]; exact up0
  have R5 : Hid (Rw X W.heap.size 43 #[.slice ca q.code.length cc, .slice ia q.inn.length ic]) := Lib.hid (by rw [hXX]; exact (by repeat (first | exact Rw.new _ _ _ (by first | rfl | (simp; done) | omega | (simp; omega)) | refine Rw.alloc ?_ _)))
  have R6 : Hid (Rw X (W.heap.size + 1) 43 #[.slice none 0 0, .slice none 0 0]) := Lib.hid (by rw [hXX]; exact (by repeat (first | exact Rw.new _ _ _ (by first | rfl | (simp; done) | omega | (simp; omega)) | refine Rw.alloc ?_ _)))
  have k4 := (H4.out.up d0 hr4).cell (j := 0) (v := .int .i64 (part : Int)) rfl
  have R55 := Lib.hid (H5.out.up d0 hr5)
  have D0 := Lib.hid d0
  clear hX hXX d0
  by_cases he : part = k
  · subst he
    have heb : ((part : Int) == (part : Int)) = true := by simp
    have hr : p = r := by rw [← HR.out, if_pos rfl]
    subst hr
    have q0 := R55.out.cell (j := 0) (v := .slice pa p.code.length pc) rfl
    have q1 := R55.out.cell (j := 1) (v := .slice ja p.inn.length jc) rfl
    go_wp2_with (refine wpList_store_row rfl 43 (.tmp 6) (.tmp 10) rfl (W.heap.size + 1) #[.slice pa p.code.length pc, .slice ja p.inn.length jc] rfl rfl 43 _ R6.out sizePart rfl (by simp [Value.oneCell']) ?_)
    refine bodyPost_ret (results_cell_row Tryz.results44 _ _ (W.heap.size + 1) 43 _ (0, 0) _ rfl (R6.out.row _) Tryz.underlying43 rfl sizePart) rfl ?_
    exact ⟨_, _, rfl, ⟨sl_rowP ((HP.out.code.up HWW.out).up D0.out) _ (fun hn e => by have h1 := sl_old HP.out.code hn _ e; have := HWW.out.size; omega), sl_rowP ((HP.out.inn.up HWW.out).up D0.out) _ (fun hn e => by have h1 := sl_old HP.out.inn hn _ e; have := HWW.out.size; omega)⟩, fun hn b e => .inl (sl_old HP.out.code hn b e), fun hn b e => .inl (sl_old HP.out.inn hn b e), below_row D0.out (by omega) _⟩
  · have heb : ((k : Int) == (part : Int)) = false := by simp; omega
    have hr : q = r := by rw [← HR.out, if_neg he]
    subst hr
    have q0 := R5.out.cell (j := 0) (v := .slice ca q.code.length cc) rfl
    have q1 := R5.out.cell (j := 1) (v := .slice ia q.inn.length ic) rfl
    go_wp2_with (refine wpList_store_row rfl 43 (.tmp 6) (.tmp 11) rfl (W.heap.size + 1) #[.slice ca q.code.length cc, .slice ia q.inn.length ic] rfl rfl 43 _ R6.out sizePart rfl (by simp [Value.oneCell']) ?_)
    refine bodyPost_ret (results_cell_row Tryz.results44 _ _ (W.heap.size + 1) 43 _ (0, 0) _ rfl (R6.out.row _) Tryz.underlying43 rfl sizePart) rfl ?_
    exact ⟨_, _, rfl, ⟨sl_rowP ((HPR.out.code.up HWW.out).up D0.out) _ (fun hn e => by have h1 := sl_old HPR.out.code hn _ e; have := HWW.out.size; omega), sl_rowP ((HPR.out.inn.up HWW.out).up D0.out) _ (fun hn e => by have h1 := sl_old HPR.out.inn hn _ e; have := HWW.out.size; omega)⟩, fun hn b e => .inl (sl_old HPR.out.code hn b e), fun hn b e => .inl (sl_old HPR.out.inn hn b e), below_row D0.out (by omega) _⟩
set_option maxRecDepth 100000 in
set_option maxHeartbeats 4000000 in
theorem other_any (S : SysD) (part : Int) (p : Prt) (vp vc vs pv iv : Value) (w : World) (he : Env w) (hS : Sys w vp vc vs S) (hp : PrtR w pv iv p) (v0 : Int) (hv0 : otherE S part p = v0) (D' : SysD) (hD' : otherR S part p = D') :
    Calls Tryz.prog 13 #[.agg #[vp, vc, vs], .int .i64 part, .agg #[pv, iv]] w fun e w' => ∃ xp xc xs, e = .returned (.tuple #[.agg #[xp, xc, xs], .int .i64 v0]) ∧ SysF w.heap.size w' xp xc xs D' ∧ Below w.heap.size w w' := by
  obtain ⟨pa, pc, rfl⟩ := hS.p.form
  obtain ⟨ka, kc, rfl⟩ := hS.c.form
  obtain ⟨sa, sc, rfl⟩ := hS.s.form
  obtain ⟨qa, qc, rfl⟩ := hp.code.form
  obtain ⟨ja, jc, rfl⟩ := hp.inn.form
  have hmf : ∀ (fn : Go.Fn) (first cap : Array Value) (w : World), (Instr.makeFunc fn first cap).run Tryz.prog w = .ok (.func fn first cap) w := fun _ _ _ _ => rfl
  obtain ⟨c0, hc0⟩ : ∃ c0, thE S part = c0 := ⟨_, rfl⟩
  have HE := Lib.hid he
  have HS := Lib.hid hS
  have HPP := Lib.hid hp
  have HV := Lib.hid hv0
  have HDD := Lib.hid hD'
  have HC0 := Lib.hid hc0
  clear he hS hp hv0 hD' hc0
  go_enter Tryz.func13, Tryz.ntmps13
  go_wp2_with fail
  refine (vcheckPart_any S _ _ _ part _ (HE.out.up up0) (HS.out.up up0) c0 HC0.out).mono ?_
  rintro e w1 ⟨rfl, b1⟩
  have z1 := b1.size
  simp at z1
  have R2 : Hid (Rw w1 w.heap.size 39 #[.slice pa S.parts.length pc, .slice ka S.chans.length kc, .slice sa S.slots.length sc]) := Rw.up (by repeat (first | exact Rw.new _ _ _ (by first | rfl | (simp; done) | omega | (simp; omega)) | refine Rw.alloc ?_ _)) b1 (by first | omega | (simp; done) | (simp; omega))
  have R3 : Hid (Rw w1 (w.heap.size + 1) 3 #[.int .i64 part]) := Rw.up (by repeat (first | exact Rw.new _ _ _ (by first | rfl | (simp; done) | omega | (simp; omega)) | refine Rw.alloc ?_ _)) b1 (by first | omega | (simp; done) | (simp; omega))
  have R5 : Hid (Rw w1 (w.heap.size + 1 + 1) 43 #[.slice qa p.code.length qc, .slice ja p.inn.length jc]) := Rw.up (by repeat (first | exact Rw.new _ _ _ (by first | rfl | (simp; done) | omega | (simp; omega)) | refine Rw.alloc ?_ _)) b1 (by first | omega | (simp; done) | (simp; omega))
  have R6 : Hid (Rw w1 (w.heap.size + 1 + 1 + 1) 39 #[.slice none 0 0, .slice none 0 0, .slice none 0 0]) := Rw.up (by repeat (first | exact Rw.new _ _ _ (by first | rfl | (simp; done) | omega | (simp; omega)) | refine Rw.alloc ?_ _)) b1 (by first | omega | (simp; done) | (simp; omega))
  have HB : Hid (Below w.heap.size w w1) := by
    refine Below.trans ?_ (b1.mono (by first | omega | (simp; done) | (simp; omega)))
    exact up0
  clear b1
  by_cases h0 : c0 = 0
  rotate_left
  · have h0b : (c0 == 0) = false := by simpa using h0
    have hv : v0 = c0 := by rw [← HV.out, ← HC0.out]; unfold otherE; rw [if_pos (by rw [HC0.out]; exact h0)]
    have e2 : sysZV = D' := by rw [← HDD.out]; unfold otherR; rw [if_neg (by rw [HV.out, hv]; exact h0)]
    subst e2
    subst hv
    clear h0 HDD HV R2 R3 R5 HC0
    go_wp2_with (refine wpList_store_rowW rfl 39 (.tmp 6) (.tmp 16) rfl (w.heap.size + 1 + 1 + 1) #[.slice none 0 0, .slice none 0 0, .slice none 0 0] rfl rfl 39 _ R6.out sizeSys rfl (by simp [Value.oneCell']) ?_)
    intro W9 HW9
    have r9 : Rw W9 (w.heap.size + 1 + 1 + 1) 39 #[.slice none 0 0, .slice none 0 0, .slice none 0 0] := by rw [HW9.out]; exact R6.out.row _
    have HB9 := Lib.hid (show Below w.heap.size w W9 by rw [HW9.out]; exact below_row HB.out (by omega) _)
    clear HW9
    go_wp2
    refine bodyPost_ret (results_row_tmp Tryz.results13 _ _ (w.heap.size + 1 + 1 + 1) _ _ rfl rfl (run_loadVar_row _ _ 39 _ _ (0, 0) _ r9 Tryz.underlying39 rfl sizeSys)) rfl ⟨_, _, _, rfl, SysF.nil _ _, HB9.out⟩
  subst h0
  obtain ⟨hk, hp0, hp1⟩ := thE_zero HC0.out
  obtain ⟨pn, rfl⟩ : ∃ pn : Nat, part = pn := ⟨part.toNat, by omega⟩
  have hpn : pn < S.parts.length := by omega
  have hvE : chkS (otherS S pn p) = v0 := by rw [← HV.out]; unfold otherE; rw [if_neg (by rw [HC0.out]; simp)]; rfl
  have HVE := Lib.hid hvE
  have hn4 := (small_sys hk).p
  have hDE : (if v0 = 0 then otherS S pn p else sysZV) = D' := by rw [← HDD.out]; unfold otherR; rw [HV.out]; rfl
  have HDE := Lib.hid hDE
  clear hk hp0 hp1 HDD HV hvE hDE HC0
  have s0 := R2.out.cell (j := 0) (v := .slice pa S.parts.length pc) rfl
  have s1 := R2.out.cell (j := 1) (v := .slice ka S.chans.length kc) rfl
  have s2 := R2.out.cell (j := 2) (v := .slice sa S.slots.length sc) rfl
  obtain ⟨P, hP⟩ : ∃ P, (otherS S pn p).parts = P := ⟨_, rfl⟩
  have hPl : P.length = S.parts.length := by rw [← hP]; simp [otherS]
  have HPL := Lib.hid hPl
  have HP := Lib.hid hP
  clear hPl hP
  go_wp2_with fail
  refine (turned_any S P HPL.out hn4 0 44 entOther1 #[.pointer (some ⟨w.heap.size + 1, 0, none⟩), .pointer (some ⟨w.heap.size + 1 + 1, 0, none⟩)] _ _ _ w1 (HS.out.up HB.out) (fun k hk hk' c i W h1 h2 h3 => by
    refine (other1_any pn k p S.parts[k] (w.heap.size + 1) (w.heap.size + 1 + 1) c i _ _ w1 W h1 (R3.out.up h1 R3.out.lt) (R5.out.up h1 R5.out.lt) (HPP.out.up HB.out) h3).mono ?_
    rintro e W' ⟨c', i', rfl, hq, o1, o2, hb⟩
    have e3 : P[k] = if pn = k then p else S.parts[k] := by
      have := HP.out
      subst this
      exact otherS_at S pn p k hk' hk
    rw [e3]
    exact ⟨c', i', rfl, hq, ⟨fun b _ => Nat.zero_le _, fun b _ => Nat.zero_le _⟩, o1, o2, hb⟩)).mono ?_
  rintro e w4 ⟨xp, rfl, hPF, hNP, b4⟩
  obtain ⟨xa, xb, rfl⟩ := hPF.r.form
  have z4 := b4.size
  have R64 := Lib.hid (R6.out.up b4 R6.out.lt)
  have HB4 := Lib.hid (HB.out.trans (b4.mono (by omega)))
  have HSY : Hid (Sys w4 (.slice xa P.length xb) (.slice ka S.chans.length kc) (.slice sa S.slots.length sc) (otherS S pn p)) := Lib.hid ⟨by rw [HP.out]; exact hPF.r, HS.out.c.up HB4.out, HS.out.s.up HB4.out⟩
  clear b4 hPF hNP s0 s1 s2 R2 R3 R5 R6 HB
  go_wp2_with (refine wpList_store_rowW rfl 39 (.tmp 9) (.tmp 20) rfl w4.heap.size #[.slice xa P.length xb, .slice ka S.chans.length kc, .slice sa S.slots.length sc] rfl rfl 39 #[.slice none 0 0, .slice none 0 0, .slice none 0 0] (by repeat (first | exact Rw.new _ _ _ (by first | rfl | (simp; done) | omega | (simp; omega)) | refine Rw.alloc ?_ _)) sizeSys rfl (by simp [Value.oneCell']) ?_)
  intro W5 HW5
  have b5 : Below w4.heap.size w4 W5 := by rw [HW5.out]; exact below_row ((Below.refl _ _).alloc (Nat.le_refl _) _) (Nat.le_refl _) _
  have R9 : Hid (Rw W5 w4.heap.size 39 #[.slice xa P.length xb, .slice ka S.chans.length kc, .slice sa S.slots.length sc]) := by
    show Rw _ _ _ _
    rw [HW5.out]
    exact Rw.row (cs := #[.slice none 0 0, .slice none 0 0, .slice none 0 0]) (by repeat (first | exact Rw.new _ _ _ (by first | rfl | (simp; done) | omega | (simp; omega)) | refine Rw.alloc ?_ _)) _
  have q0 := R9.out.cell (j := 0) (v := .slice xa P.length xb) rfl
  have q1 := R9.out.cell (j := 1) (v := .slice ka S.chans.length kc) rfl
  have q2 := R9.out.cell (j := 2) (v := .slice sa S.slots.length sc) rfl
  have z5 := b5.size
  have R65 := Lib.hid (R64.out.up b5 R64.out.lt)
  have HB5 := Lib.hid (HB4.out.trans (b5.mono (by omega)))
  have HSY5 := Lib.hid (HSY.out.up b5)
  clear HW5 b5 R64 HB4 HSY
  go_wp2_with fail
  refine (confCheck_any (otherS S pn p) _ _ _ _ (HE.out.up HB5.out) HSY5.out).mono ?_
  rw [HVE.out]
  rintro e w6 ⟨rfl, b6⟩
  have z6 := b6.size
  have R66 := Lib.hid (R65.out.up b6 R65.out.lt)
  have R96 := Lib.hid (R9.out.up b6 R9.out.lt)
  have HB6 := Lib.hid (HB5.out.trans (b6.mono (by omega)))
  have HSY6 := Lib.hid (HSY5.out.up b6)
  clear b6 q0 q1 q2 R9 R65 HB5 HSY5
  by_cases hv : v0 = 0
  rotate_left
  · have hvb : (v0 == 0) = false := by simpa using hv
    have e2 : sysZV = D' := by rw [← HDE.out, if_neg hv]
    subst e2
    clear hv HDE HVE R96
    go_wp2_with (refine wpList_store_rowW rfl 39 (.tmp 6) (.tmp 25) rfl (w.heap.size + 1 + 1 + 1) #[.slice none 0 0, .slice none 0 0, .slice none 0 0] rfl rfl 39 _ R66.out sizeSys rfl (by simp [Value.oneCell']) ?_)
    intro W9 HW9
    have r9 : Rw W9 (w.heap.size + 1 + 1 + 1) 39 #[.slice none 0 0, .slice none 0 0, .slice none 0 0] := by rw [HW9.out]; exact R66.out.row _
    have HB9 := Lib.hid (show Below w.heap.size w W9 by rw [HW9.out]; exact below_row HB6.out (by omega) _)
    clear HW9
    go_wp2
    refine bodyPost_ret (results_row_tmp Tryz.results13 _ _ (w.heap.size + 1 + 1 + 1) _ _ rfl rfl (run_loadVar_row _ _ 39 _ _ (0, 0) _ r9 Tryz.underlying39 rfl sizeSys)) rfl ⟨_, _, _, rfl, SysF.nil _ _, HB9.out⟩
  subst hv
  have e2 : otherS S pn p = D' := by rw [← HDE.out, if_pos rfl]
  have q0 := R96.out.cell (j := 0) (v := .slice xa P.length xb) rfl
  have q1 := R96.out.cell (j := 1) (v := .slice ka S.chans.length kc) rfl
  have q2 := R96.out.cell (j := 2) (v := .slice sa S.slots.length sc) rfl
  clear HDE
  go_wp2_with fail
  refine (whole_any (otherS S pn p) (small_sys HVE.out) _ _ _ _ HSY6.out).mono ?_
  rintro e w7 ⟨yp, yc, ys, rfl, hF, b7⟩
  rw [e2] at hF
  obtain ⟨ya, yb, rfl⟩ := hF.p.r.form
  obtain ⟨ca, cb, rfl⟩ := hF.c.form
  obtain ⟨da, db, rfl⟩ := hF.s.form
  have z7 := b7.size
  have R67 := Lib.hid (R66.out.up b7 R66.out.lt)
  have HB7 := Lib.hid (HB6.out.trans (b7.mono (by omega)))
  have HF := Lib.hid hF
  clear b7 hF q0 q1 q2 R66 HB6 HSY6 R96
  go_wp2_with (refine wpList_store_rowW rfl 39 (.tmp 6) (.tmp 28) rfl (w.heap.size + 1 + 1 + 1) #[.slice ya D'.parts.length yb, .slice ca D'.chans.length cb, .slice da D'.slots.length db] rfl rfl 39 _ R67.out sizeSys rfl (by simp [Value.oneCell']) ?_)
  intro W8 HW8
  have r8 : Rw W8 (w.heap.size + 1 + 1 + 1) 39 #[.slice ya D'.parts.length yb, .slice ca D'.chans.length cb, .slice da D'.slots.length db] := by rw [HW8.out]; exact R67.out.row _
  have HB8 := Lib.hid (show Below w.heap.size w W8 by rw [HW8.out]; exact below_row HB7.out (by omega) _)
  have F8 := Lib.hid (show SysF w.heap.size W8 _ _ _ D' by rw [HW8.out]; exact (HF.out.row (by omega) _).low (by omega))
  clear HW8
  go_wp2
  exact bodyPost_ret (results_row_tmp Tryz.results13 _ _ (w.heap.size + 1 + 1 + 1) _ _ rfl rfl (run_loadVar_row _ _ 39 _ _ (0, 0) _ r8 Tryz.underlying39 rfl sizeSys)) rfl ⟨_, _, _, rfl, F8.out, HB8.out⟩
end Go.Proofs.YtbkdoohhdkahiaaGreatDoor
namespace Go.Proofs.YtbkdoohhdkahiaaGreatDoor
set_option linter.unusedSimpArgs false
set_option linter.unusedVariables false
open Go.RowKit Go.Sort
set_option maxHeartbeats 1000000 in
theorem choose_any (c : Int) (hc : in64 c) (n : Nat) (h1 : 1 ≤ n) (h2 : n ≤ 1048576) (w : World) : Calls Tryz.prog 12 #[.int .i64 c, .int .i64 (n : Int)] w fun e w' => ∃ m : Nat, e = .returned (.int .i64 (m : Int)) ∧ m < n ∧ w' = w := by
  have hn0 : ((n : Int) == 0) = false := by simp; omega
  obtain ⟨ha, hb⟩ := hc
  by_cases h : c < 0
  · have hr := Int.emod_nonneg (-(c + 1)) (show (n : Int) ≠ 0 by omega)
    have hs := Int.emod_lt_of_pos (-(c + 1)) (show (0 : Int) < n by omega)
    obtain ⟨m, hm⟩ := Int.eq_ofNat_of_zero_le hr
    have HM := Lib.hid hm
    clear hm hr
    go_enter Tryz.func12, Tryz.ntmps12
    go_wp2
    go_ret
    exact ⟨m, ret_int (show -((c + 1).tmod (n : Int)) = (m : Int) by rw [← Int.neg_tmod, Int.tmod_eq_emod_of_nonneg (by omega)]; exact HM.out), by have := HM.out; omega, rfl⟩
  · have hr := Int.emod_nonneg c (show (n : Int) ≠ 0 by omega)
    have hs := Int.emod_lt_of_pos c (show (0 : Int) < n by omega)
    obtain ⟨m, hm⟩ := Int.eq_ofNat_of_zero_le hr
    have HM := Lib.hid hm
    have h0 : 0 ≤ c := by omega
    clear hm hr
    go_enter Tryz.func12, Tryz.ntmps12
    go_wp2
    go_ret
    exact ⟨m, ret_int (by first | exact HM.out | (rw [← HM.out]; rfl) | (rw [← HM.out]; exact Int.tmod_eq_emod_of_nonneg (by omega))), by have := HM.out; omega, rfl⟩
end Go.Proofs.YtbkdoohhdkahiaaGreatDoor
namespace Go.Proofs.YtbkdoohhdkahiaaGreatDoor
set_option linter.unusedSimpArgs false
set_option linter.unusedVariables false
open Go.RowKit Go.Sort
theorem other_alike {S : SysD} (h : chkS S = 0) {v : Nat} {p : Prt} (h' : chkS (otherS S v p) = 0) {u : Int} (hr : reachB S v u = false) : Alike S (otherS S v p) u := by
  refine ⟨h, h', rfl, rfl, by simp [otherS], fun j hj => ?_⟩
  show (S.parts.set v p)[j]? = S.parts[j]?
  rw [List.getElem?_set]
  split
  · rename_i e
    subst e
    rw [hr] at hj
    cases hj
  · rfl
end Go.Proofs.YtbkdoohhdkahiaaGreatDoor
namespace Go.Proofs.YtbkdoohhdkahiaaGreatDoor
set_option linter.unusedSimpArgs false
set_option linter.unusedVariables false
open Go.RowKit Go.Sort Go.Shelf Go.Lib Go.Maps
theorem TabR.row {w : World} {v : Value} {f : Nat → Nat → Bool} {k n : Nat} (h : TabR w v f k n) (hk : 0 < k) (hn : 0 < n) : ∃ b off cap, v = .slice (some ⟨b, off, none⟩) k cap ∧ k ≤ cap ∧ b < w.heap.size ∧ ∀ a, a < k → ∃ rb ro rc, w.cell? ⟨b, off + a, none⟩ = some (.slice (some ⟨rb, ro, none⟩) n rc) ∧ n ≤ rc ∧ rb < w.heap.size ∧ ∀ c, c < n → w.cell? ⟨rb, ro + c, none⟩ = some (.bool (f a c)) := by
  obtain ⟨vs, h1, h2, h3⟩ := h
  obtain ⟨b, off, cap, rfl, hcap, hb, hc⟩ := h2.open hk
  refine ⟨b, off, cap, rfl, hcap, hb, fun a ha => ?_⟩
  obtain ⟨rb, ro, rc, e, hrc, hrb, hcc⟩ := (h3 a (by omega)).open hn
  refine ⟨rb, ro, rc, ?_, hrc, hrb, fun c hcn => hcc c _ (bools_at _ hcn)⟩
  exact hc a _ (by rw [List.getElem?_eq_getElem (by omega), e])
end Go.Proofs.YtbkdoohhdkahiaaGreatDoor

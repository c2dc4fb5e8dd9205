/- The reference's reachesBy, Reaches. -/
import Derived.Test.YtehhhiodfcdnmaaGreatDoorR30
import Derived.Test.YtehhhiodfcdnmaaGreatDoorR3
import Derived.Test.YtehhhiodfcdnmaaGreatDoorR0
import Derived.Test.YtehhhiodfcdnmaaGreatDoorR6
import Derived.Deep.OwnRows
import Derived.Test.YtehhhiodfcdnmaaGreatDoorR26
namespace Go.Proofs.YtehhhiodfcdnmaaGreatDoor
set_option linter.unusedSimpArgs false
set_option linter.unusedVariables false
set_option maxRecDepth 100000
set_option maxHeartbeats 8000000
open Go.RowKit Go.Sort Go.Shelf Go.Lib Go.Maps
theorem reachN_eq (S : SysD) (a : Int) : ∀ m, reachN S m a a = true
 | 0 => by simp [reachN]
 | m + 1 => by simp [reachN]
theorem reachN_yes {S : SysD} {m k : Nat} {a b : Int} (hk : k < S.parts.length) (h1 : leadsB S a k = true) (h2 : reachN S m k b = true) : reachN S (m + 1) a b = true := by
 simp only [reachN, Bool.or_eq_true, List.any_eq_true, List.mem_range, Bool.and_eq_true]
 exact .inr ⟨k, hk, h1, h2⟩
theorem reachN_no {S : SysD} {m : Nat} {a b : Int} (hne : a ≠ b) (h : ∀ k : Nat, k < S.parts.length → (leadsB S a k && reachN S m k b) = false) : reachN S (m + 1) a b = false := by
 simp only [reachN, Bool.or_eq_false_iff, List.any_eq_false, List.mem_range]
 exact ⟨by simpa using hne, fun k hk => by rw [h k hk]; decide⟩
theorem reachesBy_any (S : SysD) (hp : S.parts.length ≤ 4) (hl : S.chans.length ≤ 6) (b : Int) : ∀ (n : Nat), n ≤ 100 → ∀ (a : Int) (vp vc vs : Value) (w : World), Sys w vp vc vs S →
  Calls Tryz.prog 94 #[.agg #[vp, vc, vs], .int .i64 a, .int .i64 b, .int .i64 n] w fun e w' => e = .returned (.bool (reachN S n a b)) ∧ Below w.heap.size w w' := by
 intro n
 induction n with
 | zero =>
  intro _ a vp vc vs w hS
  obtain ⟨pa, pc, rfl⟩ := hS.p.form
  obtain ⟨ca, cc, rfl⟩ := hS.c.form
  obtain ⟨sa, sc, rfl⟩ := hS.s.form
  by_cases hab : a = b
  ·subst hab
   rw [reachN_eq]
   clear hS
   go_enter Tryz.func94, Tryz.ntmps94
   go_wp2
   go_ret
   exact ⟨rfl, up0⟩
  ·have hab' : (a == b) = false := by simpa using hab
   have hr : reachN S 0 a b = false := by simpa [reachN] using hab
   rw [hr]
   clear hr
   have HS := hd hS
   clear hS
   go_enter Tryz.func94, Tryz.ntmps94
   go_wp2
   go_loopw [9] (fun i wr => i = .int .i64 0 ∧ Hid (Box wr w.heap.size (.slice pa S.parts.length pc) (.slice ca S.chans.length cc) (.slice sa S.slots.length sc)) ∧ Hid (Below w.heap.size w wr)) (fun _ _ => 0)
   case atStart => exact ⟨rfl, box_new w _ _ _ _ _ rfl, up0⟩
   case round =>
    obtain ⟨rfl, HB, HT⟩ := hrel
    have k0 := HB.out.p
    by_cases h0 : (0 : Int) < S.parts.length
    ·go_wp2
     go_ret
     exact ⟨rfl, HT.out⟩
    ·go_wp2
     go_ret
     exact ⟨rfl, HT.out⟩
 | succ n ih =>
  intro hn a vp vc vs w hS
  obtain ⟨pa, pc, rfl⟩ := hS.p.form
  obtain ⟨ca, cc, rfl⟩ := hS.c.form
  obtain ⟨sa, sc, rfl⟩ := hS.s.form
  have HS := hd hS
  have IH := hd (ih om)
  clear hS ih
  by_cases hab : a = b
  ·subst hab
   rw [reachN_eq]
   go_enter Tryz.func94, Tryz.ntmps94
   go_wp2
   go_ret
   exact ⟨rfl, up0⟩
  ·have hab' : (a == b) = false := by simpa using hab
   generalize hr : reachN S (n + 1) a b = r
   have HR := hd hr
   clear hr
   generalize hN : ((n + 1 : Nat) : Int) = N
   have hN0 : 0 < N := by omega
   have hN1 : IntKind.i64.wrap (N - 1) = (n : Int) := by
    simp [IntKind.wrap, IntKind.bits, IntKind.signed]; omega
   go_enter Tryz.func94, Tryz.ntmps94
   go_wp2
   go_loopw [9] (fun i wr => ∃ k : Nat, i = .int .i64 k ∧ k ≤ S.parts.length ∧ Hid (∀ j : Nat, j < k → (leadsB S a j && reachN S n j b) = false) ∧ Hid (Box wr w.heap.size (.slice pa S.parts.length pc) (.slice ca S.chans.length cc) (.slice sa S.slots.length sc)) ∧ Hid (Below w.heap.size w wr)) (fun i _ => S.parts.length - (intOf i).toNat)
   case atStart => exact ⟨0, rfl, Nat.zero_le _, fun j h => by omega, box_new w _ _ _ _ _ rfl, up0⟩
   case round =>
    obtain ⟨k, rfl, hk, HNO, HB, HT⟩ := hrel
    have k0 := HB.out.p
    have k1 := HB.out.c
    have k2 := HB.out.s
    by_cases hlt : k < S.parts.length
    ·have hli : (k : Int) < S.parts.length := by omega
     go_wp2_with fail
     refine (leads_any S hl _ _ _ _ _ _ (HS.out.up HT.out)).mono ?_
     rintro e w2 ⟨rfl, hb2⟩
     have HB2 := hd (HB.out.up hb2)
     have HT2 := hd (HT.out.trans (hb2.mono HT.out.size))
     clear HB HT hb2 k0 k1 k2
     have k0 := HB2.out.p
     have k1 := HB2.out.c
     have k2 := HB2.out.s
     cases hle : leadsB S a k with
     | true =>
      go_wp2_with fail
      refine (IH.out _ _ _ _ _ (HS.out.up HT2.out)).mono ?_
      rintro e w3 ⟨rfl, hb3⟩
      have HB3 := hd (HB2.out.up hb3)
      have HT3 := hd (HT2.out.trans (hb3.mono HT2.out.size))
      clear HB2 HT2 hb3 k0 k1 k2
      cases hre : reachN S n k b with
      | true =>
       have hyes := HR.out.symm.trans (reachN_yes hlt hle hre)
       subst hyes
       go_wp2
       go_ret
       exact ⟨rfl, HT3.out⟩
      | false =>
       have HN2 : Hid (∀ j : Nat, j < k + 1 → (leadsB S a j && reachN S n j b) = false) := hd (fun j hj => by
        by_cases e : j = k
        ·subst e; rw [hre, Bool.and_false]
        ·exact HNO.out j om)
       clear HNO
       go_wp2
       go_roundw
       case rel => exact ⟨k + 1, by go_num, by omega, HN2, HB3, HT3⟩
       case measure => simp [intOf]; omega
     | false =>
      have HN2 : Hid (∀ j : Nat, j < k + 1 → (leadsB S a j && reachN S n j b) = false) := hd (fun j hj => by
       by_cases e : j = k
       ·subst e; rw [hle, Bool.false_and]
       ·exact HNO.out j om)
      clear HNO
      go_wp2
      go_roundw
      case rel => exact ⟨k + 1, by go_num, by omega, HN2, HB2, HT2⟩
      case measure => simp [intOf]; omega
    ·have hli : ¬ (k : Int) < S.parts.length := by omega
     have hno := HR.out.symm.trans (reachN_no hab (fun j hj => HNO.out j om))
     subst hno
     go_wp2
     go_ret
     exact ⟨rfl, HT.out⟩
theorem reaches_any (S : SysD) (hp : S.parts.length ≤ 4) (hl : S.chans.length ≤ 6) (a b : Int) (vp vc vs : Value) (w : World) (hS : Sys w vp vc vs S) :
  Calls Tryz.prog 51 #[.agg #[vp, vc, vs], .int .i64 a, .int .i64 b] w fun e w' => e = .returned (.bool (reachB S a b)) ∧ Below w.heap.size w w' := by
 obtain ⟨pa, pc, rfl⟩ := hS.p.form
 obtain ⟨ca, cc, rfl⟩ := hS.c.form
 obtain ⟨sa, sc, rfl⟩ := hS.s.form
 have HS := hd hS
 clear hS
 go_enter Tryz.func51, Tryz.ntmps51
 go_wp2_with fail
 refine (reachesBy_any S hp hl b S.parts.length om a _ _ _ _ (HS.out.up up0)).mono ?_
 rintro e w1 ⟨rfl, bb⟩
 have D := hd (Below.trans (show Below w.heap.size w _ from up0) (bb.mono (by simp)))
 clear bb
 go_wp2
 go_ret
 exact ⟨rfl, D.out⟩
structure OnWay (S : SysD) (a b : Int) (n0 m : Nat) (x : Int) (zs : List Int) : Prop where
 xin : 0 ≤ x ∧ x < S.parts.length
 yes : reachN S m x b = true
 less : ∀ j, j < m → reachN S j x b = false
 out : fwd S b n0 a = zs ++ fwd S b m x
theorem OnWay.none {S : SysD} {a b : Int} {n0 m : Nat} {x : Int} {zs : List Int} (h : OnWay S a b n0 m x zs) (e : x = b) : fwd S b n0 a = zs ++ [x] := by
 subst e
 have : m = 0 := by
  cases m with
  | zero => rfl
  | succ m => have := h.less 0 om; rw [reachN_eq] at this; cases this
 subst this
 exact h.out
theorem OnWay.pos {S : SysD} {a b : Int} {n0 m : Nat} {x : Int} {zs : List Int} (h : OnWay S a b n0 m x zs) (e : x ≠ b) : ∃ k, m = k + 1 := by
 cases m with
 | zero => have := h.yes; simp [reachN] at this; exact absurd this e
 | succ m => exact ⟨m, rfl⟩
theorem OnWay.next {S : SysD} {a b : Int} {n0 m : Nat} {x : Int} {zs : List Int} (h : OnWay S a b n0 (m + 1) x zs) (e : x ≠ b) {c : Nat} (hc : c < S.parts.length) (h1 : leadsB S x c = true) (h2 : reachN S m c b = true) (h3 : ∀ d : Nat, d < c → (leadsB S x d && reachN S m d b) = false) : OnWay S a b n0 m c (zs ++ [x]) := by
 obtain ⟨c', e1, e2, e3, e4, e5⟩ := next_some h.xin h.yes e
 have : c' = c := by
  rcases Nat.lt_trichotomy c' c with hlt | he | hlt
  ·have := h3 c' hlt; rw [e3, e4] at this; cases this
  ·exact he
  ·exact absurd ⟨h1, h2⟩ (e5 c hlt)
 subst this
 refine ⟨by omega, h2, fun j hj => ?_, ?_⟩
 ·cases hr : reachN S j c' b with
  | false => rfl
  | true =>
   have := h.less (j + 1) om
   rw [reachN_yes hc h1 hr] at this
   cases this
 ·rw [h.out, fwd, e1]
  simp
theorem OnWay.some {S : SysD} {a b : Int} {n0 m : Nat} {x : Int} {zs : List Int} (h : OnWay S a b n0 (m + 1) x zs) (e : x ≠ b) (h3 : ∀ d : Nat, d < S.parts.length → (leadsB S x d && reachN S m d b) = false) : False := by
 obtain ⟨c', e1, e2, e3, e4, e5⟩ := next_some h.xin h.yes e
 have := h3 c' e2
 rw [e3, e4] at this
 cases this
theorem OnWay.len {S : SysD} {a b : Int} {n0 m : Nat} {x : Int} {zs : List Int} (h : OnWay S a b n0 m x zs) (hz : zs.length + m = n0) (hn : n0 ≤ 100) : (zs ++ [x]).length ≤ 101 := by simp; omega
theorem ent_reach1 : Enters 56 := enters Tryz.func56 kr kr
theorem reach1_any (x b : Int) (g : Nat) (w : World) (hg : w.cell? ⟨g, 0, none⟩ = some (.int .i64 b)) : Calls Tryz.prog 56 #[.int .i64 x, .pointer (some ⟨g, 0, none⟩)] w fun e w' => e = .returned (.bool (x == b)) ∧ w' = w := by
 go_enter Tryz.func56, Tryz.ntmps56
 go_wp2
 go_ret
 exact ⟨rfl, rfl⟩
def bools (f : Nat → Bool) (n : Nat) : List Value := (List.range n).map fun j => .bool (f j)
def upto (f : Nat → Bool) (k n : Nat) : Array Value := ((List.range n).map fun j => Value.bool (if j < k then f j else false)).toArray
theorem upto_zero (f : Nat → Bool) (n : Nat) : madeCells #[.bool false] n = upto f 0 n := by
 apply Array.ext'
 rw [toList_madeCells_one]
 apply List.ext_getElem
 ·simp [upto]
 ·intro j h1 h2
  simp [upto]
theorem upto_step (f : Nat → Bool) {k n : Nat} : (upto f k n).setIfInBounds k (.bool (f k)) = upto f (k + 1) n := by
 apply Array.ext'
 apply List.ext_getElem
 ·simp [upto]
 ·intro j h1 h2
  simp only [upto, List.setIfInBounds_toArray, List.getElem_set, List.getElem_map, List.getElem_range]
  by_cases e : k = j
  ·subst e; simp
  ·rw [if_neg e]
   have : (j < k + 1) ↔ (j < k) := by omega
   simp [this]
theorem upto_full (f : Nat → Bool) (n : Nat) : (upto f n n).toList = bools f n := by
 apply List.ext_getElem
 ·simp [upto, bools]
 ·intro j h1 h2
  simp [upto, bools] at h1 h2 ⊢
  intro h
  omega
theorem upto_at (f : Nat → Bool) {k n j : Nat} (hj : j < n) : (upto f k n)[j]? = some (.bool (if j < k then f j else false)) := by
 simp [upto, hj]
theorem bools_at (f : Nat → Bool) {n j : Nat} (hj : j < n) : (bools f n)[j]? = some (.bool (f j)) := by
 simp [bools, hj]
theorem upto_sl {w : World} {g : Nat} {t : TypeId} {f : Nat → Bool} {n : Nat} (h : Rw w g t (upto f n n)) : Sl w 1 (.slice (some ⟨g, 0, none⟩) n n) n (bools f n) := by
 refine ⟨by simp [bools], _, _, rfl, Nat.le_refl _, fun _ => ⟨g, 0, rfl, h.lt, fun j u hj => ?_, fun j _ => frozen_of_row w g _ _ _ h⟩⟩
 rw [Nat.zero_add]
 refine h.cell ?_
 rw [← Array.getElem?_toList, upto_full]
 exact hj
theorem flSl_grown {w w' : World} {row : Option Nat} {size : Nat} {v : Value} {n : Nat} {xs : List Value} (h : Sl w size v n xs) (hg : w.grownBy w' row) (hne : ∀ k, v.ownBlock = some k → row ≠ some k) : Sl w' size v n xs := by
 obtain ⟨h1, ao, cap, rfl, h3, h4⟩ := h
 refine ⟨h1, ao, cap, rfl, h3, fun hn => ?_⟩
 obtain ⟨b, off, rfl, hlt, hc, hz⟩ := h4 hn
 exact ⟨b, off, rfl, Nat.lt_of_lt_of_le hlt hg.size, fun j u hj => (hg.cell_far ⟨b, off + j, none⟩ hlt (fun e => hne b rfl e.symm)).trans (hc j u hj), hz.of (hg.block b hlt (fun e => hne b rfl e.symm))⟩
def TabR (w : World) (v : Value) (f : Nat → Nat → Bool) (k n : Nat) : Prop :=
 ∃ vs : List Value, vs.length = k ∧ Sl w 1 v k vs ∧ ∀ a (h : a < vs.length), Sl w 1 vs[a] n (bools (f a) n)
theorem TabR.up {w w' : World} {v : Value} {f : Nat → Nat → Bool} {k n : Nat} (h : TabR w v f k n) (hb : Below w.heap.size w w') : TabR w' v f k n := by
 obtain ⟨vs, h1, h2, h3⟩ := h
 exact ⟨vs, h1, h2.up hb, fun a ha => (h3 a ha).up hb⟩
theorem tabR_nil (w : World) (f : Nat → Nat → Bool) (n : Nat) : TabR w (.slice none 0 0) f 0 n := ⟨[], rfl, Sl.nil _ _, fun a h => absurd h (Nat.not_lt_zero _)⟩
theorem TabR.form {w : World} {v : Value} {f : Nat → Nat → Bool} {k n : Nat} (h : TabR w v f k n) : ∃ ao cap, v = .slice ao k cap := let ⟨_, _, h2, _⟩ := h; h2.form
def TabO (w : World) (B : Nat) (v : Value) (f : Nat → Nat → Bool) (k n : Nat) : Prop :=
 ∃ vs : List Value, vs.length = k ∧ w.ownsRow B 63 1 v k vs ∧ ∀ a (h : a < vs.length), Sl w 1 vs[a] n (bools (f a) n) ∧ ∀ b, vs[a].ownBlock = some b → v.ownBlock ≠ some b ∧ b < w.heap.size
theorem TabO.r {w : World} {B : Nat} {v : Value} {f : Nat → Nat → Bool} {k n : Nat} (h : TabO w B v f k n) : TabR w v f k n := by
 obtain ⟨vs, h1, h2, h3⟩ := h
 exact ⟨vs, h1, own_sl h2, fun a ha => (h3 a ha).1⟩
theorem TabO.up {w w' : World} {B : Nat} {v : Value} {f : Nat → Nat → Bool} {k n : Nat} (h : TabO w B v f k n) (hb : Below w.heap.size w w') : TabO w' B v f k n := by
 obtain ⟨vs, h1, h2, h3⟩ := h
 exact ⟨vs, h1, own_upF h2 hb, fun a ha => ⟨(h3 a ha).1.up hb, fun b e => ⟨((h3 a ha).2 b e).1, Nat.lt_of_lt_of_le ((h3 a ha).2 b e).2 hb.size⟩⟩⟩
theorem TabO.lt {w : World} {B : Nat} {v : Value} {f : Nat → Nat → Bool} {k n b : Nat} (h : TabO w B v f k n) (e : v.ownBlock = some b) : b < w.heap.size := by
 obtain ⟨vs, h1, h2, h3⟩ := h
 exact (h2.lt b e).2
theorem tabO_nil (w : World) (B : Nat) (f : Nat → Nat → Bool) (n : Nat) : TabO w B (.slice none 0 0) f 0 n := ⟨[], rfl, World.ownsRow_nil _ _ _ _, fun a h => absurd h (Nat.not_lt_zero _)⟩
theorem TabO.add {w w' : World} {B : Nat} {v : Value} {f : Nat → Nat → Bool} {k n g cap : Nat} {x : Value} {vs : List Value} (h1 : vs.length = k) (h3 : ∀ a (h : a < vs.length), Sl w 1 vs[a] n (bools (f a) n) ∧ ∀ b, vs[a].ownBlock = some b → v.ownBlock ≠ some b ∧ b < w.heap.size)
  (ho : w'.ownsRow B 63 1 (.slice (some ⟨g, 0, none⟩) (k + 1) cap) (k + 1) (vs ++ [x])) (hg : w.grownBy w' v.ownBlock) (hat : v.ownBlock = some g ∨ g = w.heap.size) (hx : Sl w 1 x n (bools (f k) n)) (hxb : ∀ b, x.ownBlock = some b → v.ownBlock ≠ some b ∧ b < w.heap.size) :
  TabO w' B (.slice (some ⟨g, 0, none⟩) (k + 1) cap) f (k + 1) n := by
 have far : ∀ b, v.ownBlock ≠ some b ∧ b < w.heap.size → (Value.slice (some ⟨g, 0, none⟩) (k + 1) cap).ownBlock ≠ some b ∧ b < w'.heap.size := fun b ⟨e1, e2⟩ => ⟨fun e => by
  simp [Value.ownBlock] at e
  subst e
  rcases hat with hat | hat
  ·exact e1 hat
  ·omega, Nat.lt_of_lt_of_le e2 hg.size⟩
 refine ⟨vs ++ [x], by simp [h1], ho, fun a ha => ?_⟩
 by_cases hak : a < vs.length
 ·rw [List.getElem_append_left hak]
  exact ⟨flSl_grown (h3 a hak).1 hg (fun b e => ((h3 a hak).2 b e).1), fun b e => far b ((h3 a hak).2 b e)⟩
 ·have : a = k := by simp at ha; omega
  subst this
  rw [List.getElem_append_right om]
  simp only [h1, Nat.sub_self, List.getElem_cons_zero]
  exact ⟨flSl_grown hx hg (fun b e => (hxb b e).1), fun b e => far b (hxb b e)⟩
theorem infoBools : (Tryz.prog.info? 63).map (fun i => (i.zero, i.size, i.bytes)) = some (some (.slice none 0 0), 1, 24) := by kernel_rfl
theorem infoBool : (Tryz.prog.info? 4).map (fun i => (i.zero, i.size, i.bytes)) = some (some (.bool false), 1, 1) := by kernel_rfl
theorem ent_search : Enters 55 := enters Tryz.func55 kr kr
def reachQ (S : SysD) : Nat := if chkS S = 0 then S.parts.length else 0
theorem flReach_any (S : SysD) (vp vc vs : Value) (w : World) (he : Env w) (hS : Sys w vp vc vs S) :
  Calls Tryz.prog 21 #[.agg #[vp, vc, vs]] w fun e w' => ∃ v, e = .returned (.tuple #[v, .int .i64 (chkS S)]) ∧ TabR w' v (fun a b => reachB S a b) (reachQ S) (reachQ S) ∧ Below w.heap.size w w' ∧ Hid (∀ a b : Nat, a < reachQ S → b < reachQ S → ∃ l, SearchR (edgesL S) a b l (reachB S a b)) := by
 obtain ⟨i1, hi1, hy0, hy1, hy2⟩ := info_parts infoBools
 obtain ⟨i2, hi2, hb0, hb1, hb2⟩ := info_parts infoBool
 obtain ⟨pa, pc, rfl⟩ := hS.p.form
 obtain ⟨ca, cc, rfl⟩ := hS.c.form
 obtain ⟨sa, sc, rfl⟩ := hS.s.form
 generalize hr : chkS S = r
 have HS := hd hS
 have HR := hd hr
 clear hS hr
 go_enter Tryz.func21, Tryz.ntmps21
 go_wp2_with fail
 refine (confCheck_any S _ _ _ _ (he.up up0) (HS.out.up up0)).mono ?_
 rw [HR.out]
 rintro e w1 ⟨rfl, bb⟩
 have HB := hd ((box_new w (.slice pa S.parts.length pc) (.slice ca S.chans.length cc) (.slice sa S.slots.length sc) 26 _ rfl).up bb)
 have D := hd (Below.trans (show Below w.heap.size w _ from up0) (bb.mono (by simp)))
 clear bb
 by_cases h0 : r = 0
 ·subst h0
  obtain ⟨h4, _, hl, hE⟩ := chk_flow HR.out
  have HQN : Hid (reachQ S = S.parts.length) := hd (by unfold reachQ; rw [if_pos HR.out])
  have k1 := HB.out.c
  go_wp2_with fail
  refine (edges_any S.chans _ hl _ (HS.out.c.up D.out)).mono ?_
  rintro e w2 ⟨ve, l, rfl, hi, hl12, hs, b2⟩
  have hel := edges_eq hE hi
  subst hel
  have HSL := hd hs
  have D2 := hd (D.out.trans (b2.mono D.out.size))
  have HB2 := hd (HB.out.up b2)
  clear HB D b2 k1 hi hs
  have k0 := HB2.out.p
  go_wp2
  clear k0
  go_loopw [21, 6] (fun i l wo => ∃ k : Nat, i = .int .i64 k ∧ k ≤ S.parts.length ∧ Hid (TabO wo w2.heap.size l (fun a b => reachB S a b) k S.parts.length) ∧ Hid (Below w2.heap.size w2 wo) ∧ Hid (∀ a b : Nat, a < k → b < S.parts.length → ∃ l, SearchR (edgesL S) a b l (reachB S a b))) (fun i _ _ => S.parts.length - (intOf i).toNat)
  case atStart => exact ⟨0, rfl, Nat.zero_le _, hd (tabO_nil _ _ _ _), hd (Below.refl _ _), hd (fun a b h => by omega)⟩
  case round =>
   obtain ⟨k, rfl, hk, HT, H2, HA⟩ := hrel
   obtain ⟨wo, hwo⟩ : ∃ wo, wo = wr := ⟨_, rfl⟩
   subst hwo
   have HB3 := hd (HB2.out.up H2.out)
   have k0 := HB3.out.p
   by_cases hlt : k < S.parts.length
   ·have hli : (k : Int) < S.parts.length := by omega
    go_wp2_with (refine wpList_make_row _ rfl _ _ 63 rfl 4 i2 (.bool false) Tryz.underlying63 hi2 hb0 hb1 rfl .i64 .i64 S.parts.length rfl rfl (by rw [hb2]; omega) om ?_)
    clear k0
    go_loopw [30] (fun i wr => ∃ j : Nat, i = .int .i64 j ∧ j ≤ S.parts.length ∧ Hid (Rw wr wo.heap.size 4 (upto (fun b => reachB S k b) j S.parts.length)) ∧ Hid (Below wo.heap.size wo wr) ∧ Hid (∀ b : Nat, b < j → ∃ l, SearchR (edgesL S) k b l (reachB S k b))) (fun i _ => S.parts.length - (intOf i).toNat)
    case atStart => exact ⟨0, rfl, Nat.zero_le _, hd (by rw [← upto_zero]; exact Rw.new _ _ _ rfl), up0, hd (fun b h => by omega)⟩
    case round =>
     obtain ⟨j, rfl, hj, HR, HQ, HA2⟩ := hrel
     by_cases hjl : j < S.parts.length
     ·have hji : (j : Int) < S.parts.length := by omega
      go_upto_region 13 with fail
      have hc0 : (wr.alloc (.cells #[.int .i64 j] 3)).cell? ⟨wr.heap.size, 0, none⟩ = some (.int .i64 j) := by simp
      have HX : Hid (Below wr.heap.size wr (wr.alloc (.cells #[.int .i64 j] 3))) := hd up0
      have hxs : wr.heap.size < (wr.alloc (.cells #[.int .i64 j] 3)).heap.size := by simp
      generalize wr.alloc (.cells #[.int .i64 j] 3) = X at hc0 HX hxs ⊢
      refine region_still (S := fun w' => w'.cell? ⟨wr.heap.size, 0, none⟩ = some (.int .i64 (j : Int))) 10 kr hc0 (fun hHeld => ?_)
      refine Still.t 0 [] hHeld ?_
      refine Still.t 1 [] hHeld ?_
      refine Still.t 2 [] hHeld ?_
      refine Still.t 3 [] hHeld ?_
      refine Still.t 4 [] hHeld ?_
      refine Still.o 5 rfl rfl (fun K hK => ?_)
      refine wp_call 55 _ _ rfl ent_search #[ve, .int .i64 k, .func (.func 56) #[] #[.pointer (some ⟨wr.heap.size, 0, none⟩)]] ev ((search_any (edgesL S) S.parts.length om (edgesL_in S) om k j ⟨by omega, by omega⟩ 56 ent_reach1 #[.pointer (some ⟨wr.heap.size, 0, none⟩)] ve X.drew (HSL.out.up ((H2.out.trans ((HQ.out.trans (HX.out.mono HQ.out.size)).mono H2.out.size)).trans (Below.refl _ _).drew)) (fun x w' hb => reach1_any x j _ w' (bcl hb hxs hc0))).mono ?_)
      rintro e V1 ⟨v5, l5, r5, rfl, hsr, hs5, b5⟩
      have hc1 := bcl b5 hxs hc0
      have e2 := search_reach om ⟨by omega, by omega⟩ hsr
      subst e2
      have HSR := hd hsr
      have HV : Hid (Below wr.heap.size wr V1) := hd ((HX.out.trans (Below.refl _ _).drew).trans (b5.mono HX.out.size))
      have hu4 := (HR.out.up HV.out HR.out.lt).cell (upto_at (fun b : Nat => reachB S k b) (k := j) hjl)
      have hf4 := (HR.out.up HV.out HR.out.lt).fr j
      refine ⟨_, rfl, hK _ _ (fun _ => hc1) (fun hh => ?_)⟩
      have hHeld := hh (by decide)
      clear hK K hh hsr hs5 b5 HX hxs hc0
      try simp only [Act.put, List.getElem_toArray, List.getElem_cons_zero, List.getElem_cons_succ, List.setIfInBounds_toArray, List.set_cons_zero, List.set_cons_succ]
      refine Still.t 6 [] hHeld ?_
      refine Still.t 7 [] hHeld ?_
      refine Still.t 8 [] hHeld ?_
      refine Still.t 9 [] hHeld ?_
      refine Still.o 10 rfl rfl (fun K hK => ?_)
      go_simp
      refine hK _ _ ab (fun _ => Still.vv ?_)
      clear hK K
      clear hHeld
      go_wp2
      go_roundw
      case rel =>
       refine ⟨j + 1, by go_num, by omega, hd ?_, hd ?_, hd ?_⟩
       ·rw [← upto_step]
        exact (HR.out.up HV.out HR.out.lt).set j _
       ·exact (HQ.out.trans (HV.out.mono HQ.out.size)).setCell (by simp) _
       ·intro b hb
        by_cases e : b = j
        ·subst e; exact ⟨_, HSR.out⟩
        ·exact HA2.out b om
      case measure => simp [intOf]; omega
     ·have hji : ¬ (j : Int) < S.parts.length := by omega
      have hje : j = S.parts.length := by omega
      subst hje
      obtain ⟨vs, hv1, hv2, hv3⟩ := HT.out.up HQ.out
      have hsq := HQ.out.size
      have hs2 := H2.out.size
      have HO3 := hd (hv2.alloc (.cells #[.slice (some ⟨wo.heap.size, 0, none⟩) S.parts.length S.parts.length] 63))
      have HTT := HT.out
      have HV3 := hd hv3
      have HV1 := hd hv1
      obtain ⟨a3, c3, hform⟩ := own_form HO3.out
      subst hform
      clear hv2 hv3 hv1 HTT
      go_wp2_with (at_builtin; refine wpList_append_lies _ rfl (.tmp 44) (.tmp 46) 59 rfl w2.heap.size 63 i1 _ 1 24 Tryz.underlying59 hi1 hy0 hy1 hy2 rfl (by decide) _ k vs rfl HO3.out ⟨wr.heap.size, 0, none⟩ 1 1 [.slice (some ⟨wo.heap.size, 0, none⟩) S.parts.length S.parts.length] rfl rfl (new_rangeE _ _ _ _ rfl) (by simp [Value.oneCell']) (by decide) (by unfold maxLen; omega) om so _ rfl ?_)
      intro g5 cap5 W5 hown hgrow hat hg5
      have HTB := hd (HR.out.lt)
      have HT5 : Hid (TabO W5 w2.heap.size (.slice (some ⟨g5, 0, none⟩) (k + 1) cap5) (fun a b => reachB S a b) (k + 1) S.parts.length) := hd (TabO.add (w := wr.alloc (.cells #[.slice (some ⟨wo.heap.size, 0, none⟩) S.parts.length S.parts.length] 63)) HV1.out (fun a h => ⟨(HV3.out a h).1.up ((Below.refl _ _).alloc (Nat.le_refl _) _), fun b e => ⟨((HV3.out a h).2 b e).1, by have := ((HV3.out a h).2 b e).2; simp; omega⟩⟩) hown hgrow (by simpa using hat) ((upto_sl HR.out).up ((Below.refl _ _).alloc (Nat.le_refl _) _)) (fun b e => by
       simp [Value.ownBlock] at e
       subst e
       refine ⟨fun e2 => ?_, by simp; have := HTB.out; omega⟩
       have := HT.out.lt e2
       omega))
      have H5 := hd (((H2.out.trans (HQ.out.mono H2.out.size)).alloc om _).grown hgrow so (fun q e => by have := own_block HO3.out q e; omega))
      clear hown hgrow hat HO3 HQ HT
      go_wp2
      go_roundw
      case rel =>
       refine ⟨k + 1, by go_num, by omega, HT5, H5, hd (fun a b h1 h2 => ?_)⟩
       by_cases e : a = k
       ·subst e; exact HA2.out b h2
       ·exact HA.out a b om h2
      case measure => simp [intOf]; omega
   ·have hli : ¬ (k : Int) < S.parts.length := by omega
    have hke : k = S.parts.length := by omega
    subst hke
    go_wp2
    go_ret2
    exact ⟨_, rfl, by rw [HQN.out]; exact HT.out.r, D2.out.trans (H2.out.mono D2.out.size), by rw [HQN.out]; exact HA⟩
 ·have h0' : (r != 0) = true := by simpa using h0
  have HQN : Hid (reachQ S = 0) := hd (by unfold reachQ; rw [if_neg (by rw [HR.out]; exact h0)])
  clear h0
  go_wp2
  go_ret2
  exact ⟨_, rfl, by rw [HQN.out]; exact tabR_nil _ _ _, D.out, hd (fun a b h => by rw [HQN.out] at h; omega)⟩
open Go.RowKit Go.Sort
theorem entPurge1 : Enters 46 := enters Tryz.func46 kr kr
theorem Below.drewNV {B : Nat} {w w' : World} (h : Below B w w') : ∀ q, Below B w (w'.drewN q)
 | 0 => h
 | q + 1 => (Below.drewNV h q).drew
def purgeP (S : SysD) (part : Int) (k : Nat) (p : Prt) : Prt := if reachB S k part then p else stopP
def purgeS (S : SysD) (part : Int) : SysD := ⟨S.parts.mapIdx (purgeP S part), S.chans, S.slots⟩
theorem purgeS_len (S : SysD) (part : Int) : (purgeS S part).parts.length = S.parts.length := by simp [purgeS]
theorem purgeS_at (S : SysD) (part : Int) (k : Nat) (h : k < (purgeS S part).parts.length) (h' : k < S.parts.length) : (purgeS S part).parts[k] = purgeP S part k S.parts[k] := by simp [purgeS]
theorem sl_old {w : World} {size n : Nat} {v : Value} {xs : List Value} (h : Sl w size v n xs) (hn : 0 < n) : ∀ b, v.ownBlock = some b → b < w.heap.size := fun b e => by
 obtain ⟨b', off, cap, rfl, _, hb, _⟩ := h.open hn
 simp [Value.ownBlock] at e
 omega
theorem purge1_any (S : SysD) (hz : chkS S = 0) (part k : Nat) (hp : part < S.parts.length) (hk : k < S.parts.length) (g7 g3 g2 : Nat) (vp vc vs tv c i : Value) (w W : World) (he : Env W) (hwW : Below w.heap.size w W) (hS : Sys W vp vc vs S) (hT : TabR W tv (fun a b => reachB S a b) S.parts.length S.parts.length)
  (h7 : Rw W g7 59 #[tv]) (h3 : Rw W g3 3 #[.int .i64 (part : Int)]) (h2 : Rw W g2 26 #[vp, vc, vs]) (hpr : PrtR w c i S.parts[k]) :
  Calls Tryz.prog 46 #[.int .i64 (k : Int), .agg #[c, i], .pointer (some ⟨g7, 0, none⟩), .pointer (some ⟨g3, 0, none⟩), .pointer (some ⟨g2, 0, none⟩)] W fun e W' => ∃ c' i', e = .returned (.agg #[c', i']) ∧ PrtR W' c' i' (purgeP S part k S.parts[k]) ∧ (0 < (purgeP S part k S.parts[k]).code.length → ∀ b, c'.ownBlock = some b → b < w.heap.size ∨ W.heap.size ≤ b) ∧ (0 < (purgeP S part k S.parts[k]).inn.length → ∀ b, i'.ownBlock = some b → b < w.heap.size ∨ W.heap.size ≤ b) ∧ Below W.heap.size W W' := by
 obtain ⟨pa, pc, rfl⟩ := hS.p.form
 obtain ⟨ka, kc, rfl⟩ := hS.c.form
 obtain ⟨sa, sc, rfl⟩ := hS.s.form
 obtain ⟨ca, cc, rfl⟩ := hpr.code.form
 obtain ⟨ia, ic, rfl⟩ := hpr.inn.form
 obtain ⟨ts, ht1, ht2, ht3⟩ := hT
 obtain ⟨tb, tq, tc, rfl, _, htb, htc⟩ := ht2.open om
 have hkt : k < ts.length := by omega
 obtain ⟨rb, ro, rc, hre, _, hrb, hrc⟩ := (ht3 k hkt).open om
 have c1 := htc k ts[k] (List.getElem?_eq_getElem hkt)
 rw [hre] at c1
 have c2 := hrc part _ (bools_at _ hp)
 have hr7 := h7.lt
 have hr3 := h3.lt
 have hr2 := h2.lt
 have hki : (k : Int) < S.parts.length := by omega
 have hpi : (part : Int) < S.parts.length := by omega
 have hcl := hpr.code
 have HPR := hd hpr
 have HS := hd hS
 have HE := hd he
 have HZ := hd hz
 have HWW := hd hwW
 have H2 := hd h2
 obtain ⟨q, hq⟩ : ∃ q, purgeP S part k S.parts[k] = q := ⟨_, rfl⟩
 rw [hq]
 have HQ := hd hq
 obtain ⟨p, hpp⟩ : ∃ p, S.parts[k] = p := ⟨_, rfl⟩
 rw [hpp] at HPR HQ ⊢
 go_enter Tryz.func46, Tryz.ntmps46
 go_upto_region 1 with fail
 generalize hX : World.alloc _ _ = X
 have hXX : X = (W.alloc (.cells #[.slice ca p.code.length cc, .slice ia p.inn.length ic] 49)).alloc (.cells #[.slice none 0 0, .slice none 0 0] 49) := by rw [← hX]
 have hzX : X.heap.size = W.heap.size + 2 := by rw [hXX]; simp
 have d0 : Below W.heap.size W X := by rw [hXX]; exact up0
 have R6 : Hid (Rw X W.heap.size 49 #[.slice ca p.code.length cc, .slice ia p.inn.length ic]) := hd (by rw [hXX]; exact rn0)
 have R7 : Hid (Rw X (W.heap.size + 1) 49 #[.slice none 0 0, .slice none 0 0]) := hd (by rw [hXX]; exact rn0)
 have k7 := (h7.up d0 hr7).cell (j := 0) (v := .slice (some ⟨tb, tq, none⟩) S.parts.length tc) rfl
 have k3 := (h3.up d0 hr3).cell (j := 0) (v := .int .i64 (part : Int)) rfl
 have k1 := bcl d0 htb c1
 have k2 : X.cell? ⟨rb, ro + part, none⟩ = some (.bool (reachB S k part)) := bcl d0 hrb c2
 have D0 := hd d0
 clear hX hXX d0 c1 c2 htc hrc ht2 ht3 hre h7 h3 h2 hS he hz hpr hwW hcl hq hpp
 cases hb : reachB S k part with
 | true =>
  have hq : p = q := by rw [← HQ.out]; unfold purgeP; rw [if_pos hb]
  subst hq
  have hb' := hb
  rw [hb] at k2
  clear hb hb'
  go_wp2
  go_quiet (fail)
  have D1 := hd (Below.drewNV D0.out nq)
  have q0 := R6.out.cell (j := 0) (v := .slice ca p.code.length cc) rfl
  have q1 := R6.out.cell (j := 1) (v := .slice ia p.inn.length ic) rfl
  go_wp2_with (refine wpList_store_row rfl 49 (.tmp 7) (.tmp 17) rfl (W.heap.size + 1) #[.slice ca p.code.length cc, .slice ia p.inn.length ic] rfl rfl 49 _ (show Rw (X.drewN nq) _ _ _ from R7.out) sizePart rfl (by simp [Value.oneCell']) ?_)
  refine bodyPost_ret (results_cell_row Tryz.results46 _ _ (W.heap.size + 1) 49 _ (0, 0) _ rfl (Rw.row (show Rw (X.drewN nq) _ _ _ from R7.out) _) Tryz.underlying49 rfl sizePart) rfl ?_
  exact ⟨_, _, rfl, ⟨sl_rowP ((HPR.out.code.up HWW.out).up D1.out) _ (fun hn e => by have h1 := sl_old HPR.out.code hn _ e; have := HWW.out.size; omega), sl_rowP ((HPR.out.inn.up HWW.out).up D1.out) _ (fun hn e => by have h1 := sl_old HPR.out.inn hn _ e; have := HWW.out.size; omega)⟩, fun hn b e => .inl (sl_old HPR.out.code hn b e), fun hn b e => .inl (sl_old HPR.out.inn hn b e), below_row D1.out om _⟩
 | false =>
  have hq : stopP = q := by rw [← HQ.out]; unfold purgeP; rw [if_neg (by rw [hb]; simp)]
  subst hq
  rw [hb] at k2
  clear hb
  go_wp2
  go_quiet (fail)
  have D1 := hd (Below.drewNV D0.out nq)
  have R71 : Hid (Rw (X.drewN nq) (W.heap.size + 1) 49 #[.slice none 0 0, .slice none 0 0]) := R7
  have R21 := hd (H2.out.up D1.out hr2)
  have hzX1 : (X.drewN nq).heap.size = W.heap.size + 2 := hzX
  generalize X.drewN nq = X1 at D1 R71 R21 hzX1 ⊢
  have s0 := R21.out.cell (j := 0) (v := .slice pa S.parts.length pc) rfl
  have s1 := R21.out.cell (j := 1) (v := .slice ka S.chans.length kc) rfl
  have s2 := R21.out.cell (j := 2) (v := .slice sa S.slots.length sc) rfl
  clear k7 k3 k1 k2 R6 R7 D0
  go_wp2_with fail
  refine (calm_yes S _ _ _ k _ (HE.out.up D1.out) (HS.out.up D1.out) HZ.out hk).mono ?_
  rintro e w2 ⟨xp, xc, xs, rfl, hN, b2⟩
  have z2 := b2.size
  obtain ⟨xa, xb, rfl⟩ := hN.p.r.form
  obtain ⟨ya, yb, rfl⟩ := hN.c.form
  obtain ⟨za, zb, rfl⟩ := hN.s.form
  have R72 := hd (R71.out.up b2 om)
  have D2 := hd (D1.out.trans (b2.mono om))
  have HN := hd hN
  clear b2 hN s0 s1 s2 R71 R21 D1
  go_wp2_with (refine wpList_store_rowW rfl 26 (.tmp 8) (.tmp 22) rfl w2.heap.size #[.slice xa (calmS S k).parts.length xb, .slice ya (calmS S k).chans.length yb, .slice za (calmS S k).slots.length zb] rfl rfl 26 #[.slice none 0 0, .slice none 0 0, .slice none 0 0] rn0 sizeSys rfl (by simp [Value.oneCell']) ?_)
  intro W3 HW3
  have b3 : Below w2.heap.size w2 W3 := by rw [HW3.out]; exact below_row ((Below.refl _ _).alloc (Nat.le_refl _) _) (Nat.le_refl _) _
  have R8 : Rw W3 w2.heap.size 26 #[.slice xa (calmS S k).parts.length xb, .slice ya (calmS S k).chans.length yb, .slice za (calmS S k).slots.length zb] := by
   rw [HW3.out]
   exact Rw.row (cs := #[.slice none 0 0, .slice none 0 0, .slice none 0 0]) rn0 _
  have R73 := hd (R72.out.up b3 om)
  have D3 := hd (D2.out.trans (b3.mono om))
  have hlen : (calmS S k).parts.length = S.parts.length := by simp [calmS]
  obtain ⟨l, hl1, hl2, hl3, hl4⟩ := HN.out.p
  obtain ⟨pb, po, pcap, e1, _, hpb, hpc⟩ := hl2.open om
  cases e1
  have hkl : k < l.length := by omega
  obtain ⟨hq1, hq2, hq3⟩ := hl4 k om hkl
  rw [calm_at S k k om hk, if_pos rfl] at hq1
  obtain ⟨n0, n1⟩ := part_cells hpc k hkl
  have n0 := bcl b3 hpb n0
  have n1 := bcl b3 hpb n1
  have hq1 := hq1.up b3
  generalize l[k] = lk at hq1 hq2 hq3 n0 n1
  obtain ⟨lc, li⟩ := lk
  simp only at hq1 hq2 hq3 n0 n1
  obtain ⟨da, dc, rfl⟩ := hq1.code.form
  obtain ⟨ja, jc, rfl⟩ := hq1.inn.form
  have HQ1 := hd hq1
  have HQ2 := hd hq2
  have HQ3 := hd hq3
  have q8 := R8.cell (j := 0) (v := .slice (some ⟨pb, po, none⟩) (calmS S k).parts.length xb) rfl
  have hkc : (k : Int) < (calmS S k).parts.length := by omega
  clear HW3 b3 hl1 hl2 hl3 hl4 hpc hq1 hq2 hq3 R8 HN R72 D2
  generalize (calmS S k).parts.length = cl at hkc q8 hlen
  go_wp2_with (refine wpList_store_row rfl 49 (.tmp 7) (.tmp 28) rfl (W.heap.size + 1) #[.slice da stopP.code.length dc, .slice ja stopP.inn.length jc] rfl rfl 49 _ R73.out sizePart rfl (by simp [Value.oneCell']) ?_)
  refine bodyPost_ret (results_cell_row Tryz.results46 _ _ (W.heap.size + 1) 49 _ (0, 0) _ rfl (R73.out.row _) Tryz.underlying49 rfl sizePart) rfl ?_
  exact ⟨_, _, rfl, ⟨HQ1.out.code.row _ (fun e => by have := HQ2.out _ e; omega), HQ1.out.inn.row _ (fun e => by have := HQ3.out _ e; omega)⟩, fun hn b e => .inr (by have := HQ2.out b e; omega), fun hn b e => .inr (by have := HQ3.out b e; omega), below_row D3.out om _⟩
end Go.Proofs.YtehhhiodfcdnmaaGreatDoor

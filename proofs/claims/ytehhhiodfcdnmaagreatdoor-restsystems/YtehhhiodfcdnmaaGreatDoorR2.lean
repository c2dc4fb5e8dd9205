/- Systems: what their slices hold; what conf.Check asks, in plain words. -/
import Derived.Test.YtehhhiodfcdnmaaGreatDoorR1
import Derived.Test.YtehhhiodfcdnmaaGreatDoorR0
import Derived.Deep.QuietTactic
import Derived.BigQuiet
namespace Go.Proofs.YtehhhiodfcdnmaaGreatDoor
set_option linter.unusedSimpArgs false
set_option linter.unusedVariables false
set_option maxHeartbeats 2000000
open Go.RowKit Go.Sort
structure Chn where
 kd : Int
 fr : Int
 tt : Int
structure Slt where
 pt : Int
 tk : Int
structure Prt where
 code : List Ins
 inn : List Int
structure SysD where
 parts : List Prt
 chans : List Chn
 slots : List Slt
def chC (c : Chn) : List Value := [.int .i64 c.kd, .int .i64 c.fr, .int .i64 c.tt]
def slC (c : Slt) : List Value := [.int .i64 c.pt, .int .i64 c.tk]
def prC (p : Value × Value) : List Value := [p.1, p.2]
theorem chan_cells {w : World} {b off : Nat} {l : List Chn} (hc : ∀ j u, (rowC chC l)[j]? = some u → w.cell? ⟨b, off + j, none⟩ = some u) (k : Nat) (h : k < l.length) :
  w.cell? ⟨b, off + k * 3, none⟩ = some (.int .i64 l[k].kd) ∧ w.cell? ⟨b, off + k * 3 + 1, none⟩ = some (.int .i64 l[k].fr) ∧ w.cell? ⟨b, off + k * 3 + 2, none⟩ = some (.int .i64 l[k].tt) := by
 refine ⟨?_, ?_, ?_⟩
 ·exact hc (k * 3) _ (by have := rowC_at (s := 3) (f := chC) (fun _ => rfl) l k 0 h (by decide); simpa [chC] using this)
 ·exact hc (k * 3 + 1) _ (by rw [rowC_at (s := 3) (f := chC) (fun _ => rfl) l k 1 h (by decide)]; rfl)
 ·exact hc (k * 3 + 2) _ (by rw [rowC_at (s := 3) (f := chC) (fun _ => rfl) l k 2 h (by decide)]; rfl)
theorem slot_cells {w : World} {b off : Nat} {l : List Slt} (hc : ∀ j u, (rowC slC l)[j]? = some u → w.cell? ⟨b, off + j, none⟩ = some u) (k : Nat) (h : k < l.length) :
  w.cell? ⟨b, off + k * 2, none⟩ = some (.int .i64 l[k].pt) ∧ w.cell? ⟨b, off + k * 2 + 1, none⟩ = some (.int .i64 l[k].tk) := by
 refine ⟨?_, ?_⟩
 ·exact hc (k * 2) _ (by have := rowC_at (s := 2) (f := slC) (fun _ => rfl) l k 0 h (by decide); simpa [slC] using this)
 ·exact hc (k * 2 + 1) _ (by rw [rowC_at (s := 2) (f := slC) (fun _ => rfl) l k 1 h (by decide)]; rfl)
theorem part_cells {w : World} {b off : Nat} {l : List (Value × Value)} (hc : ∀ j u, (rowC prC l)[j]? = some u → w.cell? ⟨b, off + j, none⟩ = some u) (k : Nat) (h : k < l.length) :
  w.cell? ⟨b, off + k * 2, none⟩ = some l[k].1 ∧ w.cell? ⟨b, off + k * 2 + 1, none⟩ = some l[k].2 := by
 refine ⟨?_, ?_⟩
 ·exact hc (k * 2) _ (by have := rowC_at (s := 2) (f := prC) (fun _ => rfl) l k 0 h (by decide); simpa [prC] using this)
 ·exact hc (k * 2 + 1) _ (by rw [rowC_at (s := 2) (f := prC) (fun _ => rfl) l k 1 h (by decide)]; rfl)
structure PrtR (w : World) (c i : Value) (p : Prt) : Prop where
 code : Sl w 4 c p.code.length (codeC p.code)
 inn : Sl w 1 i p.inn.length (ints p.inn)
theorem PrtR.up {w w' : World} {c i : Value} {p : Prt} (h : PrtR w c i p) (hb : Below w.heap.size w w') : PrtR w' c i p := ⟨h.code.up hb, h.inn.up hb⟩
def PartsR (w : World) (v : Value) (ps : List Prt) : Prop :=
 ∃ vs : List (Value × Value), vs.length = ps.length ∧ Sl w 2 v ps.length (rowC prC vs) ∧ ∀ k (hk : k < ps.length) (hk' : k < vs.length), PrtR w vs[k].1 vs[k].2 ps[k]
theorem PartsR.up {w w' : World} {v : Value} {ps : List Prt} (h : PartsR w v ps) (hb : Below w.heap.size w w') : PartsR w' v ps := by
 obtain ⟨vs, h1, h2, h3⟩ := h
 exact ⟨vs, h1, h2.up hb, fun k hk hk' => (h3 k hk hk').up hb⟩
theorem PartsR.form {w : World} {v : Value} {ps : List Prt} (h : PartsR w v ps) : ∃ ao cap, v = .slice ao ps.length cap := by
 obtain ⟨vs, h1, h2, h3⟩ := h
 exact h2.form
theorem PartsR.open {w : World} {v : Value} {ps : List Prt} (h : PartsR w v ps) (hn : 0 < ps.length) :
  ∃ b off cap, v = .slice (some ⟨b, off, none⟩) ps.length cap ∧ ps.length ≤ cap ∧ b < w.heap.size ∧ ∀ k (hk : k < ps.length), ∃ c i, w.cell? ⟨b, off + k * 2, none⟩ = some c ∧ w.cell? ⟨b, off + k * 2 + 1, none⟩ = some i ∧ PrtR w c i ps[k] := by
 obtain ⟨vs, h1, h2, h3⟩ := h
 obtain ⟨b, off, cap, e, hcap, hb, hc⟩ := h2.open hn
 refine ⟨b, off, cap, e, hcap, hb, fun k hk => ?_⟩
 have hk' : k < vs.length := by omega
 obtain ⟨c0, c1⟩ := part_cells hc k hk'
 exact ⟨_, _, c0, c1, h3 k hk hk'⟩
structure Sys (w : World) (vp vc vs : Value) (S : SysD) : Prop where
 p : PartsR w vp S.parts
 c : Sl w 3 vc S.chans.length (rowC chC S.chans)
 s : Sl w 2 vs S.slots.length (rowC slC S.slots)
theorem Sys.up {w w' : World} {vp vc vs : Value} {S : SysD} (h : Sys w vp vc vs S) (hb : Below w.heap.size w w') : Sys w' vp vc vs S := ⟨h.p.up hb, h.c.up hb, h.s.up hb⟩
def SysD.ok (S : SysD) : Prop := ∀ p ∈ S.parts, ∀ j (hj : j < p.code.length), p.code[j].ok
def countsB (S : SysD) : Bool := decide (1 ≤ S.parts.length ∧ S.parts.length ≤ 4 ∧ S.chans.length ≤ 6 ∧ 1 ≤ S.slots.length ∧ S.slots.length ≤ 6) && !(S.parts.any fun p => decide (12 < p.inn.length))
def firstP : List Prt → Int
 | [] => 0
 | p :: r => if chkC p.code = 0 then firstP r else chkC p.code
theorem firstP_at : ∀ (l : List Prt) (k : Nat) (h : k < l.length), (∀ j (hj : j < l.length), j < k → chkC l[j].code = 0) → chkC l[k].code ≠ 0 → firstP l = chkC l[k].code
 | i :: r, 0, _, _, hne => by rw [firstP, if_neg (show ¬ chkC i.code = 0 from hne)]; rfl
 | i :: r, k + 1, h, hz, hne => by
  rw [firstP, if_pos (show chkC i.code = 0 from hz 0 (by simp) om)]
  exact firstP_at r k (by simpa using h) (fun j hj hlt => hz (j + 1) (by simpa using hj) om) hne
theorem firstP_all : ∀ l : List Prt, (∀ j (hj : j < l.length), chkC l[j].code = 0) → firstP l = 0
 | [], _ => rfl
 | i :: r, hz => by
  rw [firstP, if_pos (show chkC i.code = 0 from hz 0 (by simp))]
  exact firstP_all r (fun j hj => hz (j + 1) (by simpa using hj))
theorem firstP_zero : ∀ {l : List Prt}, firstP l = 0 → ∀ j (hj : j < l.length), chkC l[j].code = 0
 | i :: r, h, j, hj => by
  rw [firstP] at h
  by_cases hc : chkC i.code = 0
  ·rw [if_pos hc] at h
   cases j with
   | zero => exact hc
   | succ j => exact firstP_zero h j (by simpa using hj)
  ·rw [if_neg hc] at h; exact absurd h hc
def kindBad (c : Chn) : Bool := c.kd != 1 && c.kd != 2
def placeBad (n : Nat) (c : Chn) : Bool := !(withinB c.fr 0 (n - 1)) || !(withinB c.tt 0 (n - 1)) || c.fr == c.tt
def slotBad (n : Nat) (t : Slt) : Bool := !(withinB t.pt 0 (n - 1)) || !(withinB t.tk 1 8)
def placesB (S : SysD) : Bool := !(S.chans.any (placeBad S.parts.length)) && !(S.slots.any (slotBad S.parts.length))
def putBad (l : List Chn) (me : Int) (c : Int) : Bool := match l[c.toNat]? with | none => true | some x => x.fr != me
def getBad (l : List Chn) (me : Int) (c : Int) : Bool := match l[c.toNat]? with | none => true | some x => x.tt != me
def nameBad (l : List Chn) (me : Int) (p : Prt) : Bool := (chanL p.code 12 6).any (putBad l me) || (chanL p.code 13 6).any (getBad l me)
def namesFrom (l : List Chn) : Nat → List Prt → Bool
 | _, [] => true
 | k, p :: r => if nameBad l k p then false else namesFrom l (k + 1) r
def namesB (S : SysD) : Bool := namesFrom S.chans 0 S.parts
def chkS (S : SysD) : Int :=
 if countsB S = false then 2 else if firstP S.parts ≠ 0 then firstP S.parts else if S.chans.any kindBad = true then 4 else if placesB S = false then 3 else if namesB S = false then 1 else 0
theorem cwithin_any (n lo hi : Int) (w : World) : Calls Tryz.prog 118 #[.int .i64 n, .int .i64 lo, .int .i64 hi] w fun e w' => e = .returned (.bool (withinB n lo hi)) ∧ w' = w := by
 by_cases h : lo ≤ n
 all_goals
  go_enter Tryz.func118, Tryz.ntmps118
  go_wp2
  go_ret
  exact ⟨ret_bool (by simp [withinB]; try omega), rfl⟩
theorem isPart_any (ao : Option Addr) (n cap : Nat) (vc vs : Value) (x : Int) (w : World) (hn : n ≤ 1000) :
  Calls Tryz.prog 79 #[.agg #[.slice ao n cap, vc, vs], .int .i64 x] w fun e w' => e = .returned (.bool (withinB x 0 ((n : Int) - 1))) ∧ Below w.heap.size w w' := by
 go_enter Tryz.func79, Tryz.ntmps79
 go_wp2_with (go_at_call 118; refine (cwithin_any _ _ _ _).mono ?_; rintro e w' ⟨rfl, rfl⟩)
 go_ret
 exact ⟨rfl, up0⟩
theorem any_mem {α : Type} {l : List α} {p : α → Bool} {k : Nat} (h : k < l.length) (hp : p l[k] = true) : l.any p = true := by
 rw [List.any_eq_true]
 exact ⟨l[k], List.getElem_mem h, hp⟩
theorem any_take {α : Type} {l : List α} {p : α → Bool} {k : Nat} (h : k < l.length) (h0 : (l.take k).any p = false) (hp : p l[k] = false) : (l.take (k + 1)).any p = false := by
 rw [List.take_succ_eq_append_getElem h, List.any_append, h0]; simp [hp]
theorem any_all {α : Type} {l : List α} {p : α → Bool} {k : Nat} (h : ¬ k < l.length) (h0 : (l.take k).any p = false) : l.any p = false := by
 rwa [List.take_of_length_le om] at h0
theorem oneChan_any (l : List Chn) (v : Value) (f : Nat) (hen : Enters f) (caps : Array Value) (p : Chn → Bool) (w : World) (hS : Sl w 3 v l.length (rowC chC l)) (hl : l.length ≤ 1000)
  (hf : ∀ k (hk : k < l.length) w1, Below w.heap.size w w1 → Calls Tryz.prog f (#[.agg #[.int .i64 l[k].kd, .int .i64 l[k].fr, .int .i64 l[k].tt]] ++ caps) w1 fun e w2 => e = .returned (.bool (p l[k])) ∧ Below w1.heap.size w1 w2) (r : Bool) (hr : l.any p = r) :
  Calls Tryz.prog 90 #[v, .func (.func f) #[] caps] w fun e w' => e = .returned (.bool r) ∧ Below w.heap.size w w' := by
 obtain ⟨ao, cap, rfl⟩ := hS.form
 have HS := hd hS
 have HF := hd hf
 have HR := hd hr
 clear hS hf hr
 unfold Enters at hen
 go_enter Tryz.func90, Tryz.ntmps90
 go_wp2
 go_loopw [9] (fun i wr => ∃ k : Nat, i = .int .i64 k ∧ k ≤ l.length ∧ Hid ((l.take k).any p = false) ∧ Below w.heap.size w wr) (fun i _ => l.length - (intOf i).toNat)
 case atStart => exact ⟨0, rfl, Nat.zero_le _, (show ((l.take 0).any p = false) by simp), Below.refl _ _⟩
 case round =>
  obtain ⟨k, rfl, hk, HZ, hbel⟩ := hrel
  by_cases hlt : k < l.length
  ·have hli : (k : Int) < l.length := by omega
   obtain ⟨b, off, cap', e1, hcap, hbw, hc⟩ := HS.out.open om
   cases e1
   obtain ⟨c0, c1, c2⟩ := chan_cells hc k hlt
   have c0 := bcl hbel hbw c0
   have c1 := bcl hbel hbw c1
   have c2 := bcl hbel hbw c2
   have HC := hd (HF.out k hlt)
   generalize hq : p l[k] = q at HC
   have HQ := hd hq
   clear hc hq
   go_wp2_with fail
   refine (HC.out _ (hbel.alloc hbel.size _)).mono ?_
   rintro e w2 ⟨rfl, bb⟩
   have D := hd ((hbel.alloc hbel.size _).trans (bb.mono (by have := hbel.size; simp; omega)))
   clear bb HC c0 c1 c2
   cases q
   ·have HZ1 := hd (any_take hlt HZ.out HQ.out)
    go_wp2
    go_roundw
    case rel => exact ⟨k + 1, by go_num, by omega, HZ1, D.out⟩
    case measure => simp [intOf]; omega
   ·have HZ1 := hd (any_mem hlt HQ.out)
    go_wp2
    go_ret
    exact ⟨ret_bool (by rw [← HR.out, HZ1.out]), D.out⟩
  ·have hli : ¬ (k : Int) < l.length := by omega
   have HZ1 := hd (any_all hlt HZ.out)
   go_wp2
   go_ret
   exact ⟨ret_bool (by rw [← HR.out, HZ1.out]), hbel⟩
theorem oneSlot_any (l : List Slt) (v : Value) (f : Nat) (hen : Enters f) (caps : Array Value) (p : Slt → Bool) (w : World) (hS : Sl w 2 v l.length (rowC slC l)) (hl : l.length ≤ 1000)
  (hf : ∀ k (hk : k < l.length) w1, Below w.heap.size w w1 → Calls Tryz.prog f (#[.agg #[.int .i64 l[k].pt, .int .i64 l[k].tk]] ++ caps) w1 fun e w2 => e = .returned (.bool (p l[k])) ∧ Below w1.heap.size w1 w2) (r : Bool) (hr : l.any p = r) :
  Calls Tryz.prog 123 #[v, .func (.func f) #[] caps] w fun e w' => e = .returned (.bool r) ∧ Below w.heap.size w w' := by
 obtain ⟨ao, cap, rfl⟩ := hS.form
 have HS := hd hS
 have HF := hd hf
 have HR := hd hr
 clear hS hf hr
 unfold Enters at hen
 go_enter Tryz.func123, Tryz.ntmps123
 go_wp2
 go_loopw [9] (fun i wr => ∃ k : Nat, i = .int .i64 k ∧ k ≤ l.length ∧ Hid ((l.take k).any p = false) ∧ Below w.heap.size w wr) (fun i _ => l.length - (intOf i).toNat)
 case atStart => exact ⟨0, rfl, Nat.zero_le _, (show ((l.take 0).any p = false) by simp), Below.refl _ _⟩
 case round =>
  obtain ⟨k, rfl, hk, HZ, hbel⟩ := hrel
  by_cases hlt : k < l.length
  ·have hli : (k : Int) < l.length := by omega
   obtain ⟨b, off, cap', e1, hcap, hbw, hc⟩ := HS.out.open om
   cases e1
   obtain ⟨c0, c1⟩ := slot_cells hc k hlt
   have c0 := bcl hbel hbw c0
   have c1 := bcl hbel hbw c1
   have HC := hd (HF.out k hlt)
   generalize hq : p l[k] = q at HC
   have HQ := hd hq
   clear hc hq
   go_wp2_with fail
   refine (HC.out _ (hbel.alloc hbel.size _)).mono ?_
   rintro e w2 ⟨rfl, bb⟩
   have D := hd ((hbel.alloc hbel.size _).trans (bb.mono (by have := hbel.size; simp; omega)))
   clear bb HC c0 c1
   cases q
   ·have HZ1 := hd (any_take hlt HZ.out HQ.out)
    go_wp2
    go_roundw
    case rel => exact ⟨k + 1, by go_num, by omega, HZ1, D.out⟩
    case measure => simp [intOf]; omega
   ·have HZ1 := hd (any_mem hlt HQ.out)
    go_wp2
    go_ret
    exact ⟨ret_bool (by rw [← HR.out, HZ1.out]), D.out⟩
  ·have hli : ¬ (k : Int) < l.length := by omega
   have HZ1 := hd (any_all hlt HZ.out)
   go_wp2
   go_ret
   exact ⟨ret_bool (by rw [← HR.out, HZ1.out]), hbel⟩
theorem oneInt_any (l : List Int) (v : Value) (f : Nat) (hen : Enters f) (caps : Array Value) (p : Int → Bool) (w : World) (hS : Sl w 1 v l.length (ints l)) (hl : l.length ≤ 1000)
  (hf : ∀ k (hk : k < l.length) w1, Below w.heap.size w w1 → Calls Tryz.prog f (#[.int .i64 l[k]] ++ caps) w1 fun e w2 => e = .returned (.bool (p l[k])) ∧ Below w1.heap.size w1 w2) (r : Bool) (hr : l.any p = r) :
  Calls Tryz.prog 126 #[v, .func (.func f) #[] caps] w fun e w' => e = .returned (.bool r) ∧ Below w.heap.size w w' := by
 obtain ⟨ao, cap, rfl⟩ := hS.form
 have HS := hd hS
 have HF := hd hf
 have HR := hd hr
 clear hS hf hr
 unfold Enters at hen
 go_enter Tryz.func126, Tryz.ntmps126
 go_wp2
 go_loopw [9] (fun i wr => ∃ k : Nat, i = .int .i64 k ∧ k ≤ l.length ∧ Hid ((l.take k).any p = false) ∧ Below w.heap.size w wr) (fun i _ => l.length - (intOf i).toNat)
 case atStart => exact ⟨0, rfl, Nat.zero_le _, (show ((l.take 0).any p = false) by simp), Below.refl _ _⟩
 case round =>
  obtain ⟨k, rfl, hk, HZ, hbel⟩ := hrel
  by_cases hlt : k < l.length
  ·have hli : (k : Int) < l.length := by omega
   obtain ⟨b, off, cap', e1, hcap, hbw, hc⟩ := HS.out.open om
   cases e1
   have c0 := bcl hbel hbw (hc k _ (ints_at l k hlt))
   have HC := hd (HF.out k hlt)
   generalize hq : p l[k] = q at HC
   have HQ := hd hq
   clear hc hq
   go_wp2_with fail
   refine (HC.out _ hbel).mono ?_
   rintro e w2 ⟨rfl, bb⟩
   have D := hd (hbel.trans (bb.mono hbel.size))
   clear bb HC c0
   cases q
   ·have HZ1 := hd (any_take hlt HZ.out HQ.out)
    go_wp2
    go_roundw
    case rel => exact ⟨k + 1, by go_num, by omega, HZ1, D.out⟩
    case measure => simp [intOf]; omega
   ·have HZ1 := hd (any_mem hlt HQ.out)
    go_wp2
    go_ret
    exact ⟨ret_bool (by rw [← HR.out, HZ1.out]), D.out⟩
  ·have hli : ¬ (k : Int) < l.length := by omega
   have HZ1 := hd (any_all hlt HZ.out)
   go_wp2
   go_ret
   exact ⟨ret_bool (by rw [← HR.out, HZ1.out]), hbel⟩
theorem onePart_any (l : List Prt) (v : Value) (f : Nat) (hen : Enters f) (caps : Array Value) (p : Prt → Bool) (w : World) (hS : PartsR w v l) (hl : l.length ≤ 1000)
  (hf : ∀ k (hk : k < l.length) c i w1, PrtR w c i l[k] → Below w.heap.size w w1 → Calls Tryz.prog f (#[.agg #[c, i]] ++ caps) w1 fun e w2 => e = .returned (.bool (p l[k])) ∧ Below w1.heap.size w1 w2) (r : Bool) (hr : l.any p = r) :
  Calls Tryz.prog 119 #[v, .func (.func f) #[] caps] w fun e w' => e = .returned (.bool r) ∧ Below w.heap.size w w' := by
 obtain ⟨ao, cap, rfl⟩ := hS.form
 have HS := hd hS
 have HF := hd hf
 have HR := hd hr
 clear hS hf hr
 unfold Enters at hen
 go_enter Tryz.func119, Tryz.ntmps119
 go_wp2
 go_loopw [9] (fun i wr => ∃ k : Nat, i = .int .i64 k ∧ k ≤ l.length ∧ Hid ((l.take k).any p = false) ∧ Below w.heap.size w wr) (fun i _ => l.length - (intOf i).toNat)
 case atStart => exact ⟨0, rfl, Nat.zero_le _, (show ((l.take 0).any p = false) by simp), Below.refl _ _⟩
 case round =>
  obtain ⟨k, rfl, hk, HZ, hbel⟩ := hrel
  by_cases hlt : k < l.length
  ·have hli : (k : Int) < l.length := by omega
   obtain ⟨b, off, cap', e1, hcap, hbw, hc⟩ := HS.out.open om
   cases e1
   obtain ⟨c, i, c0, c1, hpr⟩ := hc k hlt
   obtain ⟨ca, cc, rfl⟩ := hpr.code.form
   obtain ⟨ia, ic, rfl⟩ := hpr.inn.form
   have c0 := bcl hbel hbw c0
   have c1 := bcl hbel hbw c1
   have HC := hd (fun w1 => HF.out k hlt _ _ w1 hpr)
   generalize hq : p l[k] = q at HC
   have HQ := hd hq
   clear hc hq hpr
   go_wp2_with fail
   refine (HC.out _ (hbel.alloc hbel.size _)).mono ?_
   rintro e w2 ⟨rfl, bb⟩
   have D := hd ((hbel.alloc hbel.size _).trans (bb.mono (by have := hbel.size; simp; omega)))
   clear bb HC c0 c1
   cases q
   ·have HZ1 := hd (any_take hlt HZ.out HQ.out)
    go_wp2
    go_roundw
    case rel => exact ⟨k + 1, by go_num, by omega, HZ1, D.out⟩
    case measure => simp [intOf]; omega
   ·have HZ1 := hd (any_mem hlt HQ.out)
    go_wp2
    go_ret
    exact ⟨ret_bool (by rw [← HR.out, HZ1.out]), D.out⟩
  ·have hli : ¬ (k : Int) < l.length := by omega
   have HZ1 := hd (any_all hlt HZ.out)
   go_wp2
   go_ret
   exact ⟨ret_bool (by rw [← HR.out, HZ1.out]), hbel⟩
theorem app0 (a : Value) : #[a] ++ (#[] : Array Value) = #[a] := by simp
theorem app1 (a b : Value) : #[a] ++ #[b] = #[a, b] := by simp
theorem app2 (a b c : Value) : #[a] ++ #[b, c] = #[a, b, c] := by simp
structure Box (w : World) (g : Nat) (vp vc vs : Value) : Prop where
 p : w.cell? ⟨g, 0, none⟩ = some vp
 c : w.cell? ⟨g, 1, none⟩ = some vc
 s : w.cell? ⟨g, 2, none⟩ = some vs
 lt : g < w.heap.size
theorem Box.up {w w' : World} {g : Nat} {vp vc vs : Value} (h : Box w g vp vc vs) (hb : Below w.heap.size w w') : Box w' g vp vc vs :=
 ⟨bcl hb h.lt h.p, bcl hb h.lt h.c, bcl hb h.lt h.s, Nat.lt_of_lt_of_le h.lt hb.size⟩
theorem box_new (w : World) (vp vc vs : Value) (t : TypeId) (g : Nat) (hg : g = w.heap.size) : Box (w.alloc (.cells #[vp, vc, vs] t)) g vp vc vs := by
 subst hg
 exact ⟨by simp, by simp, by simp, by simp⟩
theorem kindLit_any (c : Chn) (w : World) : Calls Tryz.prog 91 #[.agg #[.int .i64 c.kd, .int .i64 c.fr, .int .i64 c.tt]] w fun e w' => e = .returned (.bool (kindBad c)) ∧ Below w.heap.size w w' := by
 generalize h1 : (c.kd != 1) = q1
 generalize h2 : (c.kd != 2) = q2
 have HE : Hid (kindBad c = (q1 && q2)) := by show kindBad c = _; unfold kindBad; rw [h1, h2]
 cases q1 <;> cases q2
 all_goals
  go_enter Tryz.func91, Tryz.ntmps91
  go_wp2
  go_ret
  exact ⟨ret_bool (by rw [HE.out]; rfl), up0⟩
theorem countLit_any (ca : Option Addr) (cn cc : Nat) (ia : Option Addr) (n ic : Nat) (w : World) : Calls Tryz.prog 120 #[.agg #[.slice ca cn cc, .slice ia n ic]] w fun e w' => e = .returned (.bool (decide (12 < n))) ∧ Below w.heap.size w w' := by
 by_cases h : 12 < n
 all_goals
  go_enter Tryz.func120, Tryz.ntmps120
  go_wp2
  go_ret
  exact ⟨ret_bool so, up0⟩
theorem placeLit_any (c : Chn) (g : Nat) (ao : Option Addr) (n cap : Nat) (vc vs : Value) (w : World) (hn : n ≤ 1000) (hB : Box w g (.slice ao n cap) vc vs) (hc : ∃ a b d, vc = .slice a b d) (hs : ∃ a b d, vs = .slice a b d) :
  Calls Tryz.prog 122 #[.agg #[.int .i64 c.kd, .int .i64 c.fr, .int .i64 c.tt], .pointer (some ⟨g, 0, none⟩)] w fun e w' => e = .returned (.bool (placeBad n c)) ∧ Below w.heap.size w w' := by
 obtain ⟨a1, b1, d1, rfl⟩ := hc
 obtain ⟨a2, b2, d2, rfl⟩ := hs
 generalize h1 : withinB c.fr 0 ((n : Int) - 1) = q1
 generalize h2 : withinB c.tt 0 ((n : Int) - 1) = q2
 generalize h3 : (c.fr == c.tt) = q3
 have HE : Hid (placeBad n c = (!q1 || !q2 || q3)) := by show placeBad n c = _; unfold placeBad; rw [h1, h2, h3]
 have H1 := hd h1
 have H2 := hd h2
 have HB := hd hB
 have k0 := (HB.out.up (w' := w.alloc (.cells #[.int .i64 c.kd, .int .i64 c.fr, .int .i64 c.tt] 89)) ((Below.refl _ _).alloc (Nat.le_refl _) _)).p
 have k1 := (HB.out.up (w' := w.alloc (.cells #[.int .i64 c.kd, .int .i64 c.fr, .int .i64 c.tt] 89)) ((Below.refl _ _).alloc (Nat.le_refl _) _)).c
 have k2 := (HB.out.up (w' := w.alloc (.cells #[.int .i64 c.kd, .int .i64 c.fr, .int .i64 c.tt] 89)) ((Below.refl _ _).alloc (Nat.le_refl _) _)).s
 clear h1 h2 hB
 have hlt := HB.out.lt
 cases q1
 ·go_enter Tryz.func122, Tryz.ntmps122
  go_wp2_with fail
  refine (isPart_any ao n cap _ _ c.fr _ hn).mono ?_
  rw [H1.out]
  rintro e w1 ⟨rfl, bb⟩
  have D := hd (Below.trans (show Below w.heap.size w _ from up0) (bb.mono (by simp)))
  clear bb
  go_wp2
  go_ret
  exact ⟨ret_bool (by rw [HE.out]; rfl), D.out⟩
 ·go_enter Tryz.func122, Tryz.ntmps122
  go_wp2_with fail
  refine (isPart_any ao n cap _ _ c.fr _ hn).mono ?_
  rw [H1.out]
  rintro e w1 ⟨rfl, bb⟩
  have D := hd (Below.trans (show Below w.heap.size w _ from up0) (bb.mono (by simp)))
  have k0 := (HB.out.up D.out).p
  have k1 := (HB.out.up D.out).c
  have k2 := (HB.out.up D.out).s
  have m0 : w1.cell? ⟨w.heap.size, 0, none⟩ = some (.int .i64 c.kd) := bcl bb (by simp) (by simp)
  have m1 : w1.cell? ⟨w.heap.size, 1, none⟩ = some (.int .i64 c.fr) := bcl bb (by simp) (by simp)
  have m2 : w1.cell? ⟨w.heap.size, 2, none⟩ = some (.int .i64 c.tt) := bcl bb (by simp) (by simp)
  have z1 : w.heap.size < w1.heap.size := by have := bb.size; simp at this; omega
  clear bb
  go_wp2_with fail
  refine (isPart_any ao n cap _ _ c.tt _ hn).mono ?_
  rw [H2.out]
  rintro e w2 ⟨rfl, bb⟩
  have m1 : w2.cell? ⟨w.heap.size, 1, none⟩ = some (.int .i64 c.fr) := bcl bb z1 m1
  have m2 : w2.cell? ⟨w.heap.size, 2, none⟩ = some (.int .i64 c.tt) := bcl bb z1 m2
  have D := hd (D.out.trans (bb.mono (Nat.le_of_lt z1)))
  clear bb k0 k1 k2 m0 z1
  cases q2
  ·go_wp2
   go_ret
   exact ⟨ret_bool (by rw [HE.out]; rfl), D.out⟩
  ·cases q3
   all_goals
    go_wp2
    go_ret
    exact ⟨ret_bool (by rw [HE.out]; rfl), D.out⟩
theorem slotLit_any (c : Slt) (g : Nat) (ao : Option Addr) (n cap : Nat) (vc vs : Value) (w : World) (hn : n ≤ 1000) (hB : Box w g (.slice ao n cap) vc vs) (hc : ∃ a b d, vc = .slice a b d) (hs : ∃ a b d, vs = .slice a b d) :
  Calls Tryz.prog 124 #[.agg #[.int .i64 c.pt, .int .i64 c.tk], .pointer (some ⟨g, 0, none⟩)] w fun e w' => e = .returned (.bool (slotBad n c)) ∧ Below w.heap.size w w' := by
 obtain ⟨a1, b1, d1, rfl⟩ := hc
 obtain ⟨a2, b2, d2, rfl⟩ := hs
 generalize h1 : withinB c.pt 0 ((n : Int) - 1) = q1
 generalize h2 : withinB c.tk 1 8 = q2
 have HE : Hid (slotBad n c = (!q1 || !q2)) := by show slotBad n c = _; unfold slotBad; rw [h1, h2]
 have H1 := hd h1
 have H2 := hd h2
 have HB := hd hB
 have k0 := (HB.out.up (w' := w.alloc (.cells #[.int .i64 c.pt, .int .i64 c.tk] 105)) ((Below.refl _ _).alloc (Nat.le_refl _) _)).p
 have k1 := (HB.out.up (w' := w.alloc (.cells #[.int .i64 c.pt, .int .i64 c.tk] 105)) ((Below.refl _ _).alloc (Nat.le_refl _) _)).c
 have k2 := (HB.out.up (w' := w.alloc (.cells #[.int .i64 c.pt, .int .i64 c.tk] 105)) ((Below.refl _ _).alloc (Nat.le_refl _) _)).s
 clear h1 h2 hB
 have hlt := HB.out.lt
 go_enter Tryz.func124, Tryz.ntmps124
 go_wp2_with fail
 refine (isPart_any ao n cap _ _ c.pt _ hn).mono ?_
 rw [H1.out]
 rintro e w1 ⟨rfl, bb⟩
 have D := hd (Below.trans (show Below w.heap.size w _ from up0) (bb.mono (by simp)))
 have m1 : w1.cell? ⟨w.heap.size, 1, none⟩ = some (.int .i64 c.tk) := bcl bb (by simp) (by simp)
 clear bb k0 k1 k2
 cases q1
 ·go_wp2
  go_ret
  exact ⟨ret_bool (by rw [HE.out]; rfl), D.out⟩
 ·go_wp2_with fail
  refine (cwithin_any c.tk 1 8 _).mono ?_
  rw [H2.out]
  rintro e w2 ⟨rfl, rfl⟩
  cases q2
  all_goals
   go_wp2
   go_ret
   exact ⟨ret_bool (by rw [HE.out]; rfl), D.out⟩
theorem below_drewN {B : Nat} {a w : World} (h : Below B a w) (n : Nat) : Below B a (w.drewN n) := ⟨h.os, h.tape, h.output, h.size, h.block⟩
theorem enCheck1 : Enters 91 := enters Tryz.func91 kr kr
theorem enCounts1 : Enters 120 := enters Tryz.func120 kr kr
theorem enPlaces1 : Enters 122 := enters Tryz.func122 kr kr
theorem enPlaces2 : Enters 124 := enters Tryz.func124 kr kr
theorem enNames1 : Enters 127 := enters Tryz.func127 kr kr
theorem enNames2 : Enters 129 := enters Tryz.func129 kr kr
theorem counts_any (S : SysD) (vp vc vs : Value) (w : World) (hS : Sys w vp vc vs S) : Calls Tryz.prog 88 #[.agg #[vp, vc, vs]] w fun e w' => e = .returned (.bool (countsB S)) ∧ Below w.heap.size w w' := by
 obtain ⟨pa, pc, rfl⟩ := hS.p.form
 obtain ⟨ca, cc, rfl⟩ := hS.c.form
 obtain ⟨sa, sc, rfl⟩ := hS.s.form
 generalize h1 : withinB (S.parts.length : Int) 1 4 = q1
 generalize h3 : withinB (S.slots.length : Int) 1 6 = q3
 generalize h4 : (S.parts.any fun p => decide (12 < p.inn.length)) = q4
 have H1 := hd h1
 have H3 := hd h3
 have H4 := hd h4
 have HS := hd hS
 by_cases h2 : S.chans.length ≤ 6
 ·have h2' : (S.chans.length : Int) ≤ 6 := by omega
  have HE : Hid (countsB S = (q1 && q3 && !q4)) := by
   show countsB S = _
   unfold countsB
   rw [h4, ← h1, ← h3]
   unfold withinB
   congr 1
   rw [Bool.eq_iff_iff]
   simp; omega
  have HP : q1 = true → S.parts.length ≤ 1000 := fun e => by subst e; unfold withinB at h1; simp at h1; omega
  clear h1 h3 h4 hS
  go_enter Tryz.func88, Tryz.ntmps88
  go_wp2_with fail
  refine (cwithin_any _ _ _ _).mono ?_
  rw [H1.out]
  rintro e w1 ⟨rfl, rfl⟩
  cases q1
  ·go_wp2
   go_ret
   exact ⟨ret_bool (by rw [HE.out]; rfl), up0⟩
  ·have hp := HP rfl
   clear HP
   go_wp2_with fail
   refine (cwithin_any _ _ _ _).mono ?_
   rw [H3.out]
   rintro e w1 ⟨rfl, rfl⟩
   cases q3
   ·go_wp2
    go_ret
    exact ⟨ret_bool (by rw [HE.out]; rfl), up0⟩
   ·go_wp2_with fail
    refine (onePart_any S.parts _ _ enCounts1 #[] (fun p => decide (12 < p.inn.length)) _ (HS.out.p.up up0) hp (fun k hk c i w1 hpr _ => ?_) q4 H4.out).mono ?_
    ·obtain ⟨a1, b1, rfl⟩ := hpr.code.form
     obtain ⟨a2, b2, rfl⟩ := hpr.inn.form
     rw [app0]
     exact countLit_any _ _ _ _ _ _ _
    rintro e w2 ⟨rfl, bb⟩
    have D := hd (Below.trans (show Below w.heap.size w _ from up0) (bb.mono (by simp)))
    clear bb
    cases q4
    all_goals
     go_wp2
     go_ret
     exact ⟨ret_bool (by rw [HE.out]; rfl), D.out⟩
 ·have h2' : ¬ (S.chans.length : Int) ≤ 6 := by omega
  have HE : Hid (countsB S = false) := by
   show countsB S = _
   unfold countsB
   simp; omega
  clear h1 h3 h4 hS
  go_enter Tryz.func88, Tryz.ntmps88
  go_wp2_with fail
  refine (cwithin_any _ _ _ _).mono ?_
  rw [H1.out]
  rintro e w1 ⟨rfl, rfl⟩
  cases q1
  all_goals
   go_wp2
   go_ret
   exact ⟨ret_bool (by rw [HE.out]), up0⟩
theorem places_any (S : SysD) (vp vc vs : Value) (w : World) (hS : Sys w vp vc vs S) (hc : countsB S = true) : Calls Tryz.prog 92 #[.agg #[vp, vc, vs]] w fun e w' => e = .returned (.bool (placesB S)) ∧ Below w.heap.size w w' := by
 have hn : S.parts.length ≤ 1000 ∧ S.chans.length ≤ 1000 ∧ S.slots.length ≤ 1000 := by unfold countsB at hc; simp at hc; omega
 obtain ⟨hn1, hn2, hn3⟩ := hn
 obtain ⟨pa, pc, rfl⟩ := hS.p.form
 obtain ⟨ca, cc, rfl⟩ := hS.c.form
 obtain ⟨sa, sc, rfl⟩ := hS.s.form
 generalize h1 : S.chans.any (placeBad S.parts.length) = q1
 generalize h2 : S.slots.any (slotBad S.parts.length) = q2
 have HE : Hid (placesB S = (!q1 && !q2)) := by show placesB S = _; unfold placesB; rw [h1, h2]
 have H1 := hd h1
 have H2 := hd h2
 have HS := hd hS
 clear h1 h2 hS hc
 go_enter Tryz.func92, Tryz.ntmps92
 go_wp2_with fail
 refine (oneChan_any S.chans _ _ enPlaces1 _ (placeBad S.parts.length) _ (HS.out.c.up up0) hn2 (fun k hk w1 hb => ?_) q1 H1.out).mono ?_
 ·rw [app1]
  exact placeLit_any _ _ _ _ _ _ _ _ hn1 ((box_new w _ _ _ _ _ rfl).up hb) ⟨_, _, _, rfl⟩ ⟨_, _, _, rfl⟩
 rintro e w2 ⟨rfl, bb⟩
 have D := hd (Below.trans (show Below w.heap.size w _ from up0) (bb.mono (by simp)))
 have HB := hd ((box_new w (.slice pa S.parts.length pc) (.slice ca S.chans.length cc) (.slice sa S.slots.length sc) 26 _ rfl).up bb)
 have k2 := HB.out.s
 clear bb
 cases q1
 ·go_wp2_with fail
  refine (oneSlot_any S.slots _ _ enPlaces2 _ (slotBad S.parts.length) _ (HS.out.s.up D.out) hn3 (fun k hk w1 hb => ?_) q2 H2.out).mono ?_
  ·rw [app1]
   exact slotLit_any _ _ _ _ _ _ _ _ hn1 (HB.out.up hb) ⟨_, _, _, rfl⟩ ⟨_, _, _, rfl⟩
  rintro e w3 ⟨rfl, bb⟩
  have D := hd (D.out.trans (bb.mono D.out.size))
  clear bb
  cases q2
  all_goals
   go_wp2
   go_ret
   exact ⟨ret_bool (by rw [HE.out]; rfl), D.out⟩
 ·go_wp2
  go_ret
  exact ⟨ret_bool (by rw [HE.out]; rfl), D.out⟩
theorem putLit_any (c : Nat) (l : List Chn) (me : Int) (g m : Nat) (vp vc vs : Value) (w : World) (hB : Box w g vp vc vs) (hm : w.cell? ⟨m, 0, none⟩ = some (.int .i64 me)) (hS : Sl w 3 vc l.length (rowC chC l)) (hc : c < 6) :
  Calls Tryz.prog 127 #[.int .i64 c, .pointer (some ⟨g, 0, none⟩), .pointer (some ⟨m, 0, none⟩)] w fun e w' => e = .returned (.bool (putBad l me c)) ∧ Below w.heap.size w w' := by
 obtain ⟨ca, cc, rfl⟩ := hS.form
 have k1 := hB.c
 by_cases h : c < l.length
 ·have h' : (c : Int) < l.length := by omega
  have h0 : (0 : Int) ≤ c := by omega
  have hd : decide ((l.length : Int) ≤ c) = false := by simp; omega
  obtain ⟨b, off, cap, e1, hcap, hbw, hcs⟩ := hS.open om
  cases e1
  obtain ⟨c0, c1, c2⟩ := chan_cells hcs c h
  generalize hq : (l[c].fr != me) = q
  have HE : Hid (putBad l me c = q) := by
   show putBad l me c = q
   unfold putBad
   rw [show ((c : Int)).toNat = c from rfl, List.getElem?_eq_getElem h]
   exact hq
  clear hcs hS hB
  go_enter Tryz.func127, Tryz.ntmps127
  go_wp2
  go_quiet (fail)
  all_goals go_wp2
  all_goals go_ret
  all_goals exact ⟨ret_bool (by rw [HE.out]; try simp [Nat.not_le.2 h]), by first | exact Below.refl _ _ | exact below_drewN (Below.refl _ _) _ | exact (Below.refl _ _).drew⟩
 ·have h' : ¬ (c : Int) < l.length := by omega
  have hd : decide ((l.length : Int) ≤ c) = true := by simp; omega
  have HE : Hid (putBad l me c = true) := by
   show putBad l me c = _
   unfold putBad
   rw [show ((c : Int)).toNat = c from rfl, List.getElem?_eq_none om]
  clear hS hB h
  go_enter Tryz.func127, Tryz.ntmps127
  go_wp2
  go_quiet (fail)
  all_goals go_wp2
  all_goals go_ret
  all_goals exact ⟨ret_bool (by rw [HE.out]; try simp [Nat.not_le.2 h]), by first | exact Below.refl _ _ | exact below_drewN (Below.refl _ _) _ | exact (Below.refl _ _).drew⟩
theorem getLit_any (c : Nat) (l : List Chn) (me : Int) (g m : Nat) (vp vc vs : Value) (w : World) (hB : Box w g vp vc vs) (hm : w.cell? ⟨m, 0, none⟩ = some (.int .i64 me)) (hS : Sl w 3 vc l.length (rowC chC l)) (hc : c < 6) :
  Calls Tryz.prog 129 #[.int .i64 c, .pointer (some ⟨g, 0, none⟩), .pointer (some ⟨m, 0, none⟩)] w fun e w' => e = .returned (.bool (getBad l me c)) ∧ Below w.heap.size w w' := by
 obtain ⟨ca, cc, rfl⟩ := hS.form
 have k1 := hB.c
 by_cases h : c < l.length
 ·have h' : (c : Int) < l.length := by omega
  have h0 : (0 : Int) ≤ c := by omega
  have hd : decide ((l.length : Int) ≤ c) = false := by simp; omega
  obtain ⟨b, off, cap, e1, hcap, hbw, hcs⟩ := hS.open om
  cases e1
  obtain ⟨c0, c1, c2⟩ := chan_cells hcs c h
  generalize hq : (l[c].tt != me) = q
  have HE : Hid (getBad l me c = q) := by
   show getBad l me c = q
   unfold getBad
   rw [show ((c : Int)).toNat = c from rfl, List.getElem?_eq_getElem h]
   exact hq
  clear hcs hS hB
  go_enter Tryz.func129, Tryz.ntmps129
  go_wp2
  go_quiet (fail)
  all_goals go_wp2
  all_goals go_ret
  all_goals exact ⟨ret_bool (by rw [HE.out]; try simp [Nat.not_le.2 h]), by first | exact Below.refl _ _ | exact below_drewN (Below.refl _ _) _ | exact (Below.refl _ _).drew⟩
 ·have h' : ¬ (c : Int) < l.length := by omega
  have hd : decide ((l.length : Int) ≤ c) = true := by simp; omega
  have HE : Hid (getBad l me c = true) := by
   show getBad l me c = _
   unfold getBad
   rw [show ((c : Int)).toNat = c from rfl, List.getElem?_eq_none om]
  clear hS hB h
  go_enter Tryz.func129, Tryz.ntmps129
  go_wp2
  go_quiet (fail)
  all_goals go_wp2
  all_goals go_ret
  all_goals exact ⟨ret_bool (by rw [HE.out]; try simp [Nat.not_le.2 h]), by first | exact Below.refl _ _ | exact below_drewN (Below.refl _ _) _ | exact (Below.refl _ _).drew⟩
theorem chanL_nat {l : List Ins} {op : Int} {m k : Nat} (h : k < (chanL l op m).length) : ∃ c : Nat, (chanL l op m)[k] = (c : Int) ∧ c < m := by
 have hm := List.getElem_mem h
 unfold chanL at hm
 obtain ⟨c, hc, e⟩ := List.mem_map.1 hm
 exact ⟨c, e.symm, by simpa using (List.mem_filter.1 hc).1⟩
theorem namesFrom_at (l : List Chn) : ∀ (ps : List Prt) (k j : Nat) (h : j < ps.length), nameBad l ((k + j : Nat) : Int) ps[j] = true → namesFrom l k ps = false
 | p :: r, k, 0, _, hb => by
  rw [namesFrom, if_pos (by simpa using hb)]
 | p :: r, k, j + 1, h, hb => by
  rw [namesFrom]
  split
  ·rfl
  ·exact namesFrom_at l r (k + 1) j (by simpa using h) (by rw [show k + 1 + j = k + (j + 1) by omega]; simpa using hb)
theorem namesFrom_all (l : List Chn) : ∀ (ps : List Prt) (k : Nat), (∀ j (h : j < ps.length), nameBad l ((k + j : Nat) : Int) ps[j] = false) → namesFrom l k ps = true
 | [], _, _ => rfl
 | p :: r, k, hz => by
  rw [namesFrom, if_neg (by have := hz 0 (by simp); simpa using this)]
  exact namesFrom_all l r (k + 1) (fun j h => by rw [show k + 1 + j = k + (j + 1) by omega]; have := hz (j + 1) (by simpa using h); simpa using this)
theorem names_any (S : SysD) (vp vc vs : Value) (w : World) (he : Env w) (hS : Sys w vp vc vs S) (hc : countsB S = true) (hp : firstP S.parts = 0) : Calls Tryz.prog 93 #[.agg #[vp, vc, vs]] w fun e w' => e = .returned (.bool (namesB S)) ∧ Below w.heap.size w w' := by
 have hn : 1 ≤ S.parts.length ∧ S.parts.length ≤ 4 ∧ S.chans.length ≤ 6 := by unfold countsB at hc; simp at hc; omega
 obtain ⟨hn0, hn1, hn2⟩ := hn
 obtain ⟨pb, po, pc, rfl, hpc, hpb, hpp⟩ := hS.p.open om
 obtain ⟨ca, cc, rfl⟩ := hS.c.form
 obtain ⟨sa, sc, rfl⟩ := hS.s.form
 have HS := hd hS
 have HP := hd hpp
 have HZ := hd (firstP_zero hp)
 generalize hr : namesB S = r
 have HR := hd hr
 clear hS hpp hp hr hc
 go_enter Tryz.func93, Tryz.ntmps93
 go_wp2
 go_loopw [12] (fun i wr => ∃ k : Nat, i = .int .i64 k ∧ k ≤ S.parts.length ∧ Hid (∀ j (h : j < S.parts.length), j < k → nameBad S.chans (j : Int) S.parts[j] = false) ∧ Hid (Box wr w.heap.size (.slice (some ⟨pb, po, none⟩) S.parts.length pc) (.slice ca S.chans.length cc) (.slice sa S.slots.length sc)) ∧ Hid (Below w.heap.size w wr)) (fun i _ => S.parts.length - (intOf i).toNat)
 case atStart => exact ⟨0, rfl, Nat.zero_le _, fun j hj h => by omega, box_new w _ _ _ _ _ rfl, up0⟩
 case round =>
  obtain ⟨k, rfl, hk, HN, HB, hbel⟩ := hrel
  by_cases hlt : k < S.parts.length
  ·have hli : (k : Int) < S.parts.length := by omega
   obtain ⟨c, i, c0, c1, hpr⟩ := HP.out k hlt
   obtain ⟨a1, b1, rfl⟩ := hpr.code.form
   obtain ⟨a2, b2, rfl⟩ := hpr.inn.form
   have c0 := bcl hbel.out hpb c0
   have c1 := bcl hbel.out hpb c1
   have HPR := hd hpr
   have hcz := HZ.out k hlt
   have HCZ := hd hcz
   clear hpr hcz
   have hbs := hbel.out.size
   generalize hq1 : (chanL S.parts[k].code 12 6).any (putBad S.chans (k : Int)) = q1
   generalize hq2 : (chanL S.parts[k].code 13 6).any (getBad S.chans (k : Int)) = q2
   have H1 := hd hq1
   have H2 := hd hq2
   have HNB : Hid (nameBad S.chans (k : Int) S.parts[k] = (q1 || q2)) := by show nameBad _ _ _ = _; unfold nameBad; rw [hq1, hq2]
   clear hq1 hq2
   have e0 := he.up hbel.out
   go_wp2_with fail
   refine (puts_yes S.parts[k].code _ _ (e0.up up0) ((HPR.out.code.up hbel.out).up up0) HCZ.out).mono ?_
   rintro e w1 ⟨v1, rfl, s1, bb⟩
   obtain ⟨v1a, v1c, rfl⟩ := s1.form
   have D : Below wr.heap.size wr w1 := Below.trans up0 (bb.mono so)
   have m0 : w1.cell? ⟨wr.heap.size, 0, none⟩ = some (.int .i64 k) := bcl bb so (cl_alloc _ (by simp) (by simp))
   have p0 : w1.cell? ⟨wr.heap.size + 1, 0, none⟩ = some (.slice a1 S.parts[k].code.length b1) := bcl bb (by simp) (by simp)
   have z1 : wr.heap.size + 1 < w1.heap.size := by have := bb.size; simp at this; omega
   have HD := hd D
   have M0 := hd m0
   have S1 := hd s1
   clear bb D s1 m0 c0 c1
   go_wp2_with fail
   refine (oneInt_any _ _ _ enNames1 _ (putBad S.chans (k : Int)) _ S1.out (Nat.le_trans (chanL_len _ _ _) (by decide)) (fun j hj w2 hb => ?_) q1 H1.out).mono ?_
   ·obtain ⟨c, e, hc6⟩ := chanL_nat hj
    rw [e, app2]
    exact putLit_any c S.chans k _ _ _ _ _ _ ((HB.out.up HD.out).up hb) (bcl hb om M0.out) (((HS.out.c.up hbel.out).up HD.out).up hb) hc6
   rintro e w2 ⟨rfl, bb⟩
   have p0 : w2.cell? ⟨wr.heap.size + 1, 0, none⟩ = some (.slice a1 S.parts[k].code.length b1) := bcl bb z1 p0
   have M0 := hd (bcl bb om M0.out)
   have HD := hd (HD.out.trans (bb.mono HD.out.size))
   have z1 : wr.heap.size + 1 < w2.heap.size := by have := bb.size; omega
   clear bb S1
   cases q1
   ·go_wp2_with fail
    refine (gets_yes S.parts[k].code _ _ (e0.up HD.out) ((HPR.out.code.up hbel.out).up HD.out) HCZ.out).mono ?_
    rintro e w3 ⟨v2, rfl, s2, bb⟩
    obtain ⟨v2a, v2c, rfl⟩ := s2.form
    have M0 := hd (bcl bb om M0.out)
    have HD := hd (HD.out.trans (bb.mono HD.out.size))
    have z1 : wr.heap.size + 1 < w3.heap.size := by have := bb.size; omega
    have S2 := hd s2
    clear bb s2 p0
    go_wp2_with fail
    refine (oneInt_any _ _ _ enNames2 _ (getBad S.chans (k : Int)) _ S2.out (Nat.le_trans (chanL_len _ _ _) (by decide)) (fun j hj w2 hb => ?_) q2 H2.out).mono ?_
    ·obtain ⟨c, e, hc6⟩ := chanL_nat hj
     rw [e, app2]
     exact getLit_any c S.chans k _ _ _ _ _ _ ((HB.out.up HD.out).up hb) (bcl hb om M0.out) (((HS.out.c.up hbel.out).up HD.out).up hb) hc6
    rintro e w4 ⟨rfl, bb⟩
    have HD := hd (HD.out.trans (bb.mono HD.out.size))
    have HW := hd (hbel.out.trans (HD.out.mono hbs))
    clear bb S2
    cases q2
    ·have HBB := hd (HB.out.up HD.out)
     go_wp2
     go_roundw
     case rel => exact ⟨k + 1, by go_num, by omega, (fun j hj hjk => by
      by_cases e : j = k
      ·subst e; exact HNB.out
      ·exact HN.out j hj om), HBB, HW⟩
     case measure => simp [intOf]; omega
    ·have HF := hd (namesFrom_at S.chans S.parts 0 k hlt (by rw [Nat.zero_add]; exact HNB.out))
     go_wp2
     go_ret
     exact ⟨ret_bool (by rw [← HR.out]; exact HF.out.symm), HW.out⟩
   ·have HW := hd (hbel.out.trans (HD.out.mono hbs))
    have HF := hd (namesFrom_at S.chans S.parts 0 k hlt (by rw [Nat.zero_add]; exact HNB.out))
    go_wp2
    go_ret
    exact ⟨ret_bool (by rw [← HR.out]; exact HF.out.symm), HW.out⟩
  ·have hli : ¬ (k : Int) < S.parts.length := by omega
   have HF := hd (namesFrom_all S.chans S.parts 0 (fun j hj => by rw [Nat.zero_add]; exact HN.out j hj om))
   go_wp2
   go_ret
   exact ⟨ret_bool (by rw [← HR.out]; exact HF.out.symm), hbel.out⟩
end Go.Proofs.YtehhhiodfcdnmaaGreatDoor

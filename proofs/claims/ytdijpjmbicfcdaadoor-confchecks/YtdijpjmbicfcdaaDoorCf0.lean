/- conf: within, isPart; 'one', of whatever is asked. -/
import Derived.Test.YtdijpjmbicfcdaaDoorCfRep
namespace Go.Proofs.YtdijpjmbicfcdaaDoor
set_option linter.unusedSimpArgs false
set_option linter.unusedVariables false
open Go.RowKit Go.Sort

theorem cwithin_any (n lo hi : Int) (w : World) : Calls Tryd.prog 43 #[.int .i64 n, .int .i64 lo, .int .i64 hi] w fun e w' => e = .returned (.bool (withinB n lo hi)) ∧ w' = w := by
  by_cases h : lo ≤ n
  all_goals
    go_enter Tryd.func43, Tryd.ntmps43
    go_wp2
    go_ret
    exact ⟨ret_bool (by simp [withinB]; try omega), rfl⟩

theorem isPart_any (ao : Option Addr) (n cap : Nat) (vc vs : Value) (x : Int) (w : World) (hn : n ≤ 1000) :
    Calls Tryd.prog 20 #[.agg #[.slice ao n cap, vc, vs], .int .i64 x] w fun e w' => e = .returned (.bool (withinB x 0 ((n : Int) - 1))) ∧ Below w.heap.size w w' := by
  go_enter Tryd.func20, Tryd.ntmps20
  go_wp2_with (go_at_call 43; refine (cwithin_any _ _ _ _).mono ?_; rintro e w' ⟨rfl, rfl⟩)
  go_ret
  exact ⟨rfl, (by repeat (first | exact Below.refl _ _ | assumption | refine Below.drew ?_ | refine Below.alloc ?_ (by first | (simp; done) | (simp; omega)) _ | refine Below.setCell ?_ (by first | (simp; done) | (simp; omega)) _))⟩

/-- A function value's call enters its function. -/
def Enters (f : Nat) : Prop := ∀ args w, Sem.run Tryd.prog (callFunc f args) w = .ok (.enter f args) w
theorem enters {f : Nat} {fn : Func} (hf : Tryd.prog.funcs[f]? = some fn) (hn : (fn.name == "runtime.NumGoroutine") = false) (hb : fn.body.isNone = false) : Enters f := by
  intro args w
  have hn' : ¬ fn.name = "runtime.NumGoroutine" := by simpa using hn
  have hb' : ¬ fn.body = none := fun e => by rw [e] at hb; cases hb
  simp [callFunc, go_sem, hf, hn', hb']

theorem any_mem {α : Type} {l : List α} {p : α → Bool} {k : Nat} (h : k < l.length) (hp : p l[k] = true) : l.any p = true := by
  rw [List.any_eq_true]
  exact ⟨l[k], List.getElem_mem h, hp⟩
theorem any_take {α : Type} {l : List α} {p : α → Bool} {k : Nat} (h : k < l.length) (h0 : (l.take k).any p = false) (hp : p l[k] = false) : (l.take (k + 1)).any p = false := by
  rw [List.take_succ_eq_append_getElem h, List.any_append, h0]; simp [hp]
theorem any_all {α : Type} {l : List α} {p : α → Bool} {k : Nat} (h : ¬ k < l.length) (h0 : (l.take k).any p = false) : l.any p = false := by
  rwa [List.take_of_length_le (by omega)] at h0

set_option maxHeartbeats 1000000 in
/-- one, of channels. -/
theorem oneChan_any (l : List Chn) (v : Value) (f : Nat) (hen : Enters f) (caps : Array Value) (p : Chn → Bool) (w : World) (hS : Sl w 3 v l.length (rowC chC l)) (hl : l.length ≤ 1000)
    (hf : ∀ k (hk : k < l.length) w1, Below w.heap.size w w1 → Calls Tryd.prog f (#[.agg #[.int .i64 l[k].kd, .int .i64 l[k].fr, .int .i64 l[k].tt]] ++ caps) w1 fun e w2 => e = .returned (.bool (p l[k])) ∧ Below w1.heap.size w1 w2) (r : Bool) (hr : l.any p = r) :
    Calls Tryd.prog 31 #[v, .func (.func f) #[] caps] w fun e w' => e = .returned (.bool r) ∧ Below w.heap.size w w' := by
  obtain ⟨ao, cap, rfl⟩ := hS.form
  have HS := Lib.hid hS
  have HF := Lib.hid hf
  have HR := Lib.hid hr
  clear hS hf hr
  unfold Enters at hen
  go_enter Tryd.func31, Tryd.ntmps31
  go_wp2
  go_loopw [9] (fun i wr => ∃ k : Nat, i = .int .i64 k ∧ k ≤ l.length ∧ Hid ((l.take k).any p = false) ∧ Below w.heap.size w wr) (fun i _ => l.length - (intOf i).toNat)
  case atStart => exact ⟨0, rfl, Nat.zero_le _, (show ((l.take 0).any p = false) by simp), Below.refl _ _⟩
  case round =>
    obtain ⟨k, rfl, hk, HZ, hbel⟩ := hrel
    by_cases hlt : k < l.length
    · have hli : (k : Int) < l.length := by omega
      obtain ⟨b, off, cap', e1, hcap, hbw, hc⟩ := HS.out.open (by omega)
      cases e1
      obtain ⟨c0, c1, c2⟩ := chan_cells hc k hlt
      have c0 := bcl hbel hbw c0
      have c1 := bcl hbel hbw c1
      have c2 := bcl hbel hbw c2
      have HC := Lib.hid (HF.out k hlt)
      generalize hq : p l[k] = q at HC
      have HQ := Lib.hid hq
      clear hc hq
      go_wp2_with fail
      refine (HC.out _ (hbel.alloc hbel.size _)).mono ?_
      rintro e w2 ⟨rfl, bb⟩
      have D := Lib.hid ((hbel.alloc hbel.size _).trans (bb.mono (by have := hbel.size; simp; omega)))
      clear bb HC c0 c1 c2
      cases q
      · have HZ1 := Lib.hid (any_take hlt HZ.out HQ.out)
        go_wp2
        go_roundw
        case rel => exact ⟨k + 1, by go_num, by omega, HZ1, D.out⟩
        case measure => simp [intOf]; omega
      · have HZ1 := Lib.hid (any_mem hlt HQ.out)
        go_wp2
        go_ret
        exact ⟨ret_bool (by rw [← HR.out, HZ1.out]), D.out⟩
    · have hli : ¬ (k : Int) < l.length := by omega
      have HZ1 := Lib.hid (any_all hlt HZ.out)
      go_wp2
      go_ret
      exact ⟨ret_bool (by rw [← HR.out, HZ1.out]), hbel⟩
set_option maxHeartbeats 1000000 in
/-- one, of slots. -/
theorem oneSlot_any (l : List Slt) (v : Value) (f : Nat) (hen : Enters f) (caps : Array Value) (p : Slt → Bool) (w : World) (hS : Sl w 2 v l.length (rowC slC l)) (hl : l.length ≤ 1000)
    (hf : ∀ k (hk : k < l.length) w1, Below w.heap.size w w1 → Calls Tryd.prog f (#[.agg #[.int .i64 l[k].pt, .int .i64 l[k].tk]] ++ caps) w1 fun e w2 => e = .returned (.bool (p l[k])) ∧ Below w1.heap.size w1 w2) (r : Bool) (hr : l.any p = r) :
    Calls Tryd.prog 49 #[v, .func (.func f) #[] caps] w fun e w' => e = .returned (.bool r) ∧ Below w.heap.size w w' := by
  obtain ⟨ao, cap, rfl⟩ := hS.form
  have HS := Lib.hid hS
  have HF := Lib.hid hf
  have HR := Lib.hid hr
  clear hS hf hr
  unfold Enters at hen
  go_enter Tryd.func49, Tryd.ntmps49
  go_wp2
  go_loopw [9] (fun i wr => ∃ k : Nat, i = .int .i64 k ∧ k ≤ l.length ∧ Hid ((l.take k).any p = false) ∧ Below w.heap.size w wr) (fun i _ => l.length - (intOf i).toNat)
  case atStart => exact ⟨0, rfl, Nat.zero_le _, (show ((l.take 0).any p = false) by simp), Below.refl _ _⟩
  case round =>
    obtain ⟨k, rfl, hk, HZ, hbel⟩ := hrel
    by_cases hlt : k < l.length
    · have hli : (k : Int) < l.length := by omega
      obtain ⟨b, off, cap', e1, hcap, hbw, hc⟩ := HS.out.open (by omega)
      cases e1
      obtain ⟨c0, c1⟩ := slot_cells hc k hlt
      have c0 := bcl hbel hbw c0
      have c1 := bcl hbel hbw c1
      have HC := Lib.hid (HF.out k hlt)
      generalize hq : p l[k] = q at HC
      have HQ := Lib.hid hq
      clear hc hq
      go_wp2_with fail
      refine (HC.out _ (hbel.alloc hbel.size _)).mono ?_
      rintro e w2 ⟨rfl, bb⟩
      have D := Lib.hid ((hbel.alloc hbel.size _).trans (bb.mono (by have := hbel.size; simp; omega)))
      clear bb HC c0 c1
      cases q
      · have HZ1 := Lib.hid (any_take hlt HZ.out HQ.out)
        go_wp2
        go_roundw
        case rel => exact ⟨k + 1, by go_num, by omega, HZ1, D.out⟩
        case measure => simp [intOf]; omega
      · have HZ1 := Lib.hid (any_mem hlt HQ.out)
        go_wp2
        go_ret
        exact ⟨ret_bool (by rw [← HR.out, HZ1.out]), D.out⟩
    · have hli : ¬ (k : Int) < l.length := by omega
      have HZ1 := Lib.hid (any_all hlt HZ.out)
      go_wp2
      go_ret
      exact ⟨ret_bool (by rw [← HR.out, HZ1.out]), hbel⟩

set_option maxHeartbeats 1000000 in
/-- one, of numbers. -/
theorem oneInt_any (l : List Int) (v : Value) (f : Nat) (hen : Enters f) (caps : Array Value) (p : Int → Bool) (w : World) (hS : Sl w 1 v l.length (ints l)) (hl : l.length ≤ 1000)
    (hf : ∀ k (hk : k < l.length) w1, Below w.heap.size w w1 → Calls Tryd.prog f (#[.int .i64 l[k]] ++ caps) w1 fun e w2 => e = .returned (.bool (p l[k])) ∧ Below w1.heap.size w1 w2) (r : Bool) (hr : l.any p = r) :
    Calls Tryd.prog 52 #[v, .func (.func f) #[] caps] w fun e w' => e = .returned (.bool r) ∧ Below w.heap.size w w' := by
  obtain ⟨ao, cap, rfl⟩ := hS.form
  have HS := Lib.hid hS
  have HF := Lib.hid hf
  have HR := Lib.hid hr
  clear hS hf hr
  unfold Enters at hen
  go_enter Tryd.func52, Tryd.ntmps52
  go_wp2
  go_loopw [9] (fun i wr => ∃ k : Nat, i = .int .i64 k ∧ k ≤ l.length ∧ Hid ((l.take k).any p = false) ∧ Below w.heap.size w wr) (fun i _ => l.length - (intOf i).toNat)
  case atStart => exact ⟨0, rfl, Nat.zero_le _, (show ((l.take 0).any p = false) by simp), Below.refl _ _⟩
  case round =>
    obtain ⟨k, rfl, hk, HZ, hbel⟩ := hrel
    by_cases hlt : k < l.length
    · have hli : (k : Int) < l.length := by omega
      obtain ⟨b, off, cap', e1, hcap, hbw, hc⟩ := HS.out.open (by omega)
      cases e1
      have c0 := bcl hbel hbw (hc k _ (ints_at l k hlt))
      have HC := Lib.hid (HF.out k hlt)
      generalize hq : p l[k] = q at HC
      have HQ := Lib.hid hq
      clear hc hq
      go_wp2_with fail
      refine (HC.out _ hbel).mono ?_
      rintro e w2 ⟨rfl, bb⟩
      have D := Lib.hid (hbel.trans (bb.mono hbel.size))
      clear bb HC c0
      cases q
      · have HZ1 := Lib.hid (any_take hlt HZ.out HQ.out)
        go_wp2
        go_roundw
        case rel => exact ⟨k + 1, by go_num, by omega, HZ1, D.out⟩
        case measure => simp [intOf]; omega
      · have HZ1 := Lib.hid (any_mem hlt HQ.out)
        go_wp2
        go_ret
        exact ⟨ret_bool (by rw [← HR.out, HZ1.out]), D.out⟩
    · have hli : ¬ (k : Int) < l.length := by omega
      have HZ1 := Lib.hid (any_all hlt HZ.out)
      go_wp2
      go_ret
      exact ⟨ret_bool (by rw [← HR.out, HZ1.out]), hbel⟩

set_option maxHeartbeats 1000000 in
/-- one, of partitions. -/
theorem onePart_any (l : List Prt) (v : Value) (f : Nat) (hen : Enters f) (caps : Array Value) (p : Prt → Bool) (w : World) (hS : PartsR w v l) (hl : l.length ≤ 1000)
    (hf : ∀ k (hk : k < l.length) c i w1, PrtR w c i l[k] → Below w.heap.size w w1 → Calls Tryd.prog f (#[.agg #[c, i]] ++ caps) w1 fun e w2 => e = .returned (.bool (p l[k])) ∧ Below w1.heap.size w1 w2) (r : Bool) (hr : l.any p = r) :
    Calls Tryd.prog 45 #[v, .func (.func f) #[] caps] w fun e w' => e = .returned (.bool r) ∧ Below w.heap.size w w' := by
  obtain ⟨ao, cap, rfl⟩ := hS.form
  have HS := Lib.hid hS
  have HF := Lib.hid hf
  have HR := Lib.hid hr
  clear hS hf hr
  unfold Enters at hen
  go_enter Tryd.func45, Tryd.ntmps45
  go_wp2
  go_loopw [9] (fun i wr => ∃ k : Nat, i = .int .i64 k ∧ k ≤ l.length ∧ Hid ((l.take k).any p = false) ∧ Below w.heap.size w wr) (fun i _ => l.length - (intOf i).toNat)
  case atStart => exact ⟨0, rfl, Nat.zero_le _, (show ((l.take 0).any p = false) by simp), Below.refl _ _⟩
  case round =>
    obtain ⟨k, rfl, hk, HZ, hbel⟩ := hrel
    by_cases hlt : k < l.length
    · have hli : (k : Int) < l.length := by omega
      obtain ⟨b, off, cap', e1, hcap, hbw, hc⟩ := HS.out.open (by omega)
      cases e1
      obtain ⟨c, i, c0, c1, hpr⟩ := hc k hlt
      obtain ⟨ca, cc, rfl⟩ := hpr.code.form
      obtain ⟨ia, ic, rfl⟩ := hpr.inn.form
      have c0 := bcl hbel hbw c0
      have c1 := bcl hbel hbw c1
      have HC := Lib.hid (fun w1 => HF.out k hlt _ _ w1 hpr)
      generalize hq : p l[k] = q at HC
      have HQ := Lib.hid hq
      clear hc hq hpr
      go_wp2_with fail
      refine (HC.out _ (hbel.alloc hbel.size _)).mono ?_
      rintro e w2 ⟨rfl, bb⟩
      have D := Lib.hid ((hbel.alloc hbel.size _).trans (bb.mono (by have := hbel.size; simp; omega)))
      clear bb HC c0 c1
      cases q
      · have HZ1 := Lib.hid (any_take hlt HZ.out HQ.out)
        go_wp2
        go_roundw
        case rel => exact ⟨k + 1, by go_num, by omega, HZ1, D.out⟩
        case measure => simp [intOf]; omega
      · have HZ1 := Lib.hid (any_mem hlt HQ.out)
        go_wp2
        go_ret
        exact ⟨ret_bool (by rw [← HR.out, HZ1.out]), D.out⟩
    · have hli : ¬ (k : Int) < l.length := by omega
      have HZ1 := Lib.hid (any_all hlt HZ.out)
      go_wp2
      go_ret
      exact ⟨ret_bool (by rw [← HR.out, HZ1.out]), hbel⟩
end Go.Proofs.YtdijpjmbicfcdaaDoor

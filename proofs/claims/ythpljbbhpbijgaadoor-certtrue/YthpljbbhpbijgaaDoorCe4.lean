/- Lists: in, Index, Contains, IndexFunc, ContainsFunc. -/
import Derived.Test.YthpljbbhpbijgaaDoorCe3
namespace Go.Proofs.YthpljbbhpbijgaaDoor
set_option linter.unusedSimpArgs false
set_option linter.unusedVariables false
open Go.RowKit Go.Sort Go.Shelf Go.Lib Go.Maps

def inB (l : List Int) (x : Int) : Bool := l.any fun y => y == x
theorem inB_iff {l : List Int} {x : Int} : inB l x = true ↔ x ∈ l := by
  unfold inB
  rw [List.any_eq_true]
  constructor
  · rintro ⟨y, hy, e⟩
    rw [beq_iff_eq] at e
    exact e ▸ hy
  · intro h
    exact ⟨x, h, by simp⟩
set_option maxHeartbeats 1000000 in
theorem refIn_any (l : List Int) (x : Int) (v : Value) (w : World) (hS : Sl w 1 v l.length (ints l)) (hl : l.length ≤ 9223372036854775807) :
    Calls Tryd.prog 55 #[v, .int .i64 x] w fun e w' => e = .returned (.bool (inB l x)) ∧ w' = w := by
  obtain ⟨ao, cap, rfl⟩ := hS.form
  have HS := Lib.hid hS
  clear hS
  go_enter Tryd.func55, Tryd.ntmps55
  go_wp2
  go_loopw [5] (fun i wr => ∃ k : Nat, i = .int .i64 k ∧ k ≤ l.length ∧ Hid ((l.take k).any (fun y => y == x) = false) ∧ wr = w) (fun i _ => l.length - (intOf i).toNat)
  case atStart => exact ⟨0, rfl, Nat.zero_le _, Lib.hid (by simp), rfl⟩
  case round =>
    obtain ⟨k, rfl, hk, HZ, rfl⟩ := hrel
    by_cases hlt : k < l.length
    · have hli : (k : Int) < l.length := by omega
      obtain ⟨b, off, cap', e1, hcap, hbw, hc⟩ := HS.out.open (by omega)
      cases e1
      have c0 := hc k _ (ints_at l k hlt)
      by_cases hq : l[k] = x
      · have HZ1 := Lib.hid (any_mem (p := fun y => y == x) hlt (by simpa using hq))
        have hq' : (l[k] == x) = true := by simpa using hq
        clear hc hq
        go_wp2
        go_ret
        exact ⟨ret_bool (by unfold inB; rw [HZ1.out]), rfl⟩
      · have HZ1 := Lib.hid (any_take (p := fun y => y == x) hlt HZ.out (by simpa using hq))
        have hq' : (l[k] == x) = false := by simpa using hq
        clear hc hq
        go_wp2
        go_roundw
        case rel => exact ⟨k + 1, by go_num, by omega, HZ1, by first | rfl | trivial⟩
        case measure => simp [intOf]; omega
    · have hli : ¬ (k : Int) < l.length := by omega
      have HZ1 := Lib.hid (any_all hlt HZ.out)
      go_wp2
      go_ret
      exact ⟨ret_bool (by unfold inB; rw [HZ1.out]), rfl⟩
set_option maxHeartbeats 1000000 in
theorem slIndex_any (l : List Int) (x : Int) (v : Value) (w : World) (hS : Sl w 1 v l.length (ints l)) (hl : l.length < 4294967281) :
    Calls Tryd.prog 73 #[v, .int .i64 x] w fun e w' => ∃ i : Int, e = .returned (.int .i64 i) ∧ decide (0 ≤ i) = inB l x ∧ w' = w := by
  obtain ⟨ao, cap, rfl⟩ := hS.form
  have HS := Lib.hid hS
  clear hS
  go_enter Tryd.func73, Tryd.ntmps73
  go_wp2
  go_loopw [8] (fun i wr => ∃ k : Nat, i = .int .i64 k ∧ k ≤ l.length ∧ Hid ((l.take k).any (fun y => y == x) = false) ∧ wr = w) (fun i _ => l.length - (intOf i).toNat)
  case atStart => exact ⟨0, rfl, Nat.zero_le _, Lib.hid (by simp), rfl⟩
  case round =>
    obtain ⟨k, rfl, hk, HZ, rfl⟩ := hrel
    by_cases hlt : k < l.length
    · have hli : (k : Int) < l.length := by omega
      obtain ⟨b, off, cap', e1, hcap, hbw, hc⟩ := HS.out.open (by omega)
      cases e1
      have c0 := hc k _ (ints_at l k hlt)
      by_cases hq : l[k] = x
      · have HZ1 := Lib.hid (any_mem (p := fun y => y == x) hlt (by simpa using hq))
        have hq' : (x == l[k]) = true := by simpa using hq.symm
        clear hc hq
        go_wp2
        go_ret
        exact ⟨_, rfl, by unfold inB; rw [HZ1.out]; simp, rfl⟩
      · have HZ1 := Lib.hid (any_take (p := fun y => y == x) hlt HZ.out (by simpa using hq))
        have hq' : (x == l[k]) = false := by simpa using Ne.symm hq
        clear hc hq
        go_wp2
        go_roundw
        case rel => exact ⟨k + 1, by go_num, by omega, HZ1, by first | rfl | trivial⟩
        case measure => simp [intOf]; omega
    · have hli : ¬ (k : Int) < l.length := by omega
      have HZ1 := Lib.hid (any_all hlt HZ.out)
      go_wp2
      go_ret
      exact ⟨_, rfl, by unfold inB; rw [HZ1.out]; decide, rfl⟩
theorem slContains_any (l : List Int) (x : Int) (v : Value) (w : World) (hS : Sl w 1 v l.length (ints l)) (hl : l.length < 4294967281) :
    Calls Tryd.prog 51 #[v, .int .i64 x] w fun e w' => e = .returned (.bool (inB l x)) ∧ w' = w := by
  obtain ⟨ao, cap, rfl⟩ := hS.form
  have HS := Lib.hid hS
  clear hS
  go_enter Tryd.func51, Tryd.ntmps51
  go_wp2_with fail
  refine (slIndex_any l x _ _ HS.out hl).mono ?_
  rintro e w1 ⟨i, rfl, hi, rfl⟩
  have HI := Lib.hid hi
  clear hi
  by_cases h0 : 0 ≤ i
  · go_wp2
    go_ret
    exact ⟨ret_bool (by first | (rw [← HI.out]; done) | (rw [← HI.out]; simp [h0])), rfl⟩
  · go_wp2
    go_ret
    exact ⟨ret_bool (by first | (rw [← HI.out]; done) | (rw [← HI.out]; simp [h0])), rfl⟩

set_option maxHeartbeats 1000000 in
theorem slIndexF_any (l : List Int) (v : Value) (f : Nat) (hen : Enters f) (caps : Array Value) (p : Int → Bool) (w : World) (hS : Sl w 1 v l.length (ints l)) (hl : l.length < 4294967281)
    (hf : ∀ k (hk : k < l.length) w1, RowKit.Below w.heap.size w w1 → Calls Tryd.prog f (#[.int .i64 l[k]] ++ caps) w1 fun e w2 => e = .returned (.bool (p l[k])) ∧ RowKit.Below w1.heap.size w1 w2) :
    Calls Tryd.prog 76 #[v, .func (.func f) #[] caps] w fun e w' => ∃ i : Int, e = .returned (.int .i64 i) ∧ decide (0 ≤ i) = l.any p ∧ RowKit.Below w.heap.size w w' := by
  obtain ⟨ao, cap, rfl⟩ := hS.form
  have HS := Lib.hid hS
  have HF := Lib.hid hf
  clear hS hf
  unfold Enters at hen
  go_enter Tryd.func76, Tryd.ntmps76
  go_wp2
  go_loopw [8] (fun i wr => ∃ k : Nat, i = .int .i64 k ∧ k ≤ l.length ∧ Hid ((l.take k).any p = false) ∧ Hid (RowKit.Below w.heap.size w wr)) (fun i _ => l.length - (intOf i).toNat)
  case atStart => exact ⟨0, rfl, Nat.zero_le _, Lib.hid (by simp), Lib.hid (RowKit.Below.refl _ _)⟩
  case round =>
    obtain ⟨k, rfl, hk, HZ, HT⟩ := hrel
    by_cases hlt : k < l.length
    · have hli : (k : Int) < l.length := by omega
      obtain ⟨b, off, cap', e1, hcap, hbw, hc⟩ := (HS.out.up HT.out).open (by omega)
      cases e1
      have c0 := hc k _ (ints_at l k hlt)
      have HC := Lib.hid (HF.out k hlt)
      generalize hq : p l[k] = q at HC
      have HQ := Lib.hid hq
      clear hc hq
      go_wp2_with fail
      refine (HC.out _ HT.out).mono ?_
      rintro e w2 ⟨rfl, bb⟩
      have D := Lib.hid (HT.out.trans (bb.mono HT.out.size))
      clear bb HC c0
      cases q
      · have HZ1 := Lib.hid (any_take hlt HZ.out HQ.out)
        go_wp2
        go_roundw
        case rel => exact ⟨k + 1, by go_num, by omega, HZ1, D⟩
        case measure => simp [intOf]; omega
      · have HZ1 := Lib.hid (any_mem hlt HQ.out)
        go_wp2
        go_ret
        exact ⟨_, rfl, by rw [HZ1.out]; simp, D.out⟩
    · have hli : ¬ (k : Int) < l.length := by omega
      have HZ1 := Lib.hid (any_all hlt HZ.out)
      go_wp2
      go_ret
      exact ⟨_, rfl, by rw [HZ1.out]; decide, HT.out⟩

theorem slContF_any (l : List Int) (v : Value) (f : Nat) (hen : Enters f) (caps : Array Value) (p : Int → Bool) (w : World) (hS : Sl w 1 v l.length (ints l)) (hl : l.length < 4294967281)
    (hf : ∀ k (hk : k < l.length) w1, RowKit.Below w.heap.size w w1 → Calls Tryd.prog f (#[.int .i64 l[k]] ++ caps) w1 fun e w2 => e = .returned (.bool (p l[k])) ∧ RowKit.Below w1.heap.size w1 w2) :
    Calls Tryd.prog 53 #[v, .func (.func f) #[] caps] w fun e w' => e = .returned (.bool (l.any p)) ∧ RowKit.Below w.heap.size w w' := by
  obtain ⟨ao, cap, rfl⟩ := hS.form
  have HS := Lib.hid hS
  have HF := Lib.hid hf
  clear hS hf
  go_enter Tryd.func53, Tryd.ntmps53
  go_wp2_with fail
  refine (slIndexF_any l _ f hen caps p _ HS.out hl HF.out).mono ?_
  rintro e w1 ⟨i, rfl, hi, bb⟩
  have D := Lib.hid bb
  have HI := Lib.hid hi
  clear bb hi
  by_cases h0 : 0 ≤ i
  · go_wp2
    go_ret
    exact ⟨ret_bool (by first | (rw [← HI.out]; done) | (rw [← HI.out]; simp [h0])), D.out⟩
  · go_wp2
    go_ret
    exact ⟨ret_bool (by first | (rw [← HI.out]; done) | (rw [← HI.out]; simp [h0])), D.out⟩

set_option maxHeartbeats 1000000 in
theorem slIndexE_any (l : List Edg) (v : Value) (f : Nat) (hen : Enters f) (caps : Array Value) (p : Edg → Bool) (w : World) (hS : Sl w 2 v l.length (rowC Edg.cells l)) (hl : l.length < 4294967281)
    (hf : ∀ k (hk : k < l.length) w1, RowKit.Below w.heap.size w w1 → Calls Tryd.prog f (#[l[k].v] ++ caps) w1 fun e w2 => e = .returned (.bool (p l[k])) ∧ RowKit.Below w1.heap.size w1 w2) :
    Calls Tryd.prog 96 #[v, .func (.func f) #[] caps] w fun e w' => ∃ i : Int, e = .returned (.int .i64 i) ∧ decide (0 ≤ i) = l.any p ∧ RowKit.Below w.heap.size w w' := by
  obtain ⟨ao, cap, rfl⟩ := hS.form
  have HS := Lib.hid hS
  have HF := Lib.hid hf
  clear hS hf
  unfold Enters at hen
  go_enter Tryd.func96, Tryd.ntmps96
  go_wp2
  go_loopw [8] (fun i wr => ∃ k : Nat, i = .int .i64 k ∧ k ≤ l.length ∧ Hid ((l.take k).any p = false) ∧ Hid (RowKit.Below w.heap.size w wr)) (fun i _ => l.length - (intOf i).toNat)
  case atStart => exact ⟨0, rfl, Nat.zero_le _, Lib.hid (by simp), Lib.hid (RowKit.Below.refl _ _)⟩
  case round =>
    obtain ⟨k, rfl, hk, HZ, HT⟩ := hrel
    by_cases hlt : k < l.length
    · have hli : (k : Int) < l.length := by omega
      obtain ⟨b, off, cap', e1, hcap, hbw, hc⟩ := (HS.out.up HT.out).open (by omega)
      cases e1
      obtain ⟨c0, c1⟩ := edge_cells hc k hlt
      have HC := Lib.hid (HF.out k hlt)
      generalize hq : p l[k] = q at HC
      have HQ := Lib.hid hq
      clear hc hq
      go_wp2_with fail
      refine (HC.out _ HT.out).mono ?_
      rintro e w2 ⟨rfl, bb⟩
      have D := Lib.hid (HT.out.trans (bb.mono HT.out.size))
      clear bb HC c0 c1
      cases q
      · have HZ1 := Lib.hid (any_take hlt HZ.out HQ.out)
        go_wp2
        go_roundw
        case rel => exact ⟨k + 1, by go_num, by omega, HZ1, D⟩
        case measure => simp [intOf]; omega
      · have HZ1 := Lib.hid (any_mem hlt HQ.out)
        go_wp2
        go_ret
        exact ⟨_, rfl, by rw [HZ1.out]; simp, D.out⟩
    · have hli : ¬ (k : Int) < l.length := by omega
      have HZ1 := Lib.hid (any_all hlt HZ.out)
      go_wp2
      go_ret
      exact ⟨_, rfl, by rw [HZ1.out]; decide, HT.out⟩

theorem slContE_any (l : List Edg) (v : Value) (f : Nat) (hen : Enters f) (caps : Array Value) (p : Edg → Bool) (w : World) (hS : Sl w 2 v l.length (rowC Edg.cells l)) (hl : l.length < 4294967281)
    (hf : ∀ k (hk : k < l.length) w1, RowKit.Below w.heap.size w w1 → Calls Tryd.prog f (#[l[k].v] ++ caps) w1 fun e w2 => e = .returned (.bool (p l[k])) ∧ RowKit.Below w1.heap.size w1 w2) :
    Calls Tryd.prog 74 #[v, .func (.func f) #[] caps] w fun e w' => e = .returned (.bool (l.any p)) ∧ RowKit.Below w.heap.size w w' := by
  obtain ⟨ao, cap, rfl⟩ := hS.form
  have HS := Lib.hid hS
  have HF := Lib.hid hf
  clear hS hf
  go_enter Tryd.func74, Tryd.ntmps74
  go_wp2_with fail
  refine (slIndexE_any l _ f hen caps p _ HS.out hl HF.out).mono ?_
  rintro e w1 ⟨i, rfl, hi, bb⟩
  have D := Lib.hid bb
  have HI := Lib.hid hi
  clear bb hi
  by_cases h0 : 0 ≤ i
  · go_wp2
    go_ret
    exact ⟨ret_bool (by first | (rw [← HI.out]; done) | (rw [← HI.out]; simp [h0])), D.out⟩
  · go_wp2
    go_ret
    exact ⟨ret_bool (by first | (rw [← HI.out]; done) | (rw [← HI.out]; simp [h0])), D.out⟩
end Go.Proofs.YthpljbbhpbijgaaDoor

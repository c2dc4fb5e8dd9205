/- A part of the proofs over this seat's laws: what a function of the program, or of the reference, answers and leaves, told by its theorems below. -/
import Derived.Test.YtiadjglkjcmkpaaDoorIsaRef1
namespace Go.Proofs.YtiadjglkjcmkpaaDoor
set_option linter.unusedSimpArgs false
set_option linter.unusedVariables false
open Go.RowKit Go.Sort

theorem dec_small {u : Nat} (h : u < 10) : Lib.decDigits u = [UInt8.ofNat (48 + u)] := by rw [Lib.decDigits, dif_pos h]
theorem dec_big {u : Nat} (h : ¬ u < 10) : Lib.decDigits u = Lib.decDigits (u / 10) ++ [UInt8.ofNat (48 + u % 10)] := by rw [Lib.decDigits, dif_neg h]
theorem itoa_nn {n : Int} (h : 0 ≤ n) : Lib.itoa n = Lib.decDigits n.toNat := by unfold Lib.itoa; rw [if_neg (by omega)]
theorem itoa_digit (n : Int) (h0 : 0 ≤ n) (h : n < 10) : Lib.itoa n = [UInt8.ofNat (48 + n.toNat)] := by
  rw [itoa_nn h0, dec_small (by omega)]
theorem itoa_pos (n : Int) (h : 10 ≤ n) : Lib.itoa (n / 10) ++ Lib.itoa (n % 10) = Lib.itoa n := by
  rw [itoa_nn (show 0 ≤ n by omega), itoa_nn (show 0 ≤ n / 10 by omega), itoa_nn (show 0 ≤ n % 10 by omega), dec_big (u := n.toNat) (by omega), dec_small (u := (n % 10).toNat) (by omega)]
  rw [show (n / 10).toNat = n.toNat / 10 by omega, show (n % 10).toNat = n.toNat % 10 by omega]
theorem itoa_neg1 (n : Int) (h : n < 0) : 45 :: Lib.itoa (-n) = Lib.itoa n := by
  rw [itoa_nn (show 0 ≤ -n by omega)]; unfold Lib.itoa; rw [if_pos h, show (-n).toNat = n.natAbs by omega]
theorem itoa_neg2 (n : Int) (h : n ≤ -10) (q r : Int) (hq : q = n.tdiv 10) (hr : r = -(n.tmod 10)) : Lib.itoa q ++ Lib.itoa r = Lib.itoa n := by
  have e1 : n = -(-n) := by omega
  have hd : n.tdiv 10 = -((-n) / 10) := by
    rw [e1, Int.neg_tdiv, Int.tdiv_eq_ediv_of_nonneg (by omega)]; simp
  have hm : n.tmod 10 = -((-n) % 10) := by
    rw [e1, Int.neg_tmod, Int.tmod_eq_emod_of_nonneg (by omega)]; simp
  rw [hd] at hq; rw [hm] at hr
  subst hq hr
  rw [← itoa_neg1 n (by omega), ← itoa_neg1 (-((-n) / 10)) (by omega), Int.neg_neg, Int.neg_neg, List.cons_append, itoa_pos (-n) (by omega)]

theorem digit_conv (n : Int) (w : World) (h0 : 0 ≤ n) (h : n < 10) :
    (convert 70 9 (Value.slice (some ⟨w.heap.size, 0, none⟩) 1 1)).run Tryd.prog (w.alloc (.cells #[.int .u8 (48 + n)] 5)) = .ok (.string ⟨[UInt8.ofNat (48 + n.toNat)].toArray⟩) (w.alloc (.cells #[.int .u8 (48 + n)] 5)) := by
  refine run_convert_bytes_back (P := Tryd.prog) (w.alloc (.cells #[.int .u8 (48 + n)] 5)) 70 9 5 ⟨w.heap.size, 0, none⟩ 1 [UInt8.ofNat (48 + n.toNat)] Tryd.underlying70 Tryd.underlying5 Tryd.underlying9 ?_
  intro j hj
  obtain rfl : j = 0 := by simpa using hj
  have : (48 + n.toNat) % 256 = 48 + n.toNat := by omega
  simp [Addr.add, this]
  omega

set_option maxRecDepth 100000 in
theorem dig_small (n : Int) (w : World) (h0 : 0 ≤ n) (h : n < 10) : Calls Tryd.prog 33 #[.int .i64 n] w fun e w' => e = .returned (.string ⟨(Lib.itoa n).toArray⟩) ∧ Below w.heap.size w w' := by
  rw [itoa_digit n h0 h]
  have hc := digit_conv n w h0 h
  go_enter Tryd.func33, Tryd.ntmps33
  go_wp2
  go_ret
  exact ⟨rfl, (by repeat (first | exact Below.refl _ _ | assumption | refine Below.drew ?_ | refine Below.alloc ?_ (by simp) _ | refine Below.setCell ?_ (by simp) _))⟩

set_option maxRecDepth 100000 in
theorem dig_pos (n : Int) (hn : in64 n) (h : 10 ≤ n) (ih : ∀ m : Int, 0 ≤ m → m < n → ∀ w : World, Calls Tryd.prog 33 #[.int .i64 m] w fun e w' => e = .returned (.string ⟨(Lib.itoa m).toArray⟩) ∧ Below w.heap.size w w') (w : World) :
    Calls Tryd.prog 33 #[.int .i64 n] w fun e w' => e = .returned (.string ⟨(Lib.itoa n).toArray⟩) ∧ Below w.heap.size w w' := by
  obtain ⟨hn1, hn2⟩ := hn
  have IH := Lib.hid ih
  clear ih
  have hl1 := Lib.itoa_length_le (n / 10) (by omega) (by omega)
  have hl2 := Lib.itoa_length_le (n % 10) (by omega) (by omega)
  have HE := Lib.hid (itoa_pos n h)
  go_enter Tryd.func33, Tryd.ntmps33
  go_wp2_with fail
  refine (IH.out _ (by omega) (by omega) _).mono ?_
  rintro e w1 ⟨rfl, hb1⟩
  go_wp2_with fail
  refine (IH.out _ (by omega) (by omega) _).mono ?_
  rintro e w2 ⟨rfl, hb2⟩
  go_wp2
  go_ret
  refine ⟨?_, hb1.trans (hb2.mono hb1.size)⟩
  simp [ba_app, HE.out]

set_option maxRecDepth 100000 in
theorem dig_neg1 (n : Int) (h : n < 0) (h2 : -10 < n) (w : World) :
    Calls Tryd.prog 33 #[.int .i64 n] w fun e w' => e = .returned (.string ⟨(Lib.itoa n).toArray⟩) ∧ Below w.heap.size w w' := by
  have hl1 := Lib.itoa_length_le (-n) (by omega) (by omega)
  have HE := Lib.hid (itoa_neg1 n h)
  go_enter Tryd.func33, Tryd.ntmps33
  go_wp2_with fail
  refine (dig_small _ _ (by omega) (by omega)).mono ?_
  rintro e w1 ⟨rfl, hb1⟩
  go_wp2
  go_ret
  refine ⟨?_, hb1⟩
  simp [ba_app1, HE.out]

theorem neg_bounds (n : Int) (h : n < 0) : n ≤ n.tdiv 10 * 10 ∧ n.tdiv 10 * 10 ≤ n + 9 ∧ -9 ≤ n.tmod 10 ∧ n.tmod 10 ≤ 0 := by
  have e1 : n = -(-n) := by omega
  have hd : n.tdiv 10 = -((-n) / 10) := by
    rw [e1, Int.neg_tdiv, Int.tdiv_eq_ediv_of_nonneg (by omega)]; simp
  have hm : n.tmod 10 = -((-n) % 10) := by
    rw [e1, Int.neg_tmod, Int.tmod_eq_emod_of_nonneg (by omega)]; simp
  rw [hd, hm]; omega

set_option maxRecDepth 100000 in
theorem dig_neg2 (n : Int) (hn : in64 n) (h : n ≤ -10) (ih : ∀ m : Int, in64 m → m.natAbs < n.natAbs → ∀ w : World, Calls Tryd.prog 33 #[.int .i64 m] w fun e w' => e = .returned (.string ⟨(Lib.itoa m).toArray⟩) ∧ Below w.heap.size w w') (w : World) :
    Calls Tryd.prog 33 #[.int .i64 n] w fun e w' => e = .returned (.string ⟨(Lib.itoa n).toArray⟩) ∧ Below w.heap.size w w' := by
  obtain ⟨hn1, hn2⟩ := hn
  have IH := Lib.hid ih
  clear ih
  obtain ⟨q1, q2, r1, r2⟩ := neg_bounds n (by omega)
  have HE := Lib.hid (itoa_neg2 n h _ _ rfl rfl)
  have hl1 := Lib.itoa_length_le (n.tdiv 10) (by omega) (by omega)
  have hl2 := Lib.itoa_length_le (-(n.tmod 10)) (by omega) (by omega)
  go_enter Tryd.func33, Tryd.ntmps33
  go_wp2_with fail
  refine (IH.out _ ⟨by omega, by omega⟩ (by omega) _).mono ?_
  rintro e w1 ⟨rfl, hb1⟩
  go_wp2_with fail
  refine (IH.out _ ⟨by omega, by omega⟩ (by omega) _).mono ?_
  rintro e w2 ⟨rfl, hb2⟩
  go_wp2
  go_ret
  refine ⟨?_, hb1.trans (hb2.mono hb1.size)⟩
  simp [ba_app, HE.out]

/-- The reference's Digits is the library's numeral, for every int. -/
theorem digits_any (n : Int) (hn : in64 n) (w : World) :
    Calls Tryd.prog 33 #[.int .i64 n] w fun e w' => e = .returned (.string ⟨(Lib.itoa n).toArray⟩) ∧ Below w.heap.size w w' := by
  suffices h : ∀ k : Nat, ∀ n : Int, in64 n → n.natAbs ≤ k → ∀ w : World, Calls Tryd.prog 33 #[.int .i64 n] w fun e w' => e = .returned (.string ⟨(Lib.itoa n).toArray⟩) ∧ Below w.heap.size w w' from h n.natAbs n hn (Nat.le_refl _) w
  intro k
  induction k with
  | zero =>
    intro n hn hk w
    exact dig_small n w (by omega) (by omega)
  | succ k ih =>
    intro n hn hk w
    by_cases h1 : n ≤ -10
    · exact dig_neg2 n hn h1 (fun m hm hlt w => ih m hm (by omega) w) w
    by_cases h2 : n < 0
    · exact dig_neg1 n h2 (by omega) w
    by_cases h3 : n < 10
    · exact dig_small n w (by omega) h3
    · exact dig_pos n hn (by omega) (fun m h0 hlt w => ih m ⟨by have := hn.1; omega, by have := hn.2; omega⟩ (by omega) w) w

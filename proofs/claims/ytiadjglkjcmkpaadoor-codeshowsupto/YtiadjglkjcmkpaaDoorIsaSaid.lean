/- A part of the proofs over this seat's laws: what a function of the program, or of the reference, answers and leaves, told by its theorems below. -/
import Derived.Test.YtiadjglkjcmkpaaDoorIsaSplit
namespace Go.Proofs.YtiadjglkjcmkpaaDoor
set_option linter.unusedSimpArgs false
set_option linter.unusedVariables false
open Go.RowKit Go.Sort

/-- One digit more, as the reference reckons it: downward, with int's and byte's wraps. -/
def stepZ (z : Int) (b : UInt8) : Int := wrap64 (wrap64 (10 * z) - ((b.toNat : Int) - 48) % 256)
/-- The number that digits may say. -/
def saidF (l : List UInt8) : Int := if l.length = 0 ∨ 20 < l.length then 0 else if l.headD 0 = 45 then l.tail.foldl stepZ 0 else wrap64 (-(l.foldl stepZ 0))

theorem said_out (l : List UInt8) (h : l.length = 0 ∨ 20 < l.length) (w : World) : Calls Tryd.prog 37 #[.string ⟨l.toArray⟩] w fun e w' => e = .returned (.int .i64 0) ∧ w' = w := by
  by_cases h0 : l.length = 0
  · have e0 : ((l.length : Int) == 0) = true := beq_iff_eq.2 (by omega)
    clear h
    go_enter Tryd.func37, Tryd.ntmps37
    go_wp2
    go_ret
    exact ⟨rfl, rfl⟩
  · have e0 : ((l.length : Int) == 0) = false := by rw [beq_eq_false_iff_ne]; omega
    have e1 : (20 : Int) < l.length := by omega
    clear h h0
    go_enter Tryd.func37, Tryd.ntmps37
    go_wp2
    go_ret
    exact ⟨rfl, rfl⟩

set_option maxRecDepth 100000 in
set_option maxHeartbeats 1000000 in
theorem said_in (c : UInt8) (r : List UInt8) (h20 : (c :: r).length ≤ 20) (mb : Bool) (hmb0 : ((c.toNat : Int) == 45) = mb) (w : World) :
    Calls Tryd.prog 37 #[.string ⟨(c :: r).toArray⟩] w fun e w' => e = .returned (.int .i64 (if mb then r.foldl stepZ 0 else wrap64 (-((c :: r).foldl stepZ 0)))) ∧ w' = w := by
  obtain ⟨l, hl⟩ : ∃ l, l = c :: r := ⟨_, rfl⟩
  have h0 : 0 < l.length := by rw [hl]; simp
  have hmb : ((((⟨l.toArray⟩ : ByteArray)[0]'h0).toNat : Int) == 45) = mb := by rw [ba_at l 0 h0]; subst hl; exact hmb0
  have hz : ∀ d, l.drop d = (c :: r).drop d := fun d => by rw [hl]
  rw [← hl] at h20 ⊢
  have HL := Lib.hid hl
  clear hl hmb0 hz
  have e0 : ((l.length : Int) == 0) = false := by rw [beq_eq_false_iff_ne]; omega
  have e20 : ¬ (20 : Int) < l.length := by omega
  obtain ⟨res, hres⟩ : ∃ res : Int, res = (if mb then r.foldl stepZ 0 else wrap64 (-(l.foldl stepZ 0))) := ⟨_, rfl⟩
  rw [← hres]
  have HR := Lib.hid hres
  clear hres
  go_enter Tryd.func37, Tryd.ntmps37
  go_wp2
  go_loop [3, 5] (fun n i => ∃ (k : Nat) (z : Int), k ≤ l.length ∧ i = .int .i64 k ∧ n = .int .i64 z ∧ Hid (z = ((l.take k).drop (if mb then 1 else 0)).foldl stepZ 0)) (fun _ i => l.length - (intOf i).toNat)
  case atStart => exact ⟨0, 0, Nat.zero_le _, rfl, rfl, by show (0 : Int) = _; cases mb <;> simp⟩
  case round =>
    obtain ⟨k, z, hk, rfl, rfl, HZ⟩ := hrel
    by_cases hlt : k < l.length
    · have hsn : l.take (k + 1) = l.take k ++ [l[k]] := by rw [List.take_add_one, List.getElem?_eq_getElem hlt]; rfl
      by_cases hk0 : k = 0
      · subst hk0
        cases mb
        · have HZ2 : Hid (wrap64 (wrap64 (10 * z) - ((((⟨l.toArray⟩ : ByteArray)[0]'h0).toNat : Int) - 48) % 256) = ((l.take (0 + 1)).drop 0).foldl stepZ 0) := by
            show _ = _
            rw [hsn, HZ.out]; rfl
          clear hsn HZ
          go_wp2
          go_round
          case rel => exact ⟨1, _, by omega, by go_num, rfl, HZ2⟩
          case measure => simp [intOf]; omega
        · have HZ2 : Hid (z = ((l.take (0 + 1)).drop 1).foldl stepZ 0) := by
            show _ = _
            rw [HZ.out]; simp
          clear hsn HZ
          go_wp2
          go_round
          case rel => exact ⟨1, _, by omega, by go_num, rfl, HZ2⟩
          case measure => simp [intOf]; omega
      · have hkp : (0 : Int) < k := by omega
        have HZ2 : Hid (wrap64 (wrap64 (10 * z) - ((((⟨l.toArray⟩ : ByteArray)[k]'hlt).toNat : Int) - 48) % 256) = ((l.take (k + 1)).drop (if mb then 1 else 0)).foldl stepZ 0) := by
          show _ = _
          rw [hsn, HZ.out, List.drop_append_of_le_length (by simp; split <;> omega), List.foldl_append]
          rfl
        clear hsn HZ
        go_wp2
        go_round
        case rel => exact ⟨k + 1, _, by omega, by go_num, rfl, HZ2⟩
        case measure => simp [intOf]; omega
    · obtain rfl : k = l.length := by omega
      have hz := HZ.out
      rw [List.take_length] at hz
      have hr := HR.out
      have hl := HL.out
      cases mb
      · have HE : Hid (wrap64 (-z) = res) := by
          show _ = _
          rw [hr, hz]; simp
        clear hz hr hl HZ HR HL
        go_wp2
        go_ret
        exact ⟨ret_int HE.out, rfl⟩
      · have HE : Hid (z = res) := by
          show _ = _
          rw [hr, hz, hl]; simp
        clear hz hr hl HZ HR HL
        go_wp2
        go_ret
        exact ⟨ret_int HE.out, rfl⟩

theorem said_any (l : List UInt8) (w : World) : Calls Tryd.prog 37 #[.string ⟨l.toArray⟩] w fun e w' => e = .returned (.int .i64 (saidF l)) ∧ w' = w := by
  unfold saidF
  by_cases h : l.length = 0 ∨ 20 < l.length
  · rw [if_pos h]; exact said_out l h w
  · rw [if_neg h]
    cases l with
    | nil => simp at h
    | cons c r =>
      refine (said_in c r (by omega) _ rfl w).mono ?_
      rintro e w' ⟨rfl, rfl⟩
      refine ⟨ret_int ?_, rfl⟩
      by_cases hc : c = 45
      · subst hc; rfl
      · have h1 : ((c.toNat : Int) == 45) = false := by
          rw [beq_eq_false_iff_ne]
          intro e
          exact hc (UInt8.toNat_inj.1 (by show c.toNat = 45; omega))
        rw [h1]
        simp [hc]

theorem wrap64_in {z : Int} (h : in64 z) : wrap64 z = z := by
  obtain ⟨h0, h1⟩ := h
  unfold wrap64
  omega

theorem fold_dec (u : Nat) (h : u ≤ 9223372036854775808) : (Lib.decDigits u).foldl stepZ 0 = -(u : Int) := by
  induction u using Nat.strongRecOn with
  | ind u ih =>
    by_cases hs : u < 10
    · rw [dec_small hs]
      simp only [List.foldl_cons, List.foldl_nil, stepZ, digit_toNat u hs]
      rw [wrap64_in (z := 10 * 0) ⟨by decide, by decide⟩, show ((48 + u : Nat) : Int) - 48 = u by omega, Int.emod_eq_of_lt (by omega) (by omega), wrap64_in ⟨by omega, by omega⟩]
      omega
    · rw [dec_big hs, List.foldl_append, ih (u / 10) (by omega) (by omega)]
      simp only [List.foldl_cons, List.foldl_nil, stepZ, digit_toNat (u % 10) (by omega)]
      rw [show ((48 + u % 10 : Nat) : Int) - 48 = (u % 10 : Nat) by omega, Int.emod_eq_of_lt (by omega) (by omega), wrap64_in (z := 10 * _) ⟨by omega, by omega⟩, wrap64_in ⟨by omega, by omega⟩]
      omega

theorem dec_len (k : Nat) : ∀ u : Nat, u < 10 ^ (k + 1) → (Lib.decDigits u).length ≤ k + 1 := by
  induction k with
  | zero => intro u h; rw [dec_small (by simpa using h)]; simp
  | succ k ih =>
    intro u h
    by_cases hs : u < 10
    · rw [dec_small hs]; simp
    · rw [dec_big hs, List.length_append]
      have := ih (u / 10) (by rw [Nat.pow_succ] at h; omega)
      simp; omega

theorem said_itoa (n : Int) (h : in64 n) : saidF (Lib.itoa n) = n := by
  obtain ⟨h0, h1⟩ := h
  unfold saidF
  by_cases hneg : n < 0
  · have e : Lib.itoa n = 45 :: Lib.decDigits n.natAbs := by unfold Lib.itoa; rw [if_pos hneg]
    have hl := dec_len 18 n.natAbs (by omega)
    rw [e, if_neg (by simp; omega)]
    simp only [List.headD_cons, if_true, List.tail_cons]
    rw [fold_dec _ (by omega)]
    omega
  · have e : Lib.itoa n = Lib.decDigits n.toNat := itoa_nn (by omega)
    have hl := dec_len 18 n.toNat (by omega)
    have hd := dec_digits n.toNat
    have hne := dec_ne n.toNat
    have hf := fold_dec n.toNat (by omega)
    rw [e]
    generalize Lib.decDigits n.toNat = d at *
    cases d with
    | nil => exact absurd rfl hne
    | cons c r =>
      have hc := hd c (by simp)
      rw [if_neg (by simp at hl ⊢; omega)]
      have hc45 : c ≠ 45 := by intro e; subst e; revert hc; decide
      rw [if_neg (show ¬ (c :: r).headD 0 = 45 from hc45), hf, wrap64_in ⟨by omega, by omega⟩]
      omega

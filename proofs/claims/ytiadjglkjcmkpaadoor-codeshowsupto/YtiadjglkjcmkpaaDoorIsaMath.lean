/- What is shown is read as it was, of the plain functions: a right instruction's text is cut and spelt back into that instruction. -/
import Derived.Test.YtiadjglkjcmkpaaDoorIsaRead3
namespace Go.Proofs.YtiadjglkjcmkpaaDoor
set_option linter.unusedSimpArgs false
set_option linter.unusedVariables false
open Go.RowKit Go.Sort

theorem index_app (x y : List UInt8) (h : ∀ c ∈ x, c ≠ 32) : Lib.index (x ++ 32 :: y) [32] = x.length := by
  induction x with
  | nil => simp [Lib.index]
  | cons c x ih =>
    have hc : c ≠ 32 := h c (by simp)
    have hi := ih (fun d hd => h d (by simp [hd]))
    rw [List.cons_append, Lib.index]
    rw [if_neg (by simp; exact fun e => hc e.symm), hi, if_neg (by simp)]
    simp
theorem index_no (x : List UInt8) (h : ∀ c ∈ x, c ≠ 32) : Lib.index x [32] = -1 := by
  induction x with
  | nil => simp [Lib.index]
  | cons c x ih =>
    have hc : c ≠ 32 := h c (by simp)
    have hi := ih (fun d hd => h d (by simp [hd]))
    rw [Lib.index, if_neg (by simp; exact fun e => hc e.symm), hi]
    simp
theorem cut_app (x y : List UInt8) (h : ∀ c ∈ x, c ≠ 32) : Lib.cut (x ++ 32 :: y) [32] = (x, y, true) := by
  unfold Lib.cut
  rw [index_app x y h, if_pos (by omega)]
  simp
theorem cut_no (x : List UInt8) (h : ∀ c ∈ x, c ≠ 32) : Lib.cut x [32] = (x, [], false) := by
  unfold Lib.cut
  rw [index_no x h, if_neg (by decide)]

/-- One digit more. -/
def stepU (v : Nat) (c : UInt8) : Lib.NumEnd Nat := Lib.parseUint10 v [c]
theorem parse_snoc : ∀ (l : List UInt8) (acc v : Nat) (c : UInt8), Lib.parseUint10 acc l = .ok v → Lib.parseUint10 acc (l ++ [c]) = stepU v c
  | [], acc, v, c, h => by
    simp only [Lib.parseUint10, Lib.NumEnd.ok.injEq] at h
    subst h; rfl
  | d :: l, acc, v, c, h => by
    rw [List.cons_append]
    simp only [Lib.parseUint10] at h ⊢
    split at h
    · rename_i hd
      rw [if_pos hd]
      split at h
      · cases h
      · rename_i h1
        rw [if_neg h1]
        split at h
        · cases h
        · rename_i h2
          rw [if_neg h2]
          exact parse_snoc l _ v c h
    · cases h

theorem digit_toNat (u : Nat) (h : u < 10) : (UInt8.ofNat (48 + u)).toNat = 48 + u := by
  simp; omega

theorem parse_dec (u : Nat) (h : u < 18446744073709551616) : Lib.parseUint10 0 (Lib.decDigits u) = .ok u := by
  induction u using Nat.strongRecOn with
  | ind u ih =>
    by_cases hs : u < 10
    · rw [dec_small hs]
      simp only [Lib.parseUint10, digit_toNat u hs]
      rw [if_pos (by omega), if_neg (by omega), if_neg (by omega)]
      congr 1; omega
    · rw [dec_big hs, parse_snoc _ _ (u / 10) _ (ih (u / 10) (by omega) (by omega))]
      unfold stepU
      simp only [Lib.parseUint10, digit_toNat (u % 10) (by omega)]
      rw [if_pos (by omega), if_neg (by omega), if_neg (by omega)]
      congr 1; omega

theorem dec_digits (u : Nat) : ∀ c ∈ Lib.decDigits u, 48 ≤ c.toNat ∧ c.toNat ≤ 57 := by
  induction u using Nat.strongRecOn with
  | ind u ih =>
    by_cases hs : u < 10
    · rw [dec_small hs]
      intro c hc
      obtain rfl := List.mem_singleton.1 hc
      rw [digit_toNat u hs]; omega
    · rw [dec_big hs]
      intro c hc
      rcases List.mem_append.1 hc with h | h
      · exact ih (u / 10) (by omega) c h
      · obtain rfl := List.mem_singleton.1 h
        rw [digit_toNat (u % 10) (by omega)]; omega
theorem dec_ne (u : Nat) : Lib.decDigits u ≠ [] := by
  by_cases hs : u < 10
  · rw [dec_small hs]; simp
  · rw [dec_big hs]; simp

theorem atoi_neg (r : List UInt8) (u : Nat) (hr : r ≠ []) (hp : Lib.parseUint10 0 r = .ok u) (hu : u ≤ 9223372036854775808) : Lib.atoiAll (45 :: r) = .ok (-(u : Int)) := by
  have e : Lib.parseMag r = .ok u := by unfold Lib.parseMag; rw [if_neg hr]; exact hp
  unfold Lib.atoiAll
  have e2 : (if (45 : UInt8).toNat = 43 ∨ (45 : UInt8).toNat = 45 then r else 45 :: r) = r := if_pos (Or.inr rfl)
  simp only [e2, e]
  rw [if_neg (fun h => h.1 rfl), if_neg (fun h => by omega), if_pos (show UInt8.toNat 45 = 45 from rfl)]
theorem atoi_pos (c : UInt8) (r : List UInt8) (u : Nat) (hc : 48 ≤ c.toNat) (hp : Lib.parseUint10 0 (c :: r) = .ok u) (hu : u < 9223372036854775808) : Lib.atoiAll (c :: r) = .ok (u : Int) := by
  have e : Lib.parseMag (c :: r) = .ok u := by unfold Lib.parseMag; rw [if_neg (by simp)]; exact hp
  unfold Lib.atoiAll
  have e2 : (if c.toNat = 43 ∨ c.toNat = 45 then r else c :: r) = c :: r := if_neg (by omega)
  simp only [e2, e]
  rw [if_neg (fun h => by omega), if_neg (fun h => by omega), if_neg (by omega)]
theorem atoi_itoa (n : Int) (h : in64 n) : Lib.atoiAll (Lib.itoa n) = .ok n := by
  obtain ⟨h0, h1⟩ := h
  unfold Lib.itoa
  by_cases hneg : n < 0
  · rw [if_pos hneg, atoi_neg _ n.natAbs (dec_ne _) (parse_dec _ (by omega)) (by omega)]
    congr 1; omega
  · rw [if_neg hneg]
    have hp := parse_dec n.toNat (by omega)
    have hd := dec_digits n.toNat
    have hne := dec_ne n.toNat
    generalize Lib.decDigits n.toNat = l at *
    cases l with
    | nil => exact absurd rfl hne
    | cons c r =>
      rw [atoi_pos c r n.toNat (hd c (by simp)).1 hp (by omega)]
      congr 1; omega
theorem num_itoa (n : Int) (h : in64 n) : numOf (Lib.itoa n) = n := by unfold numOf; rw [atoi_itoa n h]

theorem itoa_no32 (n : Int) : ∀ c ∈ Lib.itoa n, c ≠ 32 := by
  intro c hc e
  subst e
  unfold Lib.itoa at hc
  split at hc
  · rcases List.mem_cons.1 hc with h | h
    · revert h; decide
    · have := dec_digits _ _ h; revert this; decide
  · have := dec_digits _ _ hc; revert this; decide
theorem rowW_no32 (k : Nat) (h : k < 16) : ∀ c ∈ rowW k, c ≠ 32 := by
  have : ∀ k, k < 16 → (rowW k).all (fun c => c != 32) = true := by decide
  intro c hc
  have := List.all_eq_true.1 (this k h) c hc
  simpa using this
theorem named_row (k : Nat) (h1 : 1 ≤ k) (h : k < 16) : namedF (rowW k) = k := by
  have : ∀ k, k < 16 → (k = 0 ∨ namedF (rowW k) = k) := by decide +kernel
  rcases this k h with h | h
  · omega
  · exact h

theorem cutS (x y : List UInt8) (h : ∀ c ∈ x, c ≠ 32) : numA (x ++ 32 :: y) = numOf x ∧ rest (x ++ 32 :: y) = y := by
  unfold numA rest; rw [cut_app x y h]; exact ⟨rfl, rfl⟩
theorem cutN (x : List UInt8) (h : ∀ c ∈ x, c ≠ 32) : numA x = numOf x ∧ rest x = [] := by
  unfold numA rest; rw [cut_no x h]; exact ⟨rfl, rfl⟩

/-- What a right instruction is. -/
theorem right_of {op a b n : Int} (h : chkI op a b n = 0) : ∃ k : Nat, op = k ∧ 1 ≤ k ∧ k < 16 ∧ (rowA k = false → a = 0) ∧ (rowB k = false → b = 0) ∧ (rowN k = false → n = 0) := by
  have ho : ¬ (op < 1 ∨ 15 < op) := fun ho => by unfold chkI at h; rw [if_pos ho] at h; omega
  unfold chkI at h
  rw [if_neg ho] at h
  refine ⟨op.toNat, by omega, by omega, by omega, ?_⟩
  unfold chkRow at h
  split at h
  · omega
  · split at h
    · omega
    · rename_i _ h2
      simp only [Bool.or_eq_true, Bool.and_eq_true, Bool.not_eq_true', bne_iff_ne, ne_eq, not_or, not_and, Decidable.not_not] at h2
      exact ⟨fun e => h2.1.1 e, fun e => h2.1.2 e, fun e => h2.2 e⟩

theorem guess_txt (k : Nat) (a b n : Int) (ha : in64 a) (hb : in64 b) (hn : in64 n) (h : chkI k a b n = 0) :
    gK (txt k a b n) = k ∧ gA (txt k a b n) = a ∧ gB (txt k a b n) = b ∧ gN (txt k a b n) = n := by
  obtain ⟨k', e, h1, h2, zA, zB, zN⟩ := right_of h
  obtain rfl : k = k' := by omega
  have w := rowW_no32 k h2
  have ia := itoa_no32 a
  have ib := itoa_no32 b
  have i_n := itoa_no32 n
  have nk := named_row k h1 h2
  have na := num_itoa a ha
  have nb := num_itoa b hb
  have nn := num_itoa n hn
  cases hA : rowA k <;> cases hB : rowB k <;> cases hN : rowN k
  all_goals
    have eK : gK (txt k a b n) = k := by
      unfold gK
      simp only [txt, hA, hB, hN, Bool.false_eq_true, if_false, if_true, List.append_nil, List.append_assoc, List.cons_append]
      first
      | rw [cut_app _ _ w, nk]
      | rw [cut_no _ w, nk]
    have eR : rest (txt k a b n) = (((if rowA k then 32 :: Lib.itoa a else []) ++ (if rowB k then 32 :: Lib.itoa b else [])) ++ (if rowN k then 32 :: Lib.itoa n else [])).drop 1 := by
      simp only [txt, hA, hB, hN, Bool.false_eq_true, if_false, if_true, List.append_nil, List.append_assoc, List.cons_append]
      first
      | (rw [(cutS _ _ w).2]; simp; done)
      | (rw [(cutN _ w).2]; simp; done)
    refine ⟨eK, ?_, ?_, ?_⟩
    all_goals
      simp only [gA, gB, gN, gR1, gR2, eK, eR, hA, hB, hN, Bool.false_eq_true, if_false, if_true, List.append_nil, List.append_assoc, List.cons_append, List.nil_append, List.drop_succ_cons, List.drop_zero]
      try simp only [(cutS _ _ ia).1, (cutS _ _ ia).2, (cutS _ _ ib).1, (cutS _ _ ib).2, (cutN _ ia).1, (cutN _ ib).1, (cutN _ i_n).1, na, nb, nn]
      try (first | exact (zA hA).symm | exact (zB hB).symm | exact (zN hN).symm)

/- Things as bytes, in plain words: what is written is read as it was, and nothing else is. -/
import Derived.Test.YtbkdoohhdkahiaaGreatDoorK3
import Derived.Laws.BitsLemmas
import Derived.Test.YtbkdoohhdkahiaaGreatDoorK22
import Derived.Deep.RegionWith
namespace Go.Proofs.YtbkdoohhdkahiaaGreatDoor
set_option linter.unusedSimpArgs false
set_option linter.unusedVariables false
open Go.RowKit Go.Sort
def by8 (n : Int) : UInt8 := UInt8.ofNat (n % 256).toNat
theorem by8_nat (n : Int) : ((by8 n).toNat : Int) = n % 256 := by
  unfold by8
  rw [UInt8.toNat_ofNat']
  omega
theorem by8_of (m : Int) (b : UInt8) : by8 (m * 256 + b.toNat) = b := by
  have h := by8_nat (m * 256 + b.toNat)
  have hb : b.toNat < 256 := b.toNat_lt
  apply UInt8.toNat_inj.1
  omega
theorem by8_small {n : Int} (h0 : 0 ≤ n) (h1 : n < 256) : ((by8 n).toNat : Int) = n := by rw [by8_nat]; omega
def eight (n : Int) : List UInt8 := [by8 (n / 72057594037927936), by8 (n / 281474976710656), by8 (n / 1099511627776), by8 (n / 4294967296), by8 (n / 16777216), by8 (n / 65536), by8 (n / 256), by8 n]
theorem eight_len (n : Int) : (eight n).length = 8 := rfl
def push (n : Int) (b : UInt8) : Int := IntKind.i64.wrap (n * 256 + b.toNat)
def numL (l : List UInt8) : Int := l.foldl push 0
theorem wrap_in (n : Int) : in64 (IntKind.i64.wrap n) := by
  rw [IntKind.wrap_i64]
  unfold in64
  omega
theorem push_wrap (n : Int) (b : UInt8) : push (IntKind.i64.wrap n) b = IntKind.i64.wrap (n * 256 + b.toNat) := by
  unfold push
  rw [IntKind.wrap_i64, IntKind.wrap_i64, IntKind.wrap_i64]
  omega
theorem or_push (n : Int) (b : UInt8) : bits .or .i64 (IntKind.i64.wrap (n * 256)) (b.toNat : Int) = push n b := by
  have hb : b.toNat < 256 := b.toNat_lt
  have e1 : BitVec.ofInt 64 (IntKind.i64.wrap (n * 256)) = BitVec.ofNat 64 (n * 256 % 18446744073709551616).toNat := by
    apply BitVec.eq_of_toNat_eq
    rw [BitVec.toNat_ofInt, BitVec.toNat_ofNat, IntKind.wrap_i64]
    omega
  have e2 : BitVec.ofInt 64 (b.toNat : Int) = BitVec.ofNat 64 b.toNat := by
    apply BitVec.eq_of_toNat_eq
    rw [BitVec.toNat_ofInt, BitVec.toNat_ofNat]
    omega
  unfold bits push
  show IntKind.i64.wrap (((BitVec.ofInt 64 (IntKind.i64.wrap (n * 256)) ||| BitVec.ofInt 64 (b.toNat : Int)).toNat : Nat) : Int) = _
  rw [e1, e2, BitVec.toNat_or, BitVec.toNat_ofNat, BitVec.toNat_ofNat]
  have hm : b.toNat % 2 ^ 64 = b.toNat := Nat.mod_eq_of_lt (by omega)
  obtain ⟨q, hq⟩ : ∃ q : Nat, (n * 256 % 18446744073709551616).toNat % 2 ^ 64 = 2 ^ 8 * q := ⟨(n * 256 % 18446744073709551616).toNat % 2 ^ 64 / 256, by omega⟩
  rw [hm, hq, ← Nat.two_pow_add_eq_or_of_lt (i := 8) (by omega) q]
  have h2 : ((2 ^ 8 * q + b.toNat : Nat) : Int) = n * 256 % 18446744073709551616 + b.toNat := by omega
  rw [h2, IntKind.wrap_i64, IntKind.wrap_i64]
  omega
theorem div256 (n : Int) (m : Int) (h : 0 < m) : n / (m * 256) = n / m / 256 := by rw [Int.ediv_ediv_of_nonneg (by omega)]
theorem numL_eight {n : Int} (h : in64 n) : numL (eight n) = n := by
  have e : numL (eight n) = IntKind.i64.wrap (((((((((0 * 256 + (by8 (n / 72057594037927936)).toNat) * 256 + (by8 (n / 281474976710656)).toNat) * 256 + (by8 (n / 1099511627776)).toNat) * 256 + (by8 (n / 4294967296)).toNat) * 256 + (by8 (n / 16777216)).toNat) * 256 + (by8 (n / 65536)).toNat) * 256 + (by8 (n / 256)).toNat) * 256) + (by8 n).toNat) := by
    show push (push (push (push (push (push (push (push 0 _) _) _) _) _) _) _) _ = _
    rw [show push 0 (by8 (n / 72057594037927936)) = IntKind.i64.wrap (0 * 256 + (by8 (n / 72057594037927936)).toNat) from rfl, push_wrap, push_wrap, push_wrap, push_wrap, push_wrap, push_wrap, push_wrap]
  rw [e]
  rw [by8_nat, by8_nat, by8_nat, by8_nat, by8_nat, by8_nat, by8_nat, by8_nat]
  rw [show (72057594037927936 : Int) = 281474976710656 * 256 by rfl, div256 n 281474976710656 (by decide), show (281474976710656 : Int) = 1099511627776 * 256 by rfl, div256 n 1099511627776 (by decide), show (1099511627776 : Int) = 4294967296 * 256 by rfl, div256 n 4294967296 (by decide), show (4294967296 : Int) = 16777216 * 256 by rfl, div256 n 16777216 (by decide), show (16777216 : Int) = 65536 * 256 by rfl, div256 n 65536 (by decide), show (65536 : Int) = 256 * 256 by rfl, div256 n 256 (by decide)]
  unfold in64 at h
  generalize h1 : n / 256 = q1
  generalize h2 : q1 / 256 = q2
  generalize h3 : q2 / 256 = q3
  generalize h4 : q3 / 256 = q4
  generalize h5 : q4 / 256 = q5
  generalize h6 : q5 / 256 = q6
  generalize h7 : q6 / 256 = q7
  have e0 : n % 256 = n - 256 * q1 := by omega
  have e1 : q1 % 256 = q1 - 256 * q2 := by omega
  have e2 : q2 % 256 = q2 - 256 * q3 := by omega
  have e3 : q3 % 256 = q3 - 256 * q4 := by omega
  have e4 : q4 % 256 = q4 - 256 * q5 := by omega
  have e5 : q5 % 256 = q5 - 256 * q6 := by omega
  have e6 : q6 % 256 = q6 - 256 * q7 := by omega
  have e7 : q7 % 256 = q7 - 256 * (q7 / 256) := by omega
  rw [e0, e1, e2, e3, e4, e5, e6, e7]
  generalize q7 / 256 = q8
  clear h1 h2 h3 h4 h5 h6 h7 e0 e1 e2 e3 e4 e5 e6 e7 e
  rw [show (((((((((0 : Int) * 256 + (q7 - 256 * q8)) * 256 + (q6 - 256 * q7)) * 256 + (q5 - 256 * q6)) * 256 + (q4 - 256 * q5)) * 256 + (q3 - 256 * q4)) * 256 + (q2 - 256 * q3)) * 256 + (q1 - 256 * q2)) * 256) + (n - 256 * q1) = n - 18446744073709551616 * q8 by omega]
  rw [IntKind.wrap_i64]
  omega
theorem eight_numL {l : List UInt8} (h : l.length = 8) : eight (numL l) = l := by
  match l, h with
  | [b7, b6, b5, b4, b3, b2, b1, b0], _ =>
    have e : numL [b7, b6, b5, b4, b3, b2, b1, b0] = IntKind.i64.wrap (((((((((0 * 256 + (b7.toNat : Int)) * 256 + b6.toNat) * 256 + b5.toNat) * 256 + b4.toNat) * 256 + b3.toNat) * 256 + b2.toNat) * 256 + b1.toNat) * 256) + b0.toNat) := by
      show push (push (push (push (push (push (push (push 0 _) _) _) _) _) _) _) _ = _
      rw [show push 0 b7 = IntKind.i64.wrap (0 * 256 + b7.toNat) from rfl, push_wrap, push_wrap, push_wrap, push_wrap, push_wrap, push_wrap, push_wrap]
    rw [e]
    have hw : ∀ x : Int, ∃ t : Int, IntKind.i64.wrap x = x + 18446744073709551616 * t := fun x => ⟨(IntKind.i64.wrap x - x) / 18446744073709551616, by rw [IntKind.wrap_i64]; omega⟩
    obtain ⟨t, ht⟩ := hw (((((((((0 * 256 + (b7.toNat : Int)) * 256 + b6.toNat) * 256 + b5.toNat) * 256 + b4.toNat) * 256 + b3.toNat) * 256 + b2.toNat) * 256 + b1.toNat) * 256) + b0.toNat)
    rw [ht]
    have p7 : b7.toNat < 256 := b7.toNat_lt
    have p6 : b6.toNat < 256 := b6.toNat_lt
    have p5 : b5.toNat < 256 := b5.toNat_lt
    have p4 : b4.toNat < 256 := b4.toNat_lt
    have p3 : b3.toNat < 256 := b3.toNat_lt
    have p2 : b2.toNat < 256 := b2.toNat_lt
    have p1 : b1.toNat < 256 := b1.toNat_lt
    have p0 : b0.toNat < 256 := b0.toNat_lt
    obtain ⟨m7, g7⟩ : ∃ m7 : Int, m7 = t := ⟨_, rfl⟩
    obtain ⟨m6, g6⟩ : ∃ m6 : Int, m6 = m7 * 256 + b7.toNat := ⟨_, rfl⟩
    obtain ⟨m5, g5⟩ : ∃ m5 : Int, m5 = m6 * 256 + b6.toNat := ⟨_, rfl⟩
    obtain ⟨m4, g4⟩ : ∃ m4 : Int, m4 = m5 * 256 + b5.toNat := ⟨_, rfl⟩
    obtain ⟨m3, g3⟩ : ∃ m3 : Int, m3 = m4 * 256 + b4.toNat := ⟨_, rfl⟩
    obtain ⟨m2, g2⟩ : ∃ m2 : Int, m2 = m3 * 256 + b3.toNat := ⟨_, rfl⟩
    obtain ⟨m1, g1⟩ : ∃ m1 : Int, m1 = m2 * 256 + b2.toNat := ⟨_, rfl⟩
    obtain ⟨m0, g0⟩ : ∃ m0 : Int, m0 = m1 * 256 + b1.toNat := ⟨_, rfl⟩
    rw [show (((((((((0 : Int) * 256 + b7.toNat) * 256 + b6.toNat) * 256 + b5.toNat) * 256 + b4.toNat) * 256 + b3.toNat) * 256 + b2.toNat) * 256 + b1.toNat) * 256) + b0.toNat + 18446744073709551616 * t = m0 * 256 + b0.toNat by omega]
    clear ht hw e
    have d1 : (m0 * 256 + b0.toNat) / 256 = m0 := by omega
    have d2 : m0 / 256 = m1 := by omega
    have d3 : m1 / 256 = m2 := by omega
    have d4 : m2 / 256 = m3 := by omega
    have d5 : m3 / 256 = m4 := by omega
    have d6 : m4 / 256 = m5 := by omega
    have d7 : m5 / 256 = m6 := by omega
    unfold eight
    rw [show (72057594037927936 : Int) = 281474976710656 * 256 by rfl, div256 _ 281474976710656 (by decide), show (281474976710656 : Int) = 1099511627776 * 256 by rfl, div256 _ 1099511627776 (by decide), show (1099511627776 : Int) = 4294967296 * 256 by rfl, div256 _ 4294967296 (by decide), show (4294967296 : Int) = 16777216 * 256 by rfl, div256 _ 16777216 (by decide), show (16777216 : Int) = 65536 * 256 by rfl, div256 _ 65536 (by decide), show (65536 : Int) = 256 * 256 by rfl, div256 _ 256 (by decide)]
    rw [d1, d2, d3, d4, d5, d6, d7, by8_of m1 b1 |> fun h => (g0 ▸ h : by8 m0 = b1), by8_of m2 b2 |> fun h => (g1 ▸ h : by8 m1 = b2), by8_of m3 b3 |> fun h => (g2 ▸ h : by8 m2 = b3), by8_of m4 b4 |> fun h => (g3 ▸ h : by8 m3 = b4), by8_of m5 b5 |> fun h => (g4 ▸ h : by8 m4 = b5), by8_of m6 b6 |> fun h => (g5 ▸ h : by8 m5 = b6), by8_of m7 b7 |> fun h => (g6 ▸ h : by8 m6 = b7), by8_of]
structure Cod (α : Type) where
  enc : α → List UInt8
  dec : List UInt8 → Option (α × List UInt8)
  eye : List UInt8 → α × List UInt8
  good : α → Prop
structure Cod.Ok {α : Type} (C : Cod α) : Prop where
  de : ∀ a r, C.good a → C.dec (C.enc a ++ r) = some (a, r)
  ed : ∀ l a r, C.dec l = some (a, r) → l = C.enc a ++ r
  eg : ∀ l a r, C.dec l = some (a, r) → C.good a
  le : ∀ l a r, C.dec l = some (a, r) → C.eye l = (a, r)
  lg : ∀ l, C.good (C.eye l).1
def decB : List UInt8 → Option (Int × List UInt8)
  | [] => none
  | b :: r => some ((b.toNat : Int), r)
def eyeB : List UInt8 → Int × List UInt8
  | [] => (0, [])
  | b :: r => ((b.toNat : Int), r)
def cB : Cod Int := ⟨fun n => [by8 n], decB, eyeB, fun n => 0 ≤ n ∧ n < 256⟩
theorem cB_ok : cB.Ok where
  de := fun a r h => by
    show some (((by8 a).toNat : Int), r) = _
    rw [by8_small h.1 h.2]
  ed := fun l a r h => by
    match l, h with
    | b :: q, h =>
      injection h with h
      injection h with h1 h2
      subst h1
      subst h2
      have := by8_of 0 b
      rw [Int.zero_mul, Int.zero_add] at this
      show b :: q = [by8 (b.toNat : Int)] ++ q
      rw [this]
      rfl
  eg := fun l a r h => by
    match l, h with
    | b :: q, h =>
      injection h with h
      injection h with h1 h2
      subst h1
      have : b.toNat < 256 := b.toNat_lt
      exact ⟨by omega, by omega⟩
  le := fun l a r h => by
    match l, h with
    | b :: q, h =>
      injection h with h
  lg := fun l => by
    match l with
    | [] => exact ⟨by decide, by decide⟩
    | b :: q =>
      have : b.toNat < 256 := b.toNat_lt
      exact ⟨Int.natCast_nonneg _, by show (b.toNat : Int) < 256; omega⟩
def decN (l : List UInt8) : Option (Int × List UInt8) := if 8 ≤ l.length then some (numL (l.take 8), l.drop 8) else none
def eyeN : Nat → List UInt8 → Int × List UInt8
  | 0, l => (0, l)
  | k + 1, l => (IntKind.i64.wrap ((eyeN k l).1 * 256 + (eyeB (eyeN k l).2).1), (eyeB (eyeN k l).2).2)
theorem numL_in (l : List UInt8) : in64 (numL l) := by
  unfold numL
  rcases List.eq_nil_or_concat l with rfl | ⟨q, b, rfl⟩
  · exact ⟨by decide, by decide⟩
  · rw [List.concat_eq_append, List.foldl_append]
    exact wrap_in _
def cN : Cod Int := ⟨eight, decN, eyeN 8, in64⟩
theorem cN_ok : cN.Ok where
  de := fun a r h => by
    show decN (eight a ++ r) = _
    unfold decN
    rw [if_pos (by rw [List.length_append, eight_len]; omega), List.take_left' (eight_len a), List.drop_left' (eight_len a), numL_eight h]
  ed := fun l a r h => by
    have h : decN l = some (a, r) := h
    unfold decN at h
    split at h
    · rename_i hl
      injection h with h
      injection h with h1 h2
      subst h1
      subst h2
      show l = eight (numL (l.take 8)) ++ l.drop 8
      rw [eight_numL (by rw [List.length_take]; omega), List.take_append_drop]
    · cases h
  eg := fun l a r h => by
    have h : decN l = some (a, r) := h
    unfold decN at h
    split at h
    · injection h with h
      injection h with h1 h2
      subst h1
      exact numL_in _
    · cases h
  le := fun l a r h => by
    have h : decN l = some (a, r) := h
    match l, h with
    | b7 :: b6 :: b5 :: b4 :: b3 :: b2 :: b1 :: b0 :: q, h =>
      unfold decN at h
      rw [if_pos (by simp)] at h
      injection h with h
  lg := fun l => wrap_in _
def Cod.pr {α β : Type} (A : Cod α) (B : Cod β) : Cod (α × β) where
  enc p := A.enc p.1 ++ B.enc p.2
  dec l := match A.dec l with
    | none => none
    | some (a, r) => match B.dec r with
      | none => none
      | some (b, q) => some ((a, b), q)
  eye l := (((A.eye l).1, (B.eye (A.eye l).2).1), (B.eye (A.eye l).2).2)
  good p := A.good p.1 ∧ B.good p.2
section
variable {α β : Type} {A : Cod α} {B : Cod β} {l r q : List UInt8} {a : α} {b : β}
theorem pr_none1 (h : A.dec l = none) : (A.pr B).dec l = none := by simp [Cod.pr, h]
theorem pr_none2 (h : A.dec l = some (a, r)) (h' : B.dec r = none) : (A.pr B).dec l = none := by simp [Cod.pr, h, h']
theorem pr_some (h : A.dec l = some (a, r)) (h' : B.dec r = some (b, q)) : (A.pr B).dec l = some ((a, b), q) := by simp [Cod.pr, h, h']
theorem pr_is {p : α × β} (h : (A.pr B).dec l = some (p, q)) : ∃ r, A.dec l = some (p.1, r) ∧ B.dec r = some (p.2, q) := by
  cases h1 : A.dec l with
  | none => rw [pr_none1 h1] at h; cases h
  | some x =>
    obtain ⟨a, r⟩ := x
    cases h2 : B.dec r with
    | none => rw [pr_none2 h1 h2] at h; cases h
    | some y =>
      obtain ⟨b, q'⟩ := y
      rw [pr_some h1 h2] at h
      injection h with h
      injection h with e1 e2
      subst e1
      subst e2
      exact ⟨r, rfl, h2⟩
end
theorem Cod.Ok.pr {α β : Type} {A : Cod α} {B : Cod β} (hA : A.Ok) (hB : B.Ok) : (A.pr B).Ok where
  de := fun p r h => by
    show (A.pr B).dec ((A.enc p.1 ++ B.enc p.2) ++ r) = _
    rw [List.append_assoc]
    exact pr_some (hA.de _ _ h.1) (hB.de _ _ h.2)
  ed := fun l p q h => by
    obtain ⟨r, h1, h2⟩ := pr_is h
    rw [hA.ed _ _ _ h1, hB.ed _ _ _ h2, ← List.append_assoc]
    rfl
  eg := fun l p q h => by
    obtain ⟨r, h1, h2⟩ := pr_is h
    exact ⟨hA.eg _ _ _ h1, hB.eg _ _ _ h2⟩
  le := fun l p q h => by
    obtain ⟨r, h1, h2⟩ := pr_is h
    show (((A.eye l).1, (B.eye (A.eye l).2).1), (B.eye (A.eye l).2).2) = _
    rw [hA.le _ _ _ h1]
    show ((p.1, (B.eye r).1), (B.eye r).2) = _
    rw [hB.le _ _ _ h2]
  lg := fun l => ⟨hA.lg _, hB.lg _⟩
def Cod.im {α β : Type} (A : Cod α) (f : α → β) (g : β → α) : Cod β where
  enc b := A.enc (g b)
  dec l := match A.dec l with
    | none => none
    | some (a, r) => some (f a, r)
  eye l := (f (A.eye l).1, (A.eye l).2)
  good b := A.good (g b)
theorem im_none {α β : Type} {A : Cod α} {f : α → β} {g : β → α} {l : List UInt8} (h : A.dec l = none) : (A.im f g).dec l = none := by simp [Cod.im, h]
theorem im_some {α β : Type} {A : Cod α} {f : α → β} {g : β → α} {l r : List UInt8} {a : α} (h : A.dec l = some (a, r)) : (A.im f g).dec l = some (f a, r) := by simp [Cod.im, h]
theorem im_is {α β : Type} {A : Cod α} {f : α → β} {g : β → α} {l r : List UInt8} {b : β} (h : (A.im f g).dec l = some (b, r)) : ∃ a, b = f a ∧ A.dec l = some (a, r) := by
  cases h1 : A.dec l with
  | none => rw [im_none h1] at h; cases h
  | some x =>
    obtain ⟨a, q⟩ := x
    rw [im_some h1] at h
    injection h with h
    injection h with e1 e2
    subst e2
    exact ⟨a, e1.symm, rfl⟩
theorem Cod.Ok.im {α β : Type} {A : Cod α} (hA : A.Ok) {f : α → β} {g : β → α} (h1 : ∀ a, g (f a) = a) (h2 : ∀ b, f (g b) = b) : (A.im f g).Ok where
  de := fun b r h => by
    show (A.im f g).dec (A.enc (g b) ++ r) = _
    rw [im_some (hA.de _ _ h), h2]
  ed := fun l b r h => by
    obtain ⟨a, rfl, h'⟩ := im_is h
    show l = A.enc (g (f a)) ++ r
    rw [h1]
    exact hA.ed _ _ _ h'
  eg := fun l b r h => by
    obtain ⟨a, rfl, h'⟩ := im_is h
    show A.good (g (f a))
    rw [h1]
    exact hA.eg _ _ _ h'
  le := fun l b r h => by
    obtain ⟨a, rfl, h'⟩ := im_is h
    show (f (A.eye l).1, (A.eye l).2) = _
    rw [hA.le _ _ _ h']
  lg := fun l => by
    show A.good (g (f (A.eye l).1))
    rw [h1]
    exact hA.lg _
def manyD {α : Type} (A : Cod α) : Nat → List UInt8 → Option (List α × List UInt8)
  | 0, l => some ([], l)
  | n + 1, l => match manyD A n l with
    | none => none
    | some (ds, q) => match A.dec q with
      | none => none
      | some (d, r) => some (ds ++ [d], r)
def manyE {α : Type} (A : Cod α) : Nat → List UInt8 → List α × List UInt8
  | 0, l => ([], l)
  | n + 1, l => ((manyE A n l).1 ++ [(A.eye (manyE A n l).2).1], (A.eye (manyE A n l).2).2)
section
variable {α : Type} {A : Cod α} {n m : Nat} {l q r : List UInt8} {ds : List α} {d : α}
theorem many_none (h : manyD A n l = none) : manyD A (n + 1) l = none := by simp [manyD, h]
theorem many_no (h : manyD A n l = some (ds, q)) (h' : A.dec q = none) : manyD A (n + 1) l = none := by simp [manyD, h, h']
theorem many_yes (h : manyD A n l = some (ds, q)) (h' : A.dec q = some (d, r)) : manyD A (n + 1) l = some (ds ++ [d], r) := by simp [manyD, h, h']
theorem many_later (h : manyD A n l = none) (hm : n ≤ m) : manyD A m l = none := by
  induction m with
  | zero => obtain rfl : n = 0 := by omega
            exact h
  | succ m ih =>
    by_cases e : n = m + 1
    · exact e ▸ h
    · exact many_none (ih (by omega))
theorem many_is (h : manyD A (n + 1) l = some (ds, r)) : ∃ es d q, ds = es ++ [d] ∧ manyD A n l = some (es, q) ∧ A.dec q = some (d, r) := by
  cases h1 : manyD A n l with
  | none => rw [many_none h1] at h; cases h
  | some x =>
    obtain ⟨es, q⟩ := x
    cases h2 : A.dec q with
    | none => rw [many_no h1 h2] at h; cases h
    | some y =>
      obtain ⟨d, r'⟩ := y
      rw [many_yes h1 h2] at h
      injection h with h
      injection h with e1 e2
      subst e1
      subst e2
      exact ⟨es, d, q, rfl, rfl, h2⟩
theorem many_len : ∀ {n : Nat} {ds : List α} {r : List UInt8}, manyD A n l = some (ds, r) → ds.length = n
  | 0, ds, r, h => by injection h with h; injection h with e1 e2; subst e1; rfl
  | n + 1, ds, r, h => by
    obtain ⟨es, d, q, rfl, h1, _⟩ := many_is h
    rw [List.length_append, many_len h1]
    rfl
theorem many_ed (hA : A.Ok) : ∀ {n : Nat} {ds : List α} {r : List UInt8}, manyD A n l = some (ds, r) → l = ds.flatMap A.enc ++ r
  | 0, ds, r, h => by injection h with h; injection h with e1 e2; subst e1; subst e2; rfl
  | n + 1, ds, r, h => by
    obtain ⟨es, d, q, rfl, h1, h2⟩ := many_is h
    rw [many_ed hA h1, hA.ed _ _ _ h2]
    simp
theorem many_eg (hA : A.Ok) : ∀ {n : Nat} {ds : List α} {r : List UInt8}, manyD A n l = some (ds, r) → ∀ d ∈ ds, A.good d
  | 0, ds, r, h => by injection h with h; injection h with e1 e2; subst e1; exact fun d hd => by cases hd
  | n + 1, ds, r, h => by
    obtain ⟨es, d, q, rfl, h1, h2⟩ := many_is h
    intro x hx
    rcases List.mem_append.1 hx with hx | hx
    · exact many_eg hA h1 x hx
    · rw [List.mem_singleton.1 hx]
      exact hA.eg _ _ _ h2
theorem many_le (hA : A.Ok) : ∀ {n : Nat} {ds : List α} {r : List UInt8}, manyD A n l = some (ds, r) → manyE A n l = (ds, r)
  | 0, ds, r, h => by injection h
  | n + 1, ds, r, h => by
    obtain ⟨es, d, q, rfl, h1, h2⟩ := many_is h
    show ((manyE A n l).1 ++ [(A.eye (manyE A n l).2).1], (A.eye (manyE A n l).2).2) = _
    rw [many_le hA h1]
    show (es ++ [(A.eye q).1], (A.eye q).2) = _
    rw [hA.le _ _ _ h2]
theorem manyE_len (A : Cod α) (l : List UInt8) : ∀ n, (manyE A n l).1.length = n
  | 0 => rfl
  | n + 1 => by
    show ((manyE A n l).1 ++ [(A.eye (manyE A n l).2).1]).length = _
    rw [List.length_append, manyE_len A l n]
    rfl
theorem manyE_good (hA : A.Ok) (l : List UInt8) : ∀ n, ∀ d ∈ (manyE A n l).1, A.good d
  | 0 => fun d hd => by cases hd
  | n + 1 => fun x hx => by
    rcases List.mem_append.1 (show x ∈ (manyE A n l).1 ++ [(A.eye (manyE A n l).2).1] from hx) with hx | hx
    · exact manyE_good hA l n x hx
    · rw [List.mem_singleton.1 hx]
      exact hA.lg _
theorem many_de (hA : A.Ok) : ∀ {ds : List α} (_ : ∀ d ∈ ds, A.good d) (k : Nat) (_ : k ≤ ds.length) (r : List UInt8), manyD A k (ds.flatMap A.enc ++ r) = some (ds.take k, (ds.drop k).flatMap A.enc ++ r)
  | ds, _, 0, _, r => rfl
  | ds, h, k + 1, hk, r => by
    have h1 := many_de hA h k (by omega) r
    have hd : ds.drop k = ds[k] :: ds.drop (k + 1) := List.drop_eq_getElem_cons (by omega)
    rw [hd, List.flatMap_cons, List.append_assoc] at h1
    rw [many_yes h1 (hA.de _ _ (h _ (List.getElem_mem _))), List.take_add_one, List.getElem?_eq_getElem (by omega)]
    rfl
end
def Cod.ls {α : Type} (A : Cod α) : Cod (List α) where
  enc ds := by8 ds.length :: ds.flatMap A.enc
  dec l := match l with
    | [] => none
    | b :: r => manyD A b.toNat r
  eye l := manyE A (eyeB l).1.toNat (eyeB l).2
  good ds := ds.length < 256 ∧ ∀ d ∈ ds, A.good d
theorem eyeB_range (l : List UInt8) : 0 ≤ (eyeB l).1 ∧ (eyeB l).1 < 256 := by
  match l with
  | [] => exact ⟨by decide, by decide⟩
  | b :: q =>
    have : b.toNat < 256 := b.toNat_lt
    exact ⟨Int.natCast_nonneg _, by show (b.toNat : Int) < 256; omega⟩
theorem Cod.Ok.ls {α : Type} {A : Cod α} (hA : A.Ok) : A.ls.Ok where
  de := fun ds r h => by
    have hn : (by8 ds.length).toNat = ds.length := by
      have := by8_small (n := ds.length) (by omega) (by have := h.1; omega)
      omega
    show manyD A (by8 ds.length).toNat (ds.flatMap A.enc ++ r) = _
    rw [hn, many_de hA h.2 ds.length (Nat.le_refl _) r, List.take_length, List.drop_length]
    rfl
  ed := fun l ds r h => by
    match l, h with
    | b :: q, h =>
      have h : manyD A b.toNat q = some (ds, r) := h
      show b :: q = by8 ds.length :: ds.flatMap A.enc ++ r
      have := by8_of 0 b
      rw [Int.zero_mul, Int.zero_add] at this
      rw [many_len h, this, many_ed hA h]
      rfl
  eg := fun l ds r h => by
    match l, h with
    | b :: q, h =>
      have h : manyD A b.toNat q = some (ds, r) := h
      have : b.toNat < 256 := b.toNat_lt
      exact ⟨by rw [many_len h]; exact this, many_eg hA h⟩
  le := fun l ds r h => by
    match l, h with
    | b :: q, h =>
      have h : manyD A b.toNat q = some (ds, r) := h
      show manyE A ((b.toNat : Int)).toNat q = _
      rw [Int.toNat_natCast]
      exact many_le hA h
  lg := fun l => ⟨by have := eyeB_range l; show (manyE A (eyeB l).1.toNat (eyeB l).2).1.length < 256; rw [manyE_len]; omega, manyE_good hA _ _⟩
def cI : Cod Ins := (cB.pr (cB.pr (cB.pr cN))).im (fun p => ⟨p.1, p.2.1, p.2.2.1, p.2.2.2⟩) (fun i => (i.op, i.a, i.b, i.n))
def cP : Cod Prt := (cI.ls.pr cN.ls).im (fun p => ⟨p.1, p.2⟩) (fun p => (p.code, p.inn))
def cC : Cod Chn := (cB.pr (cB.pr cB)).im (fun p => ⟨p.1, p.2.1, p.2.2⟩) (fun c => (c.kd, c.fr, c.tt))
def cT : Cod Slt := (cB.pr cB).im (fun p => ⟨p.1, p.2⟩) (fun t => (t.pt, t.tk))
def cS : Cod SysD := (cP.ls.pr (cC.ls.pr cT.ls)).im (fun p => ⟨p.1, p.2.1, p.2.2⟩) (fun s => (s.parts, s.chans, s.slots))
theorem cI_ok : cI.Ok := (cB_ok.pr (cB_ok.pr (cB_ok.pr cN_ok))).im (fun _ => rfl) (fun _ => rfl)
theorem cP_ok : cP.Ok := (cI_ok.ls.pr cN_ok.ls).im (fun _ => rfl) (fun _ => rfl)
theorem cC_ok : cC.Ok := (cB_ok.pr (cB_ok.pr cB_ok)).im (fun _ => rfl) (fun _ => rfl)
theorem cT_ok : cT.Ok := (cB_ok.pr cB_ok).im (fun _ => rfl) (fun _ => rfl)
theorem cS_ok : cS.Ok := (cP_ok.ls.pr (cC_ok.ls.pr cT_ok.ls)).im (fun _ => rfl) (fun _ => rfl)
end Go.Proofs.YtbkdoohhdkahiaaGreatDoor
namespace Go.Proofs.YtbkdoohhdkahiaaGreatDoor
set_option linter.unusedSimpArgs false
set_option linter.unusedVariables false
open Go.RowKit Go.Sort
theorem liesPaper : LiesB 110 := ⟨by kernel_rfl, by decide⟩
def Pap (B b : Nat) (l : List UInt8) (w : World) : Prop := Lib.IsBuilder 110 5 B b (Lib.byteCells l) w ∧ B ≤ w.heap.size
theorem Pap.up {B b : Nat} {l : List UInt8} {w w' : World} (h : Pap B b l w) (hb : Below w.heap.size w w') : Pap B b l w' := ⟨bld_up h.1 hb, Nat.le_trans h.2 hb.size⟩
theorem Pap.alloc {B b : Nat} {l : List UInt8} {w : World} (h : Pap B b l w) (o : Obj) : Pap B b l (w.alloc o) := h.up ((Below.refl _ _).alloc (Nat.le_refl _) _)
theorem byteCells_one (b : UInt8) : Lib.byteCells [b] = [.int .u8 b.toNat] := rfl
theorem wrap8 (n : Int) : IntKind.u8.wrap n = ((by8 n).toNat : Int) := by rw [by8_nat, IntKind.wrap_u8]
set_option maxRecDepth 100000 in
set_option maxHeartbeats 1000000 in
theorem small_any (B b : Nat) (l : List UInt8) (n : Int) (w : World) (h : Pap B b l w) (hl : l.length ≤ 1000000) :
    Calls Tryz.prog 138 #[.pointer (some ⟨b, 0, none⟩), .int .i64 n] w fun e w' => e = .returned (.tuple #[]) ∧ Pap B b (l ++ [by8 n]) w' ∧ Wr B b w w' := by
  have hw := wrap8 n
  have H := Lib.hid h
  clear h
  go_enter Tryz.func138, Tryz.ntmps138
  go_wp2_with fail
  refine (writeByte_any _ liesPaper B b (Lib.byteCells l) _ _ H.out.1 (by rw [Lib.byteCells_length]; omega) H.out.2).mono ?_
  rintro e w1 ⟨rfl, h1, hb1⟩
  go_wp2
  go_end0
  exact ⟨rfl, ⟨by rw [byteCells_app, byteCells_one]; exact h1, Nat.le_trans H.out.2 hb1.size⟩, hb1⟩
end Go.Proofs.YtbkdoohhdkahiaaGreatDoor
namespace Go.Proofs.YtbkdoohhdkahiaaGreatDoor
set_option linter.unusedSimpArgs false
set_option linter.unusedVariables false
open Go.RowKit Go.Sort
theorem eight_at {n : Int} : ∀ k (h : k < 8), (eight n)[k]'(by rw [eight_len]; exact h) = by8 (n.fdiv (2 ^ (56 - 8 * k)))
  | 0, _ => by rw [Int.fdiv_eq_ediv_of_nonneg _ (by decide)]; rfl
  | 1, _ => by rw [Int.fdiv_eq_ediv_of_nonneg _ (by decide)]; rfl
  | 2, _ => by rw [Int.fdiv_eq_ediv_of_nonneg _ (by decide)]; rfl
  | 3, _ => by rw [Int.fdiv_eq_ediv_of_nonneg _ (by decide)]; rfl
  | 4, _ => by rw [Int.fdiv_eq_ediv_of_nonneg _ (by decide)]; rfl
  | 5, _ => by rw [Int.fdiv_eq_ediv_of_nonneg _ (by decide)]; rfl
  | 6, _ => by rw [Int.fdiv_eq_ediv_of_nonneg _ (by decide)]; rfl
  | 7, _ => by rw [show 56 - 8 * 7 = 0 from rfl, Int.pow_zero, Int.fdiv_one]; rfl
theorem take_snocU (l : List UInt8) (k : Nat) (h : k < l.length) : l.take (k + 1) = l.take k ++ [l[k]] := by rw [List.take_add_one, List.getElem?_eq_getElem h]; rfl
set_option maxRecDepth 100000 in
set_option maxHeartbeats 2000000 in
theorem pnumber_any (B b : Nat) (l : List UInt8) (n : Int) (w : World) (h : Pap B b l w) (hl : l.length ≤ 900000) :
    Calls Tryz.prog 142 #[.pointer (some ⟨b, 0, none⟩), .int .i64 n] w fun e w' => e = .returned (.tuple #[]) ∧ Pap B b (l ++ eight n) w' ∧ Wr B b w w' := by
  have H := Lib.hid h
  have HL := Lib.hid hl
  clear h hl
  go_enter Tryz.func142, Tryz.ntmps142
  go_wp2
  go_loopw [4] (fun i wr => ∃ k : Nat, i = .int .i64 (56 - 8 * (k : Int)) ∧ k ≤ 8 ∧ Hid (Pap B b (l ++ (eight n).take k) wr) ∧ Hid (Wr B b w wr)) (fun i _ => (intOf i + 8).toNat)
  case atStart => exact ⟨0, rfl, by omega, by rw [List.take_zero, List.append_nil]; exact H, Lib.hid (Wr.refl _ _ _)⟩
  case round =>
    obtain ⟨k, rfl, hk, HP, HB⟩ := hrel
    by_cases hlt : k < 8
    · have h0 : (0 : Int) ≤ 56 - 8 * (k : Int) := by omega
      have h1 : ¬ (56 - 8 * (k : Int) < 0) := by omega
      have HE := Lib.hid (eight_at (n := n) k hlt)
      have HT := Lib.hid (take_snocU (eight n) k (by rw [eight_len]; exact hlt))
      have h3 : IntKind.i64.wrap (56 - 8 * (k : Int) - 8) = 56 - 8 * ((k + 1 : Nat) : Int) := by rw [IntKind.wrap_i64]; omega
      have HX : Hid (IntKind.u8.wrap (n / 2 ^ (56 - 8 * (k : Int)).toNat) = ((by8 (n.fdiv (2 ^ (56 - 8 * k)))).toNat : Int)) := Lib.hid (by rw [wrap8, Int.fdiv_eq_ediv_of_nonneg _ (Int.pow_nonneg (by decide)), show (56 - 8 * (k : Int)).toNat = 56 - 8 * k by omega])
      go_wp2
      go_region_with (go_at_call 102; refine (writeByte_any _ liesPaper B b (Lib.byteCells (l ++ (eight n).take k)) _ _ (bld_up HP.out.1 (Below.refl _ _).drew) (by rw [Lib.byteCells_length]; have := HL.out; simp; omega) HP.out.2).mono ?_; rintro e w1 ⟨rfl, p1, b1⟩; have P1 := Lib.hid p1; have b2 : Wr B b wr w1 := (Wr.up (Below.refl _ _).drew HP.out.2).trans b1; clear p1 b1)
      all_goals
        go_wp2
        go_roundw
        case rel => exact ⟨k + 1, rfl, by omega, Lib.hid ⟨by rw [HT.out, HE.out, ← List.append_assoc, byteCells_app, byteCells_one, ← HX.out]; exact P1.out, Nat.le_trans HP.out.2 b2.size⟩, Lib.hid (HB.out.trans b2)⟩
        case measure => simp [intOf]; omega
    · obtain rfl : k = 8 := by omega
      have h4 : ¬ ((0 : Int) ≤ 56 - 8 * ((8 : Nat) : Int)) := by omega
      go_wp2
      go_end0
      exact ⟨rfl, HP.out, HB.out⟩
set_option maxRecDepth 100000 in
set_option maxHeartbeats 2000000 in
theorem pinstr_any (B b : Nat) (l : List UInt8) (i : Ins) (w : World) (h : Pap B b l w) (hl : l.length ≤ 800000) (hb : b < w.heap.size) :
    Calls Tryz.prog 140 #[.pointer (some ⟨b, 0, none⟩), .agg #[.int .i64 i.op, .int .i64 i.a, .int .i64 i.b, .int .i64 i.n]] w fun e w' => e = .returned (.tuple #[]) ∧ Pap B b (l ++ cI.enc i) w' ∧ Wr B b w w' := by
  have H := Lib.hid h
  have HL := Lib.hid hl
  have HE : Hid (l ++ cI.enc i = (((l ++ [by8 i.op]) ++ [by8 i.a]) ++ [by8 i.b]) ++ eight i.n) := Lib.hid (by rw [show cI.enc i = [by8 i.op] ++ ([by8 i.a] ++ ([by8 i.b] ++ eight i.n)) from rfl]; simp only [List.append_assoc])
  have hwr : ∀ o : Obj, Wr B b w (w.alloc o) := fun o => Wr.up ((Below.refl _ _).alloc (Nat.le_refl _) _) h.2
  have HW := Lib.hid hwr
  clear h hl hwr
  go_enter Tryz.func140, Tryz.ntmps140
  go_wp2_with fail
  refine (small_any B b l _ _ (H.out.alloc _) (by have := HL.out; omega)).mono ?_
  rintro e w1 ⟨rfl, p1, b1⟩
  have r1 : Rw w1 w.heap.size 124 #[.int .i64 i.op, .int .i64 i.a, .int .i64 i.b, .int .i64 i.n] := b1.k _ _ _ (by omega) (by decide) (Rw.new _ _ _ rfl)
  have W1 := Lib.hid ((HW.out _).trans b1)
  have P1 := Lib.hid p1
  have R1 := Lib.hid r1
  have k1 := r1.cell (j := 1) rfl
  clear p1 b1 r1 H HW
  go_wp2_with fail
  refine (small_any B b (l ++ [by8 i.op]) _ _ P1.out (by have := HL.out; simp; omega)).mono ?_
  rintro e w2 ⟨rfl, p2, b2⟩
  have r2 := b2.k _ _ _ (by omega) (by decide) R1.out
  have W2 := Lib.hid (W1.out.trans b2)
  have P2 := Lib.hid p2
  have R2 := Lib.hid r2
  have k2 := r2.cell (j := 2) rfl
  clear p2 b2 r2 P1 W1 R1 k1
  go_wp2_with fail
  refine (small_any B b ((l ++ [by8 i.op]) ++ [by8 i.a]) _ _ P2.out (by have := HL.out; simp; omega)).mono ?_
  rintro e w3 ⟨rfl, p3, b3⟩
  have r3 := b3.k _ _ _ (by omega) (by decide) R2.out
  have W3 := Lib.hid (W2.out.trans b3)
  have P3 := Lib.hid p3
  have R3 := Lib.hid r3
  have k3 := r3.cell (j := 3) rfl
  clear p3 b3 r3 P2 W2 R2 k2
  go_wp2_with fail
  refine (pnumber_any B b (((l ++ [by8 i.op]) ++ [by8 i.a]) ++ [by8 i.b]) _ _ P3.out (by have := HL.out; simp; omega)).mono ?_
  rintro e w4 ⟨rfl, p4, b4⟩
  go_wp2
  go_end0
  exact ⟨rfl, by rw [HE.out]; exact p4, W3.out.trans b4⟩
set_option maxRecDepth 100000 in
set_option maxHeartbeats 2000000 in
theorem pchannel_any (B b : Nat) (l : List UInt8) (i : Chn) (w : World) (h : Pap B b l w) (hl : l.length ≤ 800000) (hb : b < w.heap.size) :
    Calls Tryz.prog 90 #[.pointer (some ⟨b, 0, none⟩), .agg #[.int .i64 i.kd, .int .i64 i.fr, .int .i64 i.tt]] w fun e w' => e = .returned (.tuple #[]) ∧ Pap B b (l ++ cC.enc i) w' ∧ Wr B b w w' := by
  have H := Lib.hid h
  have HL := Lib.hid hl
  have HE : Hid (l ++ cC.enc i = ((l ++ [by8 i.kd]) ++ [by8 i.fr]) ++ [by8 i.tt]) := Lib.hid (by rw [show cC.enc i = [by8 i.kd] ++ ([by8 i.fr] ++ [by8 i.tt]) from rfl]; simp only [List.append_assoc])
  have hwr : ∀ o : Obj, Wr B b w (w.alloc o) := fun o => Wr.up ((Below.refl _ _).alloc (Nat.le_refl _) _) h.2
  have HW := Lib.hid hwr
  clear h hl hwr
  go_enter Tryz.func90, Tryz.ntmps90
  go_wp2_with fail
  refine (small_any B b l _ _ (H.out.alloc _) (by have := HL.out; omega)).mono ?_
  rintro e w1 ⟨rfl, p1, b1⟩
  have r1 : Rw w1 w.heap.size 126 #[.int .i64 i.kd, .int .i64 i.fr, .int .i64 i.tt] := b1.k _ _ _ (by omega) (by decide) (Rw.new _ _ _ rfl)
  have W1 := Lib.hid ((HW.out _).trans b1)
  have P1 := Lib.hid p1
  have R1 := Lib.hid r1
  have k1 := r1.cell (j := 1) rfl
  clear p1 b1 r1 H HW
  go_wp2_with fail
  refine (small_any B b (l ++ [by8 i.kd]) _ _ P1.out (by have := HL.out; simp; omega)).mono ?_
  rintro e w2 ⟨rfl, p2, b2⟩
  have r2 := b2.k _ _ _ (by omega) (by decide) R1.out
  have W2 := Lib.hid (W1.out.trans b2)
  have P2 := Lib.hid p2
  have R2 := Lib.hid r2
  have k2 := r2.cell (j := 2) rfl
  clear p2 b2 r2 P1 W1 R1 k1
  go_wp2_with fail
  refine (small_any B b ((l ++ [by8 i.kd]) ++ [by8 i.fr]) _ _ P2.out (by have := HL.out; simp; omega)).mono ?_
  rintro e w4 ⟨rfl, p4, b4⟩
  go_wp2
  go_end0
  exact ⟨rfl, by rw [HE.out]; exact p4, W2.out.trans b4⟩
set_option maxRecDepth 100000 in
set_option maxHeartbeats 2000000 in
theorem pslot_any (B b : Nat) (l : List UInt8) (i : Slt) (w : World) (h : Pap B b l w) (hl : l.length ≤ 800000) (hb : b < w.heap.size) :
    Calls Tryz.prog 92 #[.pointer (some ⟨b, 0, none⟩), .agg #[.int .i64 i.pt, .int .i64 i.tk]] w fun e w' => e = .returned (.tuple #[]) ∧ Pap B b (l ++ cT.enc i) w' ∧ Wr B b w w' := by
  have H := Lib.hid h
  have HL := Lib.hid hl
  have HE : Hid (l ++ cT.enc i = (l ++ [by8 i.pt]) ++ [by8 i.tk]) := Lib.hid (by rw [show cT.enc i = [by8 i.pt] ++ [by8 i.tk] from rfl]; simp only [List.append_assoc])
  have hwr : ∀ o : Obj, Wr B b w (w.alloc o) := fun o => Wr.up ((Below.refl _ _).alloc (Nat.le_refl _) _) h.2
  have HW := Lib.hid hwr
  clear h hl hwr
  go_enter Tryz.func92, Tryz.ntmps92
  go_wp2_with fail
  refine (small_any B b l _ _ (H.out.alloc _) (by have := HL.out; omega)).mono ?_
  rintro e w1 ⟨rfl, p1, b1⟩
  have r1 : Rw w1 w.heap.size 128 #[.int .i64 i.pt, .int .i64 i.tk] := b1.k _ _ _ (by omega) (by decide) (Rw.new _ _ _ rfl)
  have W1 := Lib.hid ((HW.out _).trans b1)
  have P1 := Lib.hid p1
  have k1 := r1.cell (j := 1) rfl
  clear p1 b1 r1 H HW
  go_wp2_with fail
  refine (small_any B b (l ++ [by8 i.pt]) _ _ P1.out (by have := HL.out; simp; omega)).mono ?_
  rintro e w4 ⟨rfl, p4, b4⟩
  go_wp2
  go_end0
  exact ⟨rfl, by rw [HE.out]; exact p4, W1.out.trans b4⟩
end Go.Proofs.YtbkdoohhdkahiaaGreatDoor

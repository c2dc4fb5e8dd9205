/- Things as bytes, in plain words: what is written is read as it was, and nothing else is. -/
import Derived.Test.YtbhfnkbflikliaaDoorJ0
import Derived.Laws.BitsLemmas
import Derived.Laws.Rows
import Derived.Lib.ConvBytes
import Derived.Test.YtbhfnkbflikliaaDoorProg
import Derived.Deep.RegionLaw
namespace Go.Proofs.YtbhfnkbflikliaaDoor
set_option linter.unusedSimpArgs false
set_option linter.unusedVariables false
open Go.RowKit Go.Sort
def by8 (n : Int) : UInt8 := UInt8.ofNat (n % 256).toNat
theorem by8_nat (n : Int) : ((by8 n).toNat : Int) = n % 256 := by
  unfold by8
  rw [UInt8.toNat_ofNat']
  omega
theorem by8_of (m : Int) (b : UInt8) : by8 (m * 256 + b.toNat) = b := by
  have h := by8_nat (m * 256 + b.toNat)
  have hb : b.toNat < 256 := b.toNat_lt
  apply UInt8.toNat_inj.1
  omega
theorem by8_small {n : Int} (h0 : 0 ≤ n) (h1 : n < 256) : ((by8 n).toNat : Int) = n := by rw [by8_nat]; omega
def eight (n : Int) : List UInt8 := [by8 (n / 72057594037927936), by8 (n / 281474976710656), by8 (n / 1099511627776), by8 (n / 4294967296), by8 (n / 16777216), by8 (n / 65536), by8 (n / 256), by8 n]
theorem eight_len (n : Int) : (eight n).length = 8 := rfl
def push (n : Int) (b : UInt8) : Int := IntKind.i64.wrap (n * 256 + b.toNat)
def numL (l : List UInt8) : Int := l.foldl push 0
theorem wrap_in (n : Int) : in64 (IntKind.i64.wrap n) := by
  rw [IntKind.wrap_i64]
  unfold in64
  omega
theorem push_wrap (n : Int) (b : UInt8) : push (IntKind.i64.wrap n) b = IntKind.i64.wrap (n * 256 + b.toNat) := by
  unfold push
  rw [IntKind.wrap_i64, IntKind.wrap_i64, IntKind.wrap_i64]
  omega
theorem or_push (n : Int) (b : UInt8) : bits .or .i64 (IntKind.i64.wrap (n * 256)) (b.toNat : Int) = push n b := by
  have hb : b.toNat < 256 := b.toNat_lt
  have e1 : BitVec.ofInt 64 (IntKind.i64.wrap (n * 256)) = BitVec.ofNat 64 (n * 256 % 18446744073709551616).toNat := by
    apply BitVec.eq_of_toNat_eq
    rw [BitVec.toNat_ofInt, BitVec.toNat_ofNat, IntKind.wrap_i64]
    omega
  have e2 : BitVec.ofInt 64 (b.toNat : Int) = BitVec.ofNat 64 b.toNat := by
    apply BitVec.eq_of_toNat_eq
    rw [BitVec.toNat_ofInt, BitVec.toNat_ofNat]
    omega
  unfold bits push
  show IntKind.i64.wrap (((BitVec.ofInt 64 (IntKind.i64.wrap (n * 256)) ||| BitVec.ofInt 64 (b.toNat : Int)).toNat : Nat) : Int) = _
  rw [e1, e2, BitVec.toNat_or, BitVec.toNat_ofNat, BitVec.toNat_ofNat]
  have hm : b.toNat % 2 ^ 64 = b.toNat := Nat.mod_eq_of_lt (by omega)
  obtain ⟨q, hq⟩ : ∃ q : Nat, (n * 256 % 18446744073709551616).toNat % 2 ^ 64 = 2 ^ 8 * q := ⟨(n * 256 % 18446744073709551616).toNat % 2 ^ 64 / 256, by omega⟩
  rw [hm, hq, ← Nat.two_pow_add_eq_or_of_lt (i := 8) (by omega) q]
  have h2 : ((2 ^ 8 * q + b.toNat : Nat) : Int) = n * 256 % 18446744073709551616 + b.toNat := by omega
  rw [h2, IntKind.wrap_i64, IntKind.wrap_i64]
  omega
theorem div256 (n : Int) (m : Int) (h : 0 < m) : n / (m * 256) = n / m / 256 := by rw [Int.ediv_ediv_of_nonneg (by omega)]
theorem numL_eight {n : Int} (h : in64 n) : numL (eight n) = n := by
  have e : numL (eight n) = IntKind.i64.wrap (((((((((0 * 256 + (by8 (n / 72057594037927936)).toNat) * 256 + (by8 (n / 281474976710656)).toNat) * 256 + (by8 (n / 1099511627776)).toNat) * 256 + (by8 (n / 4294967296)).toNat) * 256 + (by8 (n / 16777216)).toNat) * 256 + (by8 (n / 65536)).toNat) * 256 + (by8 (n / 256)).toNat) * 256) + (by8 n).toNat) := by
    show push (push (push (push (push (push (push (push 0 _) _) _) _) _) _) _) _ = _
    rw [show push 0 (by8 (n / 72057594037927936)) = IntKind.i64.wrap (0 * 256 + (by8 (n / 72057594037927936)).toNat) from rfl, push_wrap, push_wrap, push_wrap, push_wrap, push_wrap, push_wrap, push_wrap]
  rw [e]
  rw [by8_nat, by8_nat, by8_nat, by8_nat, by8_nat, by8_nat, by8_nat, by8_nat]
  rw [show (72057594037927936 : Int) = 281474976710656 * 256 by rfl, div256 n 281474976710656 (by decide), show (281474976710656 : Int) = 1099511627776 * 256 by rfl, div256 n 1099511627776 (by decide), show (1099511627776 : Int) = 4294967296 * 256 by rfl, div256 n 4294967296 (by decide), show (4294967296 : Int) = 16777216 * 256 by rfl, div256 n 16777216 (by decide), show (16777216 : Int) = 65536 * 256 by rfl, div256 n 65536 (by decide), show (65536 : Int) = 256 * 256 by rfl, div256 n 256 (by decide)]
  unfold in64 at h
  generalize h1 : n / 256 = q1
  generalize h2 : q1 / 256 = q2
  generalize h3 : q2 / 256 = q3
  generalize h4 : q3 / 256 = q4
  generalize h5 : q4 / 256 = q5
  generalize h6 : q5 / 256 = q6
  generalize h7 : q6 / 256 = q7
  have e0 : n % 256 = n - 256 * q1 := by omega
  have e1 : q1 % 256 = q1 - 256 * q2 := by omega
  have e2 : q2 % 256 = q2 - 256 * q3 := by omega
  have e3 : q3 % 256 = q3 - 256 * q4 := by omega
  have e4 : q4 % 256 = q4 - 256 * q5 := by omega
  have e5 : q5 % 256 = q5 - 256 * q6 := by omega
  have e6 : q6 % 256 = q6 - 256 * q7 := by omega
  have e7 : q7 % 256 = q7 - 256 * (q7 / 256) := by omega
  rw [e0, e1, e2, e3, e4, e5, e6, e7]
  generalize q7 / 256 = q8
  clear h1 h2 h3 h4 h5 h6 h7 e0 e1 e2 e3 e4 e5 e6 e7 e
  rw [show (((((((((0 : Int) * 256 + (q7 - 256 * q8)) * 256 + (q6 - 256 * q7)) * 256 + (q5 - 256 * q6)) * 256 + (q4 - 256 * q5)) * 256 + (q3 - 256 * q4)) * 256 + (q2 - 256 * q3)) * 256 + (q1 - 256 * q2)) * 256) + (n - 256 * q1) = n - 18446744073709551616 * q8 by omega]
  rw [IntKind.wrap_i64]
  omega
theorem eight_numL {l : List UInt8} (h : l.length = 8) : eight (numL l) = l := by
  match l, h with
  | [b7, b6, b5, b4, b3, b2, b1, b0], _ =>
    have e : numL [b7, b6, b5, b4, b3, b2, b1, b0] = IntKind.i64.wrap (((((((((0 * 256 + (b7.toNat : Int)) * 256 + b6.toNat) * 256 + b5.toNat) * 256 + b4.toNat) * 256 + b3.toNat) * 256 + b2.toNat) * 256 + b1.toNat) * 256) + b0.toNat) := by
      show push (push (push (push (push (push (push (push 0 _) _) _) _) _) _) _) _ = _
      rw [show push 0 b7 = IntKind.i64.wrap (0 * 256 + b7.toNat) from rfl, push_wrap, push_wrap, push_wrap, push_wrap, push_wrap, push_wrap, push_wrap]
    rw [e]
    have hw : ∀ x : Int, ∃ t : Int, IntKind.i64.wrap x = x + 18446744073709551616 * t := fun x => ⟨(IntKind.i64.wrap x - x) / 18446744073709551616, by rw [IntKind.wrap_i64]; omega⟩
    obtain ⟨t, ht⟩ := hw (((((((((0 * 256 + (b7.toNat : Int)) * 256 + b6.toNat) * 256 + b5.toNat) * 256 + b4.toNat) * 256 + b3.toNat) * 256 + b2.toNat) * 256 + b1.toNat) * 256) + b0.toNat)
    rw [ht]
    have p7 : b7.toNat < 256 := b7.toNat_lt
    have p6 : b6.toNat < 256 := b6.toNat_lt
    have p5 : b5.toNat < 256 := b5.toNat_lt
    have p4 : b4.toNat < 256 := b4.toNat_lt
    have p3 : b3.toNat < 256 := b3.toNat_lt
    have p2 : b2.toNat < 256 := b2.toNat_lt
    have p1 : b1.toNat < 256 := b1.toNat_lt
    have p0 : b0.toNat < 256 := b0.toNat_lt
    obtain ⟨m7, g7⟩ : ∃ m7 : Int, m7 = t := ⟨_, rfl⟩
    obtain ⟨m6, g6⟩ : ∃ m6 : Int, m6 = m7 * 256 + b7.toNat := ⟨_, rfl⟩
    obtain ⟨m5, g5⟩ : ∃ m5 : Int, m5 = m6 * 256 + b6.toNat := ⟨_, rfl⟩
    obtain ⟨m4, g4⟩ : ∃ m4 : Int, m4 = m5 * 256 + b5.toNat := ⟨_, rfl⟩
    obtain ⟨m3, g3⟩ : ∃ m3 : Int, m3 = m4 * 256 + b4.toNat := ⟨_, rfl⟩
    obtain ⟨m2, g2⟩ : ∃ m2 : Int, m2 = m3 * 256 + b3.toNat := ⟨_, rfl⟩
    obtain ⟨m1, g1⟩ : ∃ m1 : Int, m1 = m2 * 256 + b2.toNat := ⟨_, rfl⟩
    obtain ⟨m0, g0⟩ : ∃ m0 : Int, m0 = m1 * 256 + b1.toNat := ⟨_, rfl⟩
    rw [show (((((((((0 : Int) * 256 + b7.toNat) * 256 + b6.toNat) * 256 + b5.toNat) * 256 + b4.toNat) * 256 + b3.toNat) * 256 + b2.toNat) * 256 + b1.toNat) * 256) + b0.toNat + 18446744073709551616 * t = m0 * 256 + b0.toNat by omega]
    clear ht hw e
    have d1 : (m0 * 256 + b0.toNat) / 256 = m0 := by omega
    have d2 : m0 / 256 = m1 := by omega
    have d3 : m1 / 256 = m2 := by omega
    have d4 : m2 / 256 = m3 := by omega
    have d5 : m3 / 256 = m4 := by omega
    have d6 : m4 / 256 = m5 := by omega
    have d7 : m5 / 256 = m6 := by omega
    unfold eight
    rw [show (72057594037927936 : Int) = 281474976710656 * 256 by rfl, div256 _ 281474976710656 (by decide), show (281474976710656 : Int) = 1099511627776 * 256 by rfl, div256 _ 1099511627776 (by decide), show (1099511627776 : Int) = 4294967296 * 256 by rfl, div256 _ 4294967296 (by decide), show (4294967296 : Int) = 16777216 * 256 by rfl, div256 _ 16777216 (by decide), show (16777216 : Int) = 65536 * 256 by rfl, div256 _ 65536 (by decide), show (65536 : Int) = 256 * 256 by rfl, div256 _ 256 (by decide)]
    rw [d1, d2, d3, d4, d5, d6, d7, by8_of m1 b1 |> fun h => (g0 ▸ h : by8 m0 = b1), by8_of m2 b2 |> fun h => (g1 ▸ h : by8 m1 = b2), by8_of m3 b3 |> fun h => (g2 ▸ h : by8 m2 = b3), by8_of m4 b4 |> fun h => (g3 ▸ h : by8 m3 = b4), by8_of m5 b5 |> fun h => (g4 ▸ h : by8 m4 = b5), by8_of m6 b6 |> fun h => (g5 ▸ h : by8 m5 = b6), by8_of m7 b7 |> fun h => (g6 ▸ h : by8 m6 = b7), by8_of]
structure Cod (α : Type) where
  enc : α → List UInt8
  dec : List UInt8 → Option (α × List UInt8)
  eye : List UInt8 → α × List UInt8
  good : α → Prop
structure Cod.Ok {α : Type} (C : Cod α) : Prop where
  de : ∀ a r, C.good a → C.dec (C.enc a ++ r) = some (a, r)
  ed : ∀ l a r, C.dec l = some (a, r) → l = C.enc a ++ r
  eg : ∀ l a r, C.dec l = some (a, r) → C.good a
  le : ∀ l a r, C.dec l = some (a, r) → C.eye l = (a, r)
  lg : ∀ l, C.good (C.eye l).1
def decB : List UInt8 → Option (Int × List UInt8)
  | [] => none
  | b :: r => some ((b.toNat : Int), r)
def eyeB : List UInt8 → Int × List UInt8
  | [] => (0, [])
  | b :: r => ((b.toNat : Int), r)
def cB : Cod Int := ⟨fun n => [by8 n], decB, eyeB, fun n => 0 ≤ n ∧ n < 256⟩
theorem cB_ok : cB.Ok where
  de := fun a r h => by
    show some (((by8 a).toNat : Int), r) = _
    rw [by8_small h.1 h.2]
  ed := fun l a r h => by
    match l, h with
    | b :: q, h =>
      injection h with h
      injection h with h1 h2
      subst h1
      subst h2
      have := by8_of 0 b
      rw [Int.zero_mul, Int.zero_add] at this
      show b :: q = [by8 (b.toNat : Int)] ++ q
      rw [this]
      rfl
  eg := fun l a r h => by
    match l, h with
    | b :: q, h =>
      injection h with h
      injection h with h1 h2
      subst h1
      have : b.toNat < 256 := b.toNat_lt
      exact ⟨by omega, by omega⟩
  le := fun l a r h => by
    match l, h with
    | b :: q, h =>
      injection h with h
  lg := fun l => by
    match l with
    | [] => exact ⟨by decide, by decide⟩
    | b :: q =>
      have : b.toNat < 256 := b.toNat_lt
      exact ⟨Int.natCast_nonneg _, by show (b.toNat : Int) < 256; omega⟩
def decN (l : List UInt8) : Option (Int × List UInt8) := if 8 ≤ l.length then some (numL (l.take 8), l.drop 8) else none
def eyeN : Nat → List UInt8 → Int × List UInt8
  | 0, l => (0, l)
  | k + 1, l => (IntKind.i64.wrap ((eyeN k l).1 * 256 + (eyeB (eyeN k l).2).1), (eyeB (eyeN k l).2).2)
theorem numL_in (l : List UInt8) : in64 (numL l) := by
  unfold numL
  rcases List.eq_nil_or_concat l with rfl | ⟨q, b, rfl⟩
  · exact ⟨by decide, by decide⟩
  · rw [List.concat_eq_append, List.foldl_append]
    exact wrap_in _
def cN : Cod Int := ⟨eight, decN, eyeN 8, in64⟩
theorem cN_ok : cN.Ok where
  de := fun a r h => by
    show decN (eight a ++ r) = _
    unfold decN
    rw [if_pos (by rw [List.length_append, eight_len]; omega), List.take_left' (eight_len a), List.drop_left' (eight_len a), numL_eight h]
  ed := fun l a r h => by
    have h : decN l = some (a, r) := h
    unfold decN at h
    split at h
    · rename_i hl
      injection h with h
      injection h with h1 h2
      subst h1
      subst h2
      show l = eight (numL (l.take 8)) ++ l.drop 8
      rw [eight_numL (by rw [List.length_take]; omega), List.take_append_drop]
    · cases h
  eg := fun l a r h => by
    have h : decN l = some (a, r) := h
    unfold decN at h
    split at h
    · injection h with h
      injection h with h1 h2
      subst h1
      exact numL_in _
    · cases h
  le := fun l a r h => by
    have h : decN l = some (a, r) := h
    match l, h with
    | b7 :: b6 :: b5 :: b4 :: b3 :: b2 :: b1 :: b0 :: q, h =>
      unfold decN at h
      rw [if_pos (by simp)] at h
      injection h with h
  lg := fun l => wrap_in _
def Cod.pr {α β : Type} (A : Cod α) (B : Cod β) : Cod (α × β) where
  enc p := A.enc p.1 ++ B.enc p.2
  dec l := match A.dec l with
    | none => none
    | some (a, r) => match B.dec r with
      | none => none
      | some (b, q) => some ((a, b), q)
  eye l := (((A.eye l).1, (B.eye (A.eye l).2).1), (B.eye (A.eye l).2).2)
  good p := A.good p.1 ∧ B.good p.2
section
variable {α β : Type} {A : Cod α} {B : Cod β} {l r q : List UInt8} {a : α} {b : β}
theorem pr_none1 (h : A.dec l = none) : (A.pr B).dec l = none := by simp [Cod.pr, h]
theorem pr_none2 (h : A.dec l = some (a, r)) (h' : B.dec r = none) : (A.pr B).dec l = none := by simp [Cod.pr, h, h']
theorem pr_some (h : A.dec l = some (a, r)) (h' : B.dec r = some (b, q)) : (A.pr B).dec l = some ((a, b), q) := by simp [Cod.pr, h, h']
theorem pr_is {p : α × β} (h : (A.pr B).dec l = some (p, q)) : ∃ r, A.dec l = some (p.1, r) ∧ B.dec r = some (p.2, q) := by
  cases h1 : A.dec l with
  | none => rw [pr_none1 h1] at h; cases h
  | some x =>
    obtain ⟨a, r⟩ := x
    cases h2 : B.dec r with
    | none => rw [pr_none2 h1 h2] at h; cases h
    | some y =>
      obtain ⟨b, q'⟩ := y
      rw [pr_some h1 h2] at h
      injection h with h
      injection h with e1 e2
      subst e1
      subst e2
      exact ⟨r, rfl, h2⟩
end
theorem Cod.Ok.pr {α β : Type} {A : Cod α} {B : Cod β} (hA : A.Ok) (hB : B.Ok) : (A.pr B).Ok where
  de := fun p r h => by
    show (A.pr B).dec ((A.enc p.1 ++ B.enc p.2) ++ r) = _
    rw [List.append_assoc]
    exact pr_some (hA.de _ _ h.1) (hB.de _ _ h.2)
  ed := fun l p q h => by
    obtain ⟨r, h1, h2⟩ := pr_is h
    rw [hA.ed _ _ _ h1, hB.ed _ _ _ h2, ← List.append_assoc]
    rfl
  eg := fun l p q h => by
    obtain ⟨r, h1, h2⟩ := pr_is h
    exact ⟨hA.eg _ _ _ h1, hB.eg _ _ _ h2⟩
  le := fun l p q h => by
    obtain ⟨r, h1, h2⟩ := pr_is h
    show (((A.eye l).1, (B.eye (A.eye l).2).1), (B.eye (A.eye l).2).2) = _
    rw [hA.le _ _ _ h1]
    show ((p.1, (B.eye r).1), (B.eye r).2) = _
    rw [hB.le _ _ _ h2]
  lg := fun l => ⟨hA.lg _, hB.lg _⟩
def Cod.im {α β : Type} (A : Cod α) (f : α → β) (g : β → α) : Cod β where
  enc b := A.enc (g b)
  dec l := match A.dec l with
    | none => none
    | some (a, r) => some (f a, r)
  eye l := (f (A.eye l).1, (A.eye l).2)
  good b := A.good (g b)
theorem im_none {α β : Type} {A : Cod α} {f : α → β} {g : β → α} {l : List UInt8} (h : A.dec l = none) : (A.im f g).dec l = none := by simp [Cod.im, h]
theorem im_some {α β : Type} {A : Cod α} {f : α → β} {g : β → α} {l r : List UInt8} {a : α} (h : A.dec l = some (a, r)) : (A.im f g).dec l = some (f a, r) := by simp [Cod.im, h]
theorem im_is {α β : Type} {A : Cod α} {f : α → β} {g : β → α} {l r : List UInt8} {b : β} (h : (A.im f g).dec l = some (b, r)) : ∃ a, b = f a ∧ A.dec l = some (a, r) := by
  cases h1 : A.dec l with
  | none => rw [im_none h1] at h; cases h
  | some x =>
    obtain ⟨a, q⟩ := x
    rw [im_some h1] at h
    injection h with h
    injection h with e1 e2
    subst e2
    exact ⟨a, e1.symm, rfl⟩
theorem Cod.Ok.im {α β : Type} {A : Cod α} (hA : A.Ok) {f : α → β} {g : β → α} (h1 : ∀ a, g (f a) = a) (h2 : ∀ b, f (g b) = b) : (A.im f g).Ok where
  de := fun b r h => by
    show (A.im f g).dec (A.enc (g b) ++ r) = _
    rw [im_some (hA.de _ _ h), h2]
  ed := fun l b r h => by
    obtain ⟨a, rfl, h'⟩ := im_is h
    show l = A.enc (g (f a)) ++ r
    rw [h1]
    exact hA.ed _ _ _ h'
  eg := fun l b r h => by
    obtain ⟨a, rfl, h'⟩ := im_is h
    show A.good (g (f a))
    rw [h1]
    exact hA.eg _ _ _ h'
  le := fun l b r h => by
    obtain ⟨a, rfl, h'⟩ := im_is h
    show (f (A.eye l).1, (A.eye l).2) = _
    rw [hA.le _ _ _ h']
  lg := fun l => by
    show A.good (g (f (A.eye l).1))
    rw [h1]
    exact hA.lg _
def manyD {α : Type} (A : Cod α) : Nat → List UInt8 → Option (List α × List UInt8)
  | 0, l => some ([], l)
  | n + 1, l => match manyD A n l with
    | none => none
    | some (ds, q) => match A.dec q with
      | none => none
      | some (d, r) => some (ds ++ [d], r)
def manyE {α : Type} (A : Cod α) : Nat → List UInt8 → List α × List UInt8
  | 0, l => ([], l)
  | n + 1, l => ((manyE A n l).1 ++ [(A.eye (manyE A n l).2).1], (A.eye (manyE A n l).2).2)
section
variable {α : Type} {A : Cod α} {n m : Nat} {l q r : List UInt8} {ds : List α} {d : α}
theorem many_none (h : manyD A n l = none) : manyD A (n + 1) l = none := by simp [manyD, h]
theorem many_no (h : manyD A n l = some (ds, q)) (h' : A.dec q = none) : manyD A (n + 1) l = none := by simp [manyD, h, h']
theorem many_yes (h : manyD A n l = some (ds, q)) (h' : A.dec q = some (d, r)) : manyD A (n + 1) l = some (ds ++ [d], r) := by simp [manyD, h, h']
theorem many_later (h : manyD A n l = none) (hm : n ≤ m) : manyD A m l = none := by
  induction m with
  | zero => obtain rfl : n = 0 := by omega
            exact h
  | succ m ih =>
    by_cases e : n = m + 1
    · exact e ▸ h
    · exact many_none (ih (by omega))
theorem many_is (h : manyD A (n + 1) l = some (ds, r)) : ∃ es d q, ds = es ++ [d] ∧ manyD A n l = some (es, q) ∧ A.dec q = some (d, r) := by
  cases h1 : manyD A n l with
  | none => rw [many_none h1] at h; cases h
  | some x =>
    obtain ⟨es, q⟩ := x
    cases h2 : A.dec q with
    | none => rw [many_no h1 h2] at h; cases h
    | some y =>
      obtain ⟨d, r'⟩ := y
      rw [many_yes h1 h2] at h
      injection h with h
      injection h with e1 e2
      subst e1
      subst e2
      exact ⟨es, d, q, rfl, rfl, h2⟩
theorem many_len : ∀ {n : Nat} {ds : List α} {r : List UInt8}, manyD A n l = some (ds, r) → ds.length = n
  | 0, ds, r, h => by injection h with h; injection h with e1 e2; subst e1; rfl
  | n + 1, ds, r, h => by
    obtain ⟨es, d, q, rfl, h1, _⟩ := many_is h
    rw [List.length_append, many_len h1]
    rfl
theorem many_ed (hA : A.Ok) : ∀ {n : Nat} {ds : List α} {r : List UInt8}, manyD A n l = some (ds, r) → l = ds.flatMap A.enc ++ r
  | 0, ds, r, h => by injection h with h; injection h with e1 e2; subst e1; subst e2; rfl
  | n + 1, ds, r, h => by
    obtain ⟨es, d, q, rfl, h1, h2⟩ := many_is h
    rw [many_ed hA h1, hA.ed _ _ _ h2]
    simp
theorem many_eg (hA : A.Ok) : ∀ {n : Nat} {ds : List α} {r : List UInt8}, manyD A n l = some (ds, r) → ∀ d ∈ ds, A.good d
  | 0, ds, r, h => by injection h with h; injection h with e1 e2; subst e1; exact fun d hd => by cases hd
  | n + 1, ds, r, h => by
    obtain ⟨es, d, q, rfl, h1, h2⟩ := many_is h
    intro x hx
    rcases List.mem_append.1 hx with hx | hx
    · exact many_eg hA h1 x hx
    · rw [List.mem_singleton.1 hx]
      exact hA.eg _ _ _ h2
theorem many_le (hA : A.Ok) : ∀ {n : Nat} {ds : List α} {r : List UInt8}, manyD A n l = some (ds, r) → manyE A n l = (ds, r)
  | 0, ds, r, h => by injection h
  | n + 1, ds, r, h => by
    obtain ⟨es, d, q, rfl, h1, h2⟩ := many_is h
    show ((manyE A n l).1 ++ [(A.eye (manyE A n l).2).1], (A.eye (manyE A n l).2).2) = _
    rw [many_le hA h1]
    show (es ++ [(A.eye q).1], (A.eye q).2) = _
    rw [hA.le _ _ _ h2]
theorem manyE_len (A : Cod α) (l : List UInt8) : ∀ n, (manyE A n l).1.length = n
  | 0 => rfl
  | n + 1 => by
    show ((manyE A n l).1 ++ [(A.eye (manyE A n l).2).1]).length = _
    rw [List.length_append, manyE_len A l n]
    rfl
theorem manyE_good (hA : A.Ok) (l : List UInt8) : ∀ n, ∀ d ∈ (manyE A n l).1, A.good d
  | 0 => fun d hd => by cases hd
  | n + 1 => fun x hx => by
    rcases List.mem_append.1 (show x ∈ (manyE A n l).1 ++ [(A.eye (manyE A n l).2).1] from hx) with hx | hx
    · exact manyE_good hA l n x hx
    · rw [List.mem_singleton.1 hx]
      exact hA.lg _
theorem many_de (hA : A.Ok) : ∀ {ds : List α} (_ : ∀ d ∈ ds, A.good d) (k : Nat) (_ : k ≤ ds.length) (r : List UInt8), manyD A k (ds.flatMap A.enc ++ r) = some (ds.take k, (ds.drop k).flatMap A.enc ++ r)
  | ds, _, 0, _, r => rfl
  | ds, h, k + 1, hk, r => by
    have h1 := many_de hA h k (by omega) r
    have hd : ds.drop k = ds[k] :: ds.drop (k + 1) := List.drop_eq_getElem_cons (by omega)
    rw [hd, List.flatMap_cons, List.append_assoc] at h1
    rw [many_yes h1 (hA.de _ _ (h _ (List.getElem_mem _))), List.take_add_one, List.getElem?_eq_getElem (by omega)]
    rfl
end
def Cod.ls {α : Type} (A : Cod α) : Cod (List α) where
  enc ds := by8 ds.length :: ds.flatMap A.enc
  dec l := match l with
    | [] => none
    | b :: r => manyD A b.toNat r
  eye l := manyE A (eyeB l).1.toNat (eyeB l).2
  good ds := ds.length < 256 ∧ ∀ d ∈ ds, A.good d
theorem eyeB_range (l : List UInt8) : 0 ≤ (eyeB l).1 ∧ (eyeB l).1 < 256 := by
  match l with
  | [] => exact ⟨by decide, by decide⟩
  | b :: q =>
    have : b.toNat < 256 := b.toNat_lt
    exact ⟨Int.natCast_nonneg _, by show (b.toNat : Int) < 256; omega⟩
theorem Cod.Ok.ls {α : Type} {A : Cod α} (hA : A.Ok) : A.ls.Ok where
  de := fun ds r h => by
    have hn : (by8 ds.length).toNat = ds.length := by
      have := by8_small (n := ds.length) (by omega) (by have := h.1; omega)
      omega
    show manyD A (by8 ds.length).toNat (ds.flatMap A.enc ++ r) = _
    rw [hn, many_de hA h.2 ds.length (Nat.le_refl _) r, List.take_length, List.drop_length]
    rfl
  ed := fun l ds r h => by
    match l, h with
    | b :: q, h =>
      have h : manyD A b.toNat q = some (ds, r) := h
      show b :: q = by8 ds.length :: ds.flatMap A.enc ++ r
      have := by8_of 0 b
      rw [Int.zero_mul, Int.zero_add] at this
      rw [many_len h, this, many_ed hA h]
      rfl
  eg := fun l ds r h => by
    match l, h with
    | b :: q, h =>
      have h : manyD A b.toNat q = some (ds, r) := h
      have : b.toNat < 256 := b.toNat_lt
      exact ⟨by rw [many_len h]; exact this, many_eg hA h⟩
  le := fun l ds r h => by
    match l, h with
    | b :: q, h =>
      have h : manyD A b.toNat q = some (ds, r) := h
      show manyE A ((b.toNat : Int)).toNat q = _
      rw [Int.toNat_natCast]
      exact many_le hA h
  lg := fun l => ⟨by have := eyeB_range l; show (manyE A (eyeB l).1.toNat (eyeB l).2).1.length < 256; rw [manyE_len]; omega, manyE_good hA _ _⟩
def cI : Cod Ins := (cB.pr (cB.pr (cB.pr cN))).im (fun p => ⟨p.1, p.2.1, p.2.2.1, p.2.2.2⟩) (fun i => (i.op, i.a, i.b, i.n))
def cP : Cod Prt := (cI.ls.pr cN.ls).im (fun p => ⟨p.1, p.2⟩) (fun p => (p.code, p.inn))
def cC : Cod Chn := (cB.pr (cB.pr cB)).im (fun p => ⟨p.1, p.2.1, p.2.2⟩) (fun c => (c.kd, c.fr, c.tt))
def cT : Cod Slt := (cB.pr cB).im (fun p => ⟨p.1, p.2⟩) (fun t => (t.pt, t.tk))
def cS : Cod SysD := (cP.ls.pr (cC.ls.pr cT.ls)).im (fun p => ⟨p.1, p.2.1, p.2.2⟩) (fun s => (s.parts, s.chans, s.slots))
theorem cI_ok : cI.Ok := (cB_ok.pr (cB_ok.pr (cB_ok.pr cN_ok))).im (fun _ => rfl) (fun _ => rfl)
theorem cP_ok : cP.Ok := (cI_ok.ls.pr cN_ok.ls).im (fun _ => rfl) (fun _ => rfl)
theorem cC_ok : cC.Ok := (cB_ok.pr (cB_ok.pr cB_ok)).im (fun _ => rfl) (fun _ => rfl)
theorem cT_ok : cT.Ok := (cB_ok.pr cB_ok).im (fun _ => rfl) (fun _ => rfl)
theorem cS_ok : cS.Ok := (cP_ok.ls.pr (cC_ok.ls.pr cT_ok.ls)).im (fun _ => rfl) (fun _ => rfl)
end Go.Proofs.YtbhfnkbflikliaaDoor

namespace Go.Proofs.YtbhfnkbflikliaaDoor
set_option linter.unusedSimpArgs false
set_option linter.unusedVariables false
open Go.RowKit Go.Sort
theorem sl_src {w : World} {b off : Nat} {xs : List Value} (h : ∀ j u, xs[j]? = some u → w.cell? ⟨b, off + j, none⟩ = some u) : ∀ j u, xs[j]? = some u → w.cell? ((⟨b, off, none⟩ : Addr).add j) = some u := by
  intro j u hj
  have hadd : (⟨b, off, none⟩ : Addr).add j = ⟨b, off + j, none⟩ := by
    unfold Addr.add
    by_cases h0 : j = 0 <;> simp [h0]
  rw [hadd]
  exact h j u hj
def Rw (w : World) (g : Nat) (t : TypeId) (cs : Array Value) : Prop := w.heap[g]? = some (.cells cs t (0, 0))
theorem Rw.lt {w : World} {g : Nat} {t : TypeId} {cs : Array Value} (h : Rw w g t cs) : g < w.heap.size := (Array.getElem?_eq_some_iff.1 h).1
theorem Rw.up {B : Nat} {w w' : World} {g : Nat} {t : TypeId} {cs : Array Value} (h : Rw w g t cs) (hb : Below B w w') (hg : g < B) : Rw w' g t cs := (hb.block g hg).trans h
theorem Rw.cell {w : World} {g : Nat} {t : TypeId} {cs : Array Value} (h : Rw w g t cs) {j : Nat} {v : Value} (hj : cs[j]? = some v) : w.cell? ⟨g, j, none⟩ = some v := (cell_of_row w g j cs t _ h).trans hj
theorem Rw.fr {w : World} {g : Nat} {t : TypeId} {cs : Array Value} (h : Rw w g t cs) (j : Nat) : w.frozen? ⟨g, j, none⟩ = false := frozen_of_row w g j cs t h
theorem Rw.set {w : World} {g : Nat} {t : TypeId} {cs : Array Value} (h : Rw w g t cs) (j : Nat) (v : Value) : Rw (w.setCell ⟨g, j, none⟩ v) g t (cs.setIfInBounds j v) := heap_setCell_same w g j cs t v h
theorem Rw.set_other {w : World} {g : Nat} {t : TypeId} {cs : Array Value} (h : Rw w g t cs) {a : Addr} (v : Value) (hg : g ≠ a.block) : Rw (w.setCell a v) g t cs := (heap_setCell_other w a g v hg).trans h
theorem Rw.row {w : World} {g : Nat} {t : TypeId} {cs : Array Value} (h : Rw w g t cs) (cs' : Array Value) : Rw (w.setRow g cs') g t cs' := setRow_heap w g cs cs' t _ h
theorem Rw.row_other {w : World} {g : Nat} {t : TypeId} {cs : Array Value} (h : Rw w g t cs) {g' : Nat} (cs' : Array Value) (hg : g ≠ g') : Rw (w.setRow g' cs') g t cs := (setRow_other w g' g cs' hg).trans h
theorem Rw.new (w : World) (t : TypeId) (cs : Array Value) {g : Nat} (hg : g = w.heap.size) : Rw (w.alloc (.cells cs t)) g t cs := hg ▸ _root_.Go.heap_alloc_new w _
theorem Rw.alloc {w : World} {g : Nat} {t : TypeId} {cs : Array Value} (h : Rw w g t cs) (o : Obj) : Rw (w.alloc o) g t cs := (Below.heap_alloc w o g h.lt).trans h
theorem Rw.drew {w : World} {g : Nat} {t : TypeId} {cs : Array Value} (h : Rw w g t cs) : Rw w.drew g t cs := h
theorem below_row {B : Nat} {a w : World} (h : Below B a w) {g : Nat} (hp : B ≤ g) (cs : Array Value) : Below B a (w.setRow g cs) :=
  ⟨h.os, h.tape, h.output, by rw [setRow_size]; exact h.size, fun k hk => (setRow_other w g k cs (by omega)).trans (h.block k hk)⟩
theorem Sl.row {w : World} {size : Nat} {v : Value} {n : Nat} {xs : List Value} (h : Sl w size v n xs) {g : Nat} (cs : Array Value) (hne : v.ownBlock ≠ some g) : Sl (w.setRow g cs) size v n xs := by
  obtain ⟨h1, ao, cap, rfl, h3, h4⟩ := h
  refine ⟨h1, ao, cap, rfl, h3, fun hn => ?_⟩
  obtain ⟨b, off, rfl, hlt, hc⟩ := h4 hn
  exact ⟨b, off, rfl, by rw [setRow_size]; exact hlt, fun k u' hk => (cell_setRow_other w g cs _ (by simpa [Value.ownBlock] using hne)).trans (hc k u' hk)⟩
theorem own_set {w : World} {base : Nat} {e : TypeId} {size : Nat} {v : Value} {n : Nat} {xs : List Value} (h : w.ownsRow base e size v n xs) {a : Addr} (u : Value) (hne : v.ownBlock ≠ some a.block) : (w.setCell a u).ownsRow base e size v n xs := by
  refine ⟨h.1, h.2.imp id ?_⟩
  rintro ⟨g, cap, cur, rfl, h2, h3, h4⟩
  exact ⟨g, cap, cur, rfl, h2, (heap_setCell_other w a g u (by simpa [Value.ownBlock] using hne)).trans h3, h4⟩
theorem own_row {w : World} {base : Nat} {e : TypeId} {size : Nat} {v : Value} {n : Nat} {xs : List Value} (h : w.ownsRow base e size v n xs) {g : Nat} (cs : Array Value) (hne : v.ownBlock ≠ some g) : (w.setRow g cs).ownsRow base e size v n xs := by
  refine ⟨h.1, h.2.imp id ?_⟩
  rintro ⟨g', cap, cur, rfl, h2, h3, h4⟩
  exact ⟨g', cap, cur, rfl, h2, (setRow_other w g g' cs (by simpa [Value.ownBlock] using hne)).trans h3, h4⟩
theorem own_up {w w' : World} {B base : Nat} {e : TypeId} {size : Nat} {v : Value} {n : Nat} {xs : List Value} (h : w.ownsRow base e size v n xs) (hb : Below B w w') (hB : ∀ k, v.ownBlock = some k → k < B) : w'.ownsRow base e size v n xs := by
  refine ⟨h.1, h.2.imp id ?_⟩
  rintro ⟨g', cap, cur, rfl, h2, h3, h4⟩
  exact ⟨g', cap, cur, rfl, h2, (hb.block g' (hB g' rfl)).trans h3, h4⟩
theorem own_lt {w : World} {base : Nat} {e : TypeId} {size : Nat} {v : Value} {n : Nat} {xs : List Value} (h : w.ownsRow base e size v n xs) : ∀ k, v.ownBlock = some k → k < w.heap.size := by
  intro k hk
  rcases h.2 with ⟨rfl, _⟩ | ⟨g, cap, cur, rfl, _, h3, _⟩
  · cases hk
  · simp [Value.ownBlock] at hk
    subst hk
    exact (Array.getElem?_eq_some_iff.1 h3).1
section
variable {P : Program}
theorem wpList_store_rowW {ops : Array Oper} {rest : List Oper} {o : Oper} {a : Act} {w : World} {Q : Exit → Act → World → Prop} (hgd : o.guard = none) (ty : TypeId) (x y : Operand) (ho : o.op = .store ty x y)
    (g : Nat) (cells : Array Value) (hx : a.eval x = .pointer (some ⟨g, 0, none⟩)) (hy : a.eval y = .agg cells)
    (t : TypeId) (old : Array Value) (hg : Rw w g t old) (hi : (P.info? ty).map (·.size) = some cells.size)
    (hold : old.size = cells.size) (h1 : cells.all (·.oneCell') = true)
    (h : ∀ W, Hid (W = w.setRow g cells) → wpList P ops Q rest (a.put o.dst undef) W) : wpList P ops Q (o :: rest) a w :=
  wpList_store_row hgd ty x y ho g cells hx hy t old hg hi hold h1 (h _ (Lib.hid rfl))
end
theorem results_row_tmp {P : Program} {fn : Func} {p q : Tmp} {ty : TypeId} (h : fn.results = #[.cell p ty, .tmp q]) (tmps : Array Value) (w : World) (g : Nat) (v u : Value)
    (hp : tmps.getD p undef = .pointer (some ⟨g, 0, none⟩)) (hq : tmps.getD q undef = u) (hl : (loadVar ty ⟨g, 0, none⟩).run P w = .ok v w) : (results fn tmps).run P w = .ok (.tuple #[v, u]) w := by
  have hp' : tmps[p]?.getD undef = .pointer (some ⟨g, 0, none⟩) := by simpa using hp
  have hq' : tmps[q]?.getD undef = u := by simpa using hq
  simp [results, h, hp', hq', asAddr, hl]
theorem results_row2 {P : Program} {fn : Func} {p q : Tmp} {ty tz : TypeId} (h : fn.results = #[.cell p ty, .cell q tz]) (tmps : Array Value) (w : World) (g g' : Nat) (v u : Value)
    (hp : tmps.getD p undef = .pointer (some ⟨g, 0, none⟩)) (hq : tmps.getD q undef = .pointer (some ⟨g', 0, none⟩)) (hl : (loadVar ty ⟨g, 0, none⟩).run P w = .ok v w) (hk : (loadVar tz ⟨g', 0, none⟩).run P w = .ok u w) : (results fn tmps).run P w = .ok (.tuple #[v, u]) w := by
  have hp' : tmps[p]?.getD undef = .pointer (some ⟨g, 0, none⟩) := by simpa using hp
  have hq' : tmps[q]?.getD undef = .pointer (some ⟨g', 0, none⟩) := by simpa using hq
  simp [results, h, hp', hq', asAddr, hl, hk]
end Go.Proofs.YtbhfnkbflikliaaDoor

namespace Go.Proofs.YtbhfnkbflikliaaDoor
set_option linter.unusedSimpArgs false
set_option linter.unusedVariables false
open Go.RowKit Go.Sort
theorem post_panicI {fn : Func} {R : Ending → World → Prop} {ch : List PanicEntry} {a : Act} {w : World} (hd : a.defers = []) (h : R (.panicked ch) w) : bodyPost Tryd.prog fn R (.panic ch) a w := by
  unfold bodyPost
  simp_all
def wrongE : List PanicEntry := [{ v := .iface 9 (.string ⟨#[119, 114, 111, 110, 103]⟩), recovered := false }]
theorem must_yes (w : World) : Calls Tryd.prog 40 #[.bool true] w fun e w' => e = .returned (.tuple #[]) ∧ w' = w := by
  go_enter Tryd.func40, Tryd.ntmps40
  go_wp2
  go_end0
  exact ⟨rfl, rfl⟩
theorem must_no (w : World) : Calls Tryd.prog 40 #[.bool false] w fun e w' => e = .panicked wrongE ∧ w' = w := by
  go_enter Tryd.func40, Tryd.ntmps40
  go_wp2
  exact post_panicI rfl ⟨rfl, rfl⟩
def Rdr (W : World) (g : Nat) (xs : List UInt8) : Prop := Rw W g 82 #[.string ⟨xs.toArray⟩]
structure One (g : Nat) (w w' : World) : Prop where
  b : Below g w w'
  k : ∀ c, c < w.heap.size → c ≠ g → w'.heap[c]? = w.heap[c]?
theorem One.refl (g : Nat) (w : World) : One g w w := ⟨Below.refl _ _, fun _ _ _ => rfl⟩
theorem One.trans {g : Nat} {w w1 w2 : World} (h : One g w w1) (h' : One g w1 w2) : One g w w2 :=
  ⟨h.b.trans h'.b, fun c hc hg => (h'.k c (Nat.lt_of_lt_of_le hc h.b.size) hg).trans (h.k c hc hg)⟩
theorem One.up {g : Nat} {w w' : World} (h : Below w.heap.size w w') (hg : g ≤ w.heap.size) : One g w w' := ⟨h.mono hg, fun c hc _ => h.block c hc⟩
theorem One.rw {g : Nat} {w w' : World} (h : One g w w') {c : Nat} {t : TypeId} {cs : Array Value} (hr : Rw w c t cs) (hc : c ≠ g) : Rw w' c t cs := (h.k c hr.lt hc).trans hr
theorem One.set (g : Nat) (w : World) (i : Nat) (v : Value) : One g w (w.setCell ⟨g, i, none⟩ v) :=
  ⟨(Below.refl _ _).setCell (by show g ≤ g; omega) _, fun c _ hg => heap_setCell_other _ _ _ _ (by simpa using hg)⟩
theorem One.size {g : Nat} {w w' : World} (h : One g w w') : w.heap.size ≤ w'.heap.size := h.b.size
theorem ba_size (l : List UInt8) : (⟨l.toArray⟩ : ByteArray).size = l.length := by simp [ByteArray.size]
set_option maxRecDepth 100000 in
set_option maxHeartbeats 4000000 in
theorem take_no (W : World) (g : Nat) (xs : List UInt8) (m : Nat) (hm : xs.length < m) (h : Rdr W g xs) :
    Calls Tryd.prog 77 #[.pointer (some ⟨g, 0, none⟩), .int .i64 (m : Int)] W fun e w' => e = .panicked wrongE ∧ w' = W := by
  have k0 : W.cell? ⟨g, 0, none⟩ = some (.string ⟨xs.toArray⟩) := h.cell (j := 0) rfl
  have hli : decide (m ≤ xs.length) = false := by simp; omega
  clear h
  go_enter Tryd.func77, Tryd.ntmps77
  go_wp2_with fail
  refine (must_no _).mono ?_
  rintro e w1 ⟨rfl, hw⟩
  subst hw
  exact post_panicI rfl ⟨rfl, rfl⟩
set_option maxRecDepth 100000 in
set_option maxHeartbeats 4000000 in
theorem take_yes (W : World) (g : Nat) (xs : List UInt8) (m : Nat) (hm : m ≤ xs.length) (h : Rdr W g xs) :
    Calls Tryd.prog 77 #[.pointer (some ⟨g, 0, none⟩), .int .i64 (m : Int)] W fun e w' => e = .returned (.string ⟨(xs.take m).toArray⟩) ∧ Rdr w' g (xs.drop m) ∧ One g W w' := by
  have k0 : W.cell? ⟨g, 0, none⟩ = some (.string ⟨xs.toArray⟩) := h.cell (j := 0) rfl
  have f0 := h.fr 0
  have hli : (m : Int) ≤ xs.length := by omega
  have HR := Lib.hid h
  have e1 : (⟨xs.toArray⟩ : ByteArray).extract 0 m = ⟨(xs.take m).toArray⟩ := by rw [ext_eq]; simp
  have e2 : (⟨xs.toArray⟩ : ByteArray).extract m xs.length = ⟨(xs.drop m).toArray⟩ := by rw [ext_eq, List.take_of_length_le (by rw [List.length_drop]; omega)]
  clear h
  go_enter Tryd.func77, Tryd.ntmps77
  go_wp2_with fail
  refine (must_yes _).mono ?_
  rintro e w1 ⟨rfl, hw⟩
  subst hw
  go_wp2
  go_ret
  exact ⟨rfl, HR.out.set 0 _, One.set _ _ _ _⟩
def Reads (α : Type) (A : Cod α) (V : World → World → Value → α → Prop) (f : Nat) : Prop := ∀ (W : World) (g : Nat) (xs : List UInt8), Rdr W g xs →
  Calls Tryd.prog f #[.pointer (some ⟨g, 0, none⟩)] W fun e w' => (A.dec xs = none ∧ e = .panicked wrongE ∧ Below g W w') ∨ (∃ a r v, A.dec xs = some (a, r) ∧ e = .returned v ∧ V W w' v a ∧ Rdr w' g r ∧ One g W w')
def VInt (_ _ : World) (v : Value) (n : Int) : Prop := v = .int .i64 n
def VIns (_ _ : World) (v : Value) (i : Ins) : Prop := v = .agg #[.int .i64 i.op, .int .i64 i.a, .int .i64 i.b, .int .i64 i.n]
def VChn (_ _ : World) (v : Value) (i : Chn) : Prop := v = .agg #[.int .i64 i.kd, .int .i64 i.fr, .int .i64 i.tt]
def VSlt (_ _ : World) (v : Value) (i : Slt) : Prop := v = .agg #[.int .i64 i.pt, .int .i64 i.tk]
set_option maxRecDepth 100000 in
set_option maxHeartbeats 4000000 in
theorem rsmall_any : Reads Int cB VInt 71 := by
  intro W g xs h
  match xs, h with
  | [], h =>
    have HT := Lib.hid (take_no W g [] 1 (by simp) h)
    clear h
    go_enter Tryd.func71, Tryd.ntmps71
    go_wp2_with fail
    refine HT.out.mono ?_
    rintro e w1 ⟨rfl, hw⟩
    subst hw
    exact post_panicI rfl (.inl ⟨rfl, rfl, Below.refl _ _⟩)
  | x :: q, h =>
    have HT := Lib.hid (take_yes W g (x :: q) 1 (by simp) h)
    have hx : x.toNat < 256 := x.toNat_lt
    have hx0 : (0 : Int) ≤ x.toNat := by omega
    have hx1 : (x.toNat : Int) < 256 := by omega
    clear h
    go_enter Tryd.func71, Tryd.ntmps71
    go_wp2_with fail
    refine HT.out.mono ?_
    rintro e w1 ⟨rfl, h1, h2⟩
    have H1 := Lib.hid h1
    have H2 := Lib.hid h2
    clear h1 h2 HT
    have ht : (⟨(List.take 1 (x :: q)).toArray⟩ : ByteArray) = ⟨#[x]⟩ := rfl
    rw [ht]
    have hz2 : (⟨#[x]⟩ : ByteArray).size = 1 := rfl
    go_wp2
    go_ret
    exact .inr ⟨(x.toNat : Int), q, _, rfl, rfl, by show Value.int .i64 (wrap64 (x.toNat : Int)) = .int .i64 (x.toNat : Int); rw [show wrap64 (x.toNat : Int) = (x.toNat : Int) by unfold wrap64; omega], H1.out, H2.out⟩
end Go.Proofs.YtbhfnkbflikliaaDoor

namespace Go.Proofs.YtbhfnkbflikliaaDoor
set_option linter.unusedSimpArgs false
set_option linter.unusedVariables false
open Go.RowKit Go.Sort
theorem below_bytes (w : World) (e : TypeId) (s : ByteArray) : Below w.heap.size w (Lib.bytesWorld w e s) := by
  refine ⟨rfl, ?_, rfl, by rw [Lib.bytesWorld_size]; omega, fun k hk => Lib.bytesWorld_at_old w e s k hk⟩
  simp [Lib.bytesWorld, World.freeze]
theorem wrap64_is (n : Int) : wrap64 n = IntKind.i64.wrap n := by rw [IntKind.wrap_i64, wrap64]
theorem numL_snoc (bs : List UInt8) (k : Nat) (h : k < bs.length) : numL (bs.take (k + 1)) = push (numL (bs.take k)) bs[k] := by
  unfold numL
  rw [List.take_add_one, List.getElem?_eq_getElem h]
  show List.foldl push 0 (bs.take k ++ [bs[k]]) = _
  rw [List.foldl_append]
  rfl
set_option maxRecDepth 100000 in
set_option maxHeartbeats 4000000 in
theorem rnumber_any : Reads Int cN VInt 75 := by
  intro W g xs h
  by_cases hl : 8 ≤ xs.length
  · have HT := Lib.hid (take_yes W g xs 8 hl h)
    have HD : Hid (cN.dec xs = some (numL (xs.take 8), xs.drop 8)) := Lib.hid (if_pos hl)
    have hlen : (xs.take 8).length = 8 := by rw [List.length_take]; omega
    have hgl := h.lt
    clear h hl
    go_enter Tryd.func75, Tryd.ntmps75
    go_wp2_with fail
    refine HT.out.mono ?_
    rintro e w1 ⟨rfl, h1, h2⟩
    have hg1 : g < w1.heap.size := h1.lt
    have H1 := Lib.hid h1
    have H2 := Lib.hid h2
    clear h1 h2 HT
    generalize xs.take 8 = bs at *
    have hsz : (⟨bs.toArray⟩ : ByteArray).size = 8 := by rw [ba_size]; exact hlen
    have HLN := Lib.hid hlen
    clear hlen
    go_wp2
    rw [Lib.run_convert_string_bytes w1 9 40 5 _ Tryd.underlying9 Tryd.underlying40 Tryd.underlying5, hsz]
    have HC : Hid (∀ j (hj : j < bs.length), (Lib.bytesWorld w1 5 ⟨bs.toArray⟩).cell? ⟨w1.heap.size, j, none⟩ = some (.int .u8 bs[j].toNat)) := Lib.hid (fun j hj => by
      rw [Lib.bytesWorld_cell w1 5 _ j (by rw [ba_size]; exact hj)]
      simp [List.getD, hj])
    have HB := Lib.hid (below_bytes w1 5 ⟨bs.toArray⟩)
    generalize Lib.bytesWorld w1 5 ⟨bs.toArray⟩ = W2 at *
    generalize grownCap w1 8 0 5 = cp at *
    simp only [Result.andThen]
    rw [Oper.upon_value]
    have H3 : Hid (Rdr W2 g (xs.drop 8)) := Lib.hid (H1.out.up HB.out hg1)
    have H4 := Lib.hid (H2.out.trans (One.up HB.out (by omega)))
    clear H1 H2 HB
    go_wp2
    go_loopw [3, 10] (fun n i wr => ∃ k : Nat, i = .int .i64 k ∧ k ≤ 8 ∧ n = .int .i64 (numL (bs.take k)) ∧ wr = W2) (fun _ i _ => 8 - (intOf i).toNat)
    case atStart => exact ⟨0, rfl, by omega, rfl, rfl⟩
    case round =>
      obtain ⟨k, rfl, hk, rfl, rfl⟩ := hrel
      by_cases hlt : k < 8
      · have hli : (k : Int) < 8 := by omega
        have c0 := HC.out k (by rw [HLN.out]; exact hlt)
        have HN := Lib.hid (numL_snoc bs k (by rw [HLN.out]; exact hlt))
        have ho := or_push (numL (bs.take k)) (bs[k]'(by rw [HLN.out]; exact hlt))
        generalize bs[k]'(by rw [HLN.out]; exact hlt) = x at *
        have hx : x.toNat < 256 := x.toNat_lt
        go_wp2
        refine ⟨⟨k + 1, by simp, by omega, ?_, trivial⟩, by simp [intOf]; omega⟩
        rw [wrap64_is, ho, HN.out]
      · obtain rfl : k = 8 := by omega
        have e8 : bs.take 8 = bs := List.take_of_length_le (by rw [HLN.out]; omega)
        rw [e8]
        clear e8
        go_wp2
        go_ret
        exact .inr ⟨_, _, _, HD.out, rfl, rfl, H3.out, H4.out⟩
  · have HT := Lib.hid (take_no W g xs 8 (by omega) h)
    have HN : Hid (cN.dec xs = none) := Lib.hid (if_neg hl)
    clear h hl
    go_enter Tryd.func75, Tryd.ntmps75
    go_wp2_with fail
    refine HT.out.mono ?_
    rintro e w1 ⟨rfl, hw⟩
    subst hw
    exact post_panicI rfl (.inl ⟨HN.out, rfl, Below.refl _ _⟩)
theorem One.put {g : Nat} {w w' : World} (h : One g w w') {c : Nat} (hc : w.heap.size ≤ c) (hg : g ≤ c) (i : Nat) (v : Value) : One g w (w'.setCell ⟨c, i, none⟩ v) :=
  ⟨h.b.setCell (p := ⟨c, i, none⟩) hg _, fun k hk hkg => (heap_setCell_other _ _ _ _ (by simp; omega)).trans (h.k k hk hkg)⟩
theorem One.row {g : Nat} {w w' : World} (h : One g w w') {c : Nat} (hc : w.heap.size ≤ c) (hg : g ≤ c) (cs : Array Value) : One g w (w'.setRow c cs) :=
  ⟨below_row h.b hg cs, fun k hk hkg => (setRow_other _ _ _ _ (by omega)).trans (h.k k hk hkg)⟩
theorem results_row1 {P : Program} {fn : Func} {p : Tmp} {ty : TypeId} (h : fn.results = #[.cell p ty]) (tmps : Array Value) (w : World) (g : Nat) (v : Value)
    (hp : tmps.getD p undef = .pointer (some ⟨g, 0, none⟩)) (hl : (loadVar ty ⟨g, 0, none⟩).run P w = .ok v w) : (results fn tmps).run P w = .ok v w := by
  have hp' : tmps[p]?.getD undef = .pointer (some ⟨g, 0, none⟩) := by simpa using hp
  simp [results, h, hp', asAddr, hl]
theorem sizeSltR : (Tryd.prog.info? 57).map (·.size) = some 2 := by kernel_rfl
set_option maxRecDepth 100000 in
set_option maxHeartbeats 4000000 in
theorem rslot_any : Reads Slt cT VSlt 67 := by
  intro W g xs h
  have hgl : g < W.heap.size := h.lt
  have H0 : Hid (Rdr (W.alloc (.cells #[.int .i64 0, .int .i64 0] 57)) g xs) := Lib.hid (h.alloc _)
  clear h
  have O0 := Lib.hid (One.up (g := g) ((Below.refl W.heap.size W).alloc (Nat.le_refl _) (.cells #[.int .i64 0, .int .i64 0] 57)) (by omega))
  have R0 := Lib.hid (Rw.new W 57 #[.int .i64 0, .int .i64 0] rfl)
  go_enter Tryd.func67, Tryd.ntmps67
  go_wp2_with fail
  refine (rsmall_any _ g xs H0.out).mono ?_
  rintro e w1 (⟨hn, rfl, b1⟩ | ⟨n1, q1, v1, hd1, rfl, rfl, h1, o1⟩)
  · exact post_panicI rfl (.inl ⟨im_none (pr_none1 hn), rfl, O0.out.b.trans b1⟩)
  · have HD1 := Lib.hid hd1
    have H1 := Lib.hid h1
    have O1 := Lib.hid (O0.out.trans o1)
    have R1 := Lib.hid (o1.rw R0.out (by omega))
    clear hd1 h1 o1 H0 O0 R0
    go_wp2_with fail
    refine (rsmall_any _ g q1 H1.out).mono ?_
    rintro e w2 (⟨hn, rfl, b1⟩ | ⟨n2, q2, v2, hd2, rfl, rfl, h1, o1⟩)
    · exact post_panicI rfl (.inl ⟨im_none (pr_none2 HD1.out (hn)), rfl, O1.out.b.trans b1⟩)
    · have HD2 := Lib.hid hd2
      have H2 := Lib.hid h1
      have O2 := Lib.hid (O1.out.trans o1)
      have R2 := Lib.hid (o1.rw R1.out (by omega))
      clear hd2 h1 o1 H1 O1 R1
      have HD := Lib.hid (im_some (f := fun p => (⟨p.1, p.2⟩ : Slt)) (g := fun t => (t.pt, t.tk)) (pr_some HD1.out (HD2.out)))
      clear HD1 HD2
      go_wp2_with (refine wpList_store_rowW rfl 57 (.tmp 2) (.tmp 7) rfl W.heap.size #[.int .i64 n1, .int .i64 n2] rfl rfl 57 _ R2.out sizeSltR rfl (by simp [Value.oneCell']) ?_)
      intro W4 HW4
      have r5 : Rw W4 W.heap.size 57 #[.int .i64 n1, .int .i64 n2] := by rw [HW4.out]; exact R2.out.row _
      have H5 := Lib.hid (show Rdr W4 g q2 by rw [HW4.out]; exact Rw.row_other H2.out _ (by omega))
      have O5 := Lib.hid (show One g W W4 by rw [HW4.out]; exact O2.out.row (Nat.le_refl _) (by omega) _)
      clear HW4 R2 H2 O2
      go_wp2
      refine bodyPost_ret (results_row1 Tryd.results67 _ _ W.heap.size _ rfl (run_loadVar_row _ _ 57 _ _ (0, 0) _ r5 Tryd.underlying57 rfl sizeSltR)) rfl (.inr ⟨_, _, _, HD.out, rfl, rfl, H5.out, O5.out⟩)
theorem sizeChnR : (Tryd.prog.info? 55).map (·.size) = some 3 := by kernel_rfl
set_option maxRecDepth 100000 in
set_option maxHeartbeats 4000000 in
theorem rchannel_any : Reads Chn cC VChn 65 := by
  intro W g xs h
  have hgl : g < W.heap.size := h.lt
  have H0 : Hid (Rdr (W.alloc (.cells #[.int .i64 0, .int .i64 0, .int .i64 0] 55)) g xs) := Lib.hid (h.alloc _)
  clear h
  have O0 := Lib.hid (One.up (g := g) ((Below.refl W.heap.size W).alloc (Nat.le_refl _) (.cells #[.int .i64 0, .int .i64 0, .int .i64 0] 55)) (by omega))
  have R0 := Lib.hid (Rw.new W 55 #[.int .i64 0, .int .i64 0, .int .i64 0] rfl)
  go_enter Tryd.func65, Tryd.ntmps65
  go_wp2_with fail
  refine (rsmall_any _ g xs H0.out).mono ?_
  rintro e w1 (⟨hn, rfl, b1⟩ | ⟨n1, q1, v1, hd1, rfl, rfl, h1, o1⟩)
  · exact post_panicI rfl (.inl ⟨im_none (pr_none1 hn), rfl, O0.out.b.trans b1⟩)
  · have HD1 := Lib.hid hd1
    have H1 := Lib.hid h1
    have O1 := Lib.hid (O0.out.trans o1)
    have R1 := Lib.hid (o1.rw R0.out (by omega))
    clear hd1 h1 o1 H0 O0 R0
    go_wp2_with fail
    refine (rsmall_any _ g q1 H1.out).mono ?_
    rintro e w2 (⟨hn, rfl, b1⟩ | ⟨n2, q2, v2, hd2, rfl, rfl, h1, o1⟩)
    · exact post_panicI rfl (.inl ⟨im_none (pr_none2 HD1.out (pr_none1 hn)), rfl, O1.out.b.trans b1⟩)
    · have HD2 := Lib.hid hd2
      have H2 := Lib.hid h1
      have O2 := Lib.hid (O1.out.trans o1)
      have R2 := Lib.hid (o1.rw R1.out (by omega))
      clear hd2 h1 o1 H1 O1 R1
      go_wp2_with fail
      refine (rsmall_any _ g q2 H2.out).mono ?_
      rintro e w3 (⟨hn, rfl, b1⟩ | ⟨n3, q3, v3, hd3, rfl, rfl, h1, o1⟩)
      · exact post_panicI rfl (.inl ⟨im_none (pr_none2 HD1.out (pr_none2 HD2.out (hn))), rfl, O2.out.b.trans b1⟩)
      · have HD3 := Lib.hid hd3
        have H3 := Lib.hid h1
        have O3 := Lib.hid (O2.out.trans o1)
        have R3 := Lib.hid (o1.rw R2.out (by omega))
        clear hd3 h1 o1 H2 O2 R2
        have HD := Lib.hid (im_some (f := fun p => (⟨p.1, p.2.1, p.2.2⟩ : Chn)) (g := fun c => (c.kd, c.fr, c.tt)) (pr_some HD1.out (pr_some HD2.out (HD3.out))))
        clear HD1 HD2 HD3
        go_wp2_with (refine wpList_store_rowW rfl 55 (.tmp 2) (.tmp 9) rfl W.heap.size #[.int .i64 n1, .int .i64 n2, .int .i64 n3] rfl rfl 55 _ R3.out sizeChnR rfl (by simp [Value.oneCell']) ?_)
        intro W4 HW4
        have r5 : Rw W4 W.heap.size 55 #[.int .i64 n1, .int .i64 n2, .int .i64 n3] := by rw [HW4.out]; exact R3.out.row _
        have H5 := Lib.hid (show Rdr W4 g q3 by rw [HW4.out]; exact Rw.row_other H3.out _ (by omega))
        have O5 := Lib.hid (show One g W W4 by rw [HW4.out]; exact O3.out.row (Nat.le_refl _) (by omega) _)
        clear HW4 R3 H3 O3
        go_wp2
        refine bodyPost_ret (results_row1 Tryd.results65 _ _ W.heap.size _ rfl (run_loadVar_row _ _ 55 _ _ (0, 0) _ r5 Tryd.underlying55 rfl sizeChnR)) rfl (.inr ⟨_, _, _, HD.out, rfl, rfl, H5.out, O5.out⟩)
theorem sizeInsR : (Tryd.prog.info? 59).map (·.size) = some 4 := by kernel_rfl
set_option maxRecDepth 100000 in
set_option maxHeartbeats 4000000 in
theorem rinstr_any : Reads Ins cI VIns 73 := by
  intro W g xs h
  have hgl : g < W.heap.size := h.lt
  have H0 : Hid (Rdr (W.alloc (.cells #[.int .i64 0, .int .i64 0, .int .i64 0, .int .i64 0] 59)) g xs) := Lib.hid (h.alloc _)
  clear h
  have O0 := Lib.hid (One.up (g := g) ((Below.refl W.heap.size W).alloc (Nat.le_refl _) (.cells #[.int .i64 0, .int .i64 0, .int .i64 0, .int .i64 0] 59)) (by omega))
  have R0 := Lib.hid (Rw.new W 59 #[.int .i64 0, .int .i64 0, .int .i64 0, .int .i64 0] rfl)
  go_enter Tryd.func73, Tryd.ntmps73
  go_wp2_with fail
  refine (rsmall_any _ g xs H0.out).mono ?_
  rintro e w1 (⟨hn, rfl, b1⟩ | ⟨n1, q1, v1, hd1, rfl, rfl, h1, o1⟩)
  · exact post_panicI rfl (.inl ⟨im_none (pr_none1 hn), rfl, O0.out.b.trans b1⟩)
  · have HD1 := Lib.hid hd1
    have H1 := Lib.hid h1
    have O1 := Lib.hid (O0.out.trans o1)
    have R1 := Lib.hid (o1.rw R0.out (by omega))
    clear hd1 h1 o1 H0 O0 R0
    go_wp2_with fail
    refine (rsmall_any _ g q1 H1.out).mono ?_
    rintro e w2 (⟨hn, rfl, b1⟩ | ⟨n2, q2, v2, hd2, rfl, rfl, h1, o1⟩)
    · exact post_panicI rfl (.inl ⟨im_none (pr_none2 HD1.out (pr_none1 hn)), rfl, O1.out.b.trans b1⟩)
    · have HD2 := Lib.hid hd2
      have H2 := Lib.hid h1
      have O2 := Lib.hid (O1.out.trans o1)
      have R2 := Lib.hid (o1.rw R1.out (by omega))
      clear hd2 h1 o1 H1 O1 R1
      go_wp2_with fail
      refine (rsmall_any _ g q2 H2.out).mono ?_
      rintro e w3 (⟨hn, rfl, b1⟩ | ⟨n3, q3, v3, hd3, rfl, rfl, h1, o1⟩)
      · exact post_panicI rfl (.inl ⟨im_none (pr_none2 HD1.out (pr_none2 HD2.out (pr_none1 hn))), rfl, O2.out.b.trans b1⟩)
      · have HD3 := Lib.hid hd3
        have H3 := Lib.hid h1
        have O3 := Lib.hid (O2.out.trans o1)
        have R3 := Lib.hid (o1.rw R2.out (by omega))
        clear hd3 h1 o1 H2 O2 R2
        go_wp2_with fail
        refine (rnumber_any _ g q3 H3.out).mono ?_
        rintro e w4 (⟨hn, rfl, b1⟩ | ⟨n4, q4, v4, hd4, rfl, rfl, h1, o1⟩)
        · exact post_panicI rfl (.inl ⟨im_none (pr_none2 HD1.out (pr_none2 HD2.out (pr_none2 HD3.out (hn)))), rfl, O3.out.b.trans b1⟩)
        · have HD4 := Lib.hid hd4
          have H4 := Lib.hid h1
          have O4 := Lib.hid (O3.out.trans o1)
          have R4 := Lib.hid (o1.rw R3.out (by omega))
          clear hd4 h1 o1 H3 O3 R3
          have HD := Lib.hid (im_some (f := fun p => (⟨p.1, p.2.1, p.2.2.1, p.2.2.2⟩ : Ins)) (g := fun i => (i.op, i.a, i.b, i.n)) (pr_some HD1.out (pr_some HD2.out (pr_some HD3.out (HD4.out)))))
          clear HD1 HD2 HD3 HD4
          go_wp2_with (refine wpList_store_rowW rfl 59 (.tmp 2) (.tmp 11) rfl W.heap.size #[.int .i64 n1, .int .i64 n2, .int .i64 n3, .int .i64 n4] rfl rfl 59 _ R4.out sizeInsR rfl (by simp [Value.oneCell']) ?_)
          intro W4 HW4
          have r5 : Rw W4 W.heap.size 59 #[.int .i64 n1, .int .i64 n2, .int .i64 n3, .int .i64 n4] := by rw [HW4.out]; exact R4.out.row _
          have H5 := Lib.hid (show Rdr W4 g q4 by rw [HW4.out]; exact Rw.row_other H4.out _ (by omega))
          have O5 := Lib.hid (show One g W W4 by rw [HW4.out]; exact O4.out.row (Nat.le_refl _) (by omega) _)
          clear HW4 R4 H4 O4
          go_wp2
          refine bodyPost_ret (results_row1 Tryd.results73 _ _ W.heap.size _ rfl (run_loadVar_row _ _ 59 _ _ (0, 0) _ r5 Tryd.underlying59 rfl sizeInsR)) rfl (.inr ⟨_, _, _, HD.out, rfl, rfl, H5.out, O5.out⟩)
end Go.Proofs.YtbhfnkbflikliaaDoor

namespace Go.Proofs.YtbhfnkbflikliaaDoor
set_option linter.unusedSimpArgs false
set_option linter.unusedVariables false
open Go.RowKit Go.Sort
def Enters (f : Nat) : Prop := ∀ args w, Sem.run Tryd.prog (callFunc f args) w = .ok (.enter f args) w
theorem enters {f : Nat} {fn : Func} (hf : Tryd.prog.funcs[f]? = some fn) (hn : (fn.name == "runtime.NumGoroutine") = false) (hb : fn.body.isNone = false) : Enters f := by
  intro args w
  have hn' : ¬ fn.name = "runtime.NumGoroutine" := by simpa using hn
  have hb' : ¬ fn.body = none := fun e => by rw [e] at hb; cases hb
  simp [callFunc, go_sem, hf, hn', hb']
end Go.Proofs.YtbhfnkbflikliaaDoor

/- Things as bytes, in plain words: what is written is read as it was, and nothing else is. -/
import Derived.Test.YtbkdoohhdkahiaaGreatDoorJ3
import Derived.Laws.BitsLemmas
import Derived.Test.YtbkdoohhdkahiaaGreatDoorJ4
import Derived.Deep.RegionWith
import Derived.Test.YtbkdoohhdkahiaaGreatDoorJ1
namespace Go.Proofs.YtbkdoohhdkahiaaGreatDoor
set_option linter.unusedSimpArgs false
set_option linter.unusedVariables false
set_option maxRecDepth 100000
set_option maxHeartbeats 4000000
open Go.RowKit Go.Sort
variable {n : Int} {l r : List UInt8} {B b : Nat} {w w' : World}
def by8 (n : Int) : UInt8 := UInt8.ofNat (n % 256).toNat
theorem xeg (n : Int) : ((by8 n).toNat : Int) = n % 256 := by
 unfold by8
 rw [UInt8.toNat_ofNat']
 omega
theorem xg4 (m : Int) (b : UInt8) : by8 (m * 256 + b.toNat) = b := by
 have h := xeg (m * 256 + b.toNat)
 have hb : b.toNat < 256 := b.toNat_lt
 apply UInt8.toNat_inj.1
 omega
theorem xpu (h0 : 0 <= n) (h1 : n < 256) : ((by8 n).toNat : Int) = n := by rw [xeg]; omega
def eight (n : Int) : List UInt8 := [by8 (n / 72057594037927936), by8 (n / 281474976710656), by8 (n / 1099511627776), by8 (n / 4294967296), by8 (n / 16777216), by8 (n / 65536), by8 (n / 256), by8 n]
theorem xf2 (n : Int) : (eight n).length = 8 := rfl
def xjg (n : Int) (b : UInt8) : Int := IntKind.i64.wrap (n * 256 + b.toNat)
def xtg (l : List UInt8) : Int := l.foldl xjg 0
theorem xwq (n : Int) : xb6 (IntKind.i64.wrap n) := by
 rw [IntKind.wrap_i64]
 unfold xb6
 omega
theorem xb1 (n : Int) (b : UInt8) : xjg (IntKind.i64.wrap n) b = IntKind.i64.wrap (n * 256 + b.toNat) := by
 unfold xjg
 rw [IntKind.wrap_i64, IntKind.wrap_i64, IntKind.wrap_i64]
 omega
theorem xwn (n : Int) (b : UInt8) : bits .or .i64 (IntKind.i64.wrap (n * 256)) (b.toNat : Int) = xjg n b := by
 have hb : b.toNat < 256 := b.toNat_lt
 have e1 : BitVec.ofInt 64 (IntKind.i64.wrap (n * 256)) = BitVec.ofNat 64 (n * 256 % 18446744073709551616).toNat := by
  apply BitVec.eq_of_toNat_eq
  rw [BitVec.toNat_ofInt, BitVec.toNat_ofNat, IntKind.wrap_i64]
  omega
 have e2 : BitVec.ofInt 64 (b.toNat : Int) = BitVec.ofNat 64 b.toNat := by
  apply BitVec.eq_of_toNat_eq
  rw [BitVec.toNat_ofInt, BitVec.toNat_ofNat]
  omega
 unfold bits xjg
 show IntKind.i64.wrap (((BitVec.ofInt 64 (IntKind.i64.wrap (n * 256)) ||| BitVec.ofInt 64 (b.toNat : Int)).toNat : Nat) : Int) = _
 rw [e1, e2, BitVec.toNat_or, BitVec.toNat_ofNat, BitVec.toNat_ofNat]
 have hm : b.toNat % 2 ^ 64 = b.toNat := Nat.mod_eq_of_lt om
 obtain ⟨q, hq⟩ : ∃ q : Nat, (n * 256 % 18446744073709551616).toNat % 2 ^ 64 = 2 ^ 8 * q := ⟨(n * 256 % 18446744073709551616).toNat % 2 ^ 64 / 256, by omega⟩
 rw [hm, hq, <- Nat.two_pow_add_eq_or_of_lt (i := 8) om q]
 have h2 : ((2 ^ 8 * q + b.toNat : Nat) : Int) = n * 256 % 18446744073709551616 + b.toNat := by omega
 rw [h2, IntKind.wrap_i64, IntKind.wrap_i64]
 omega
theorem xft (n : Int) (m : Int) (h : 0 < m) : n / (m * 256) = n / m / 256 := by rw [Int.ediv_ediv_of_nonneg om]
theorem xux (h : xb6 n) : xtg (eight n) = n := by
 have e : xtg (eight n) = IntKind.i64.wrap (((((((((0 * 256 + (by8 (n / 72057594037927936)).toNat) * 256 + (by8 (n / 281474976710656)).toNat) * 256 + (by8 (n / 1099511627776)).toNat) * 256 + (by8 (n / 4294967296)).toNat) * 256 + (by8 (n / 16777216)).toNat) * 256 + (by8 (n / 65536)).toNat) * 256 + (by8 (n / 256)).toNat) * 256) + (by8 n).toNat) := by
  show xjg (xjg (xjg (xjg (xjg (xjg (xjg (xjg 0 _) _) _) _) _) _) _) _ = _
  rw [show xjg 0 (by8 (n / 72057594037927936)) = IntKind.i64.wrap (0 * 256 + (by8 (n / 72057594037927936)).toNat) from rfl, xb1, xb1, xb1, xb1, xb1, xb1, xb1]
 rw [e]
 rw [xeg, xeg, xeg, xeg, xeg, xeg, xeg, xeg]
 rw [show (72057594037927936 : Int) = 281474976710656 * 256 by rfl, xft n 281474976710656 (by decide), show (281474976710656 : Int) = 1099511627776 * 256 by rfl, xft n 1099511627776 (by decide), show (1099511627776 : Int) = 4294967296 * 256 by rfl, xft n 4294967296 (by decide), show (4294967296 : Int) = 16777216 * 256 by rfl, xft n 16777216 (by decide), show (16777216 : Int) = 65536 * 256 by rfl, xft n 65536 (by decide), show (65536 : Int) = 256 * 256 by rfl, xft n 256 (by decide)]
 unfold xb6 at h
 generalize h1 : n / 256 = q1
 generalize h2 : q1 / 256 = q2
 generalize h3 : q2 / 256 = q3
 generalize h4 : q3 / 256 = q4
 generalize h5 : q4 / 256 = q5
 generalize h6 : q5 / 256 = q6
 generalize h7 : q6 / 256 = q7
 have e0 : n % 256 = n - 256 * q1 := by omega
 have e1 : q1 % 256 = q1 - 256 * q2 := by omega
 have e2 : q2 % 256 = q2 - 256 * q3 := by omega
 have e3 : q3 % 256 = q3 - 256 * q4 := by omega
 have e4 : q4 % 256 = q4 - 256 * q5 := by omega
 have e5 : q5 % 256 = q5 - 256 * q6 := by omega
 have e6 : q6 % 256 = q6 - 256 * q7 := by omega
 have e7 : q7 % 256 = q7 - 256 * (q7 / 256) := by omega
 rw [e0, e1, e2, e3, e4, e5, e6, e7]
 generalize q7 / 256 = q8
 clear h1 h2 h3 h4 h5 h6 h7 e0 e1 e2 e3 e4 e5 e6 e7 e
 rw [show (((((((((0 : Int) * 256 + (q7 - 256 * q8)) * 256 + (q6 - 256 * q7)) * 256 + (q5 - 256 * q6)) * 256 + (q4 - 256 * q5)) * 256 + (q3 - 256 * q4)) * 256 + (q2 - 256 * q3)) * 256 + (q1 - 256 * q2)) * 256) + (n - 256 * q1) = n - 18446744073709551616 * q8 by omega]
 rw [IntKind.wrap_i64]
 omega
theorem xvx (h : l.length = 8) : eight (xtg l) = l := by
 match l, h with
 | [b7, b6, b5, b4, b3, b2, b1, b0], _ =>
  have e : xtg [b7, b6, b5, b4, b3, b2, b1, b0] = IntKind.i64.wrap (((((((((0 * 256 + (b7.toNat : Int)) * 256 + b6.toNat) * 256 + b5.toNat) * 256 + b4.toNat) * 256 + b3.toNat) * 256 + b2.toNat) * 256 + b1.toNat) * 256) + b0.toNat) := by
   show xjg (xjg (xjg (xjg (xjg (xjg (xjg (xjg 0 _) _) _) _) _) _) _) _ = _
   rw [show xjg 0 b7 = IntKind.i64.wrap (0 * 256 + b7.toNat) from rfl, xb1, xb1, xb1, xb1, xb1, xb1, xb1]
  rw [e]
  have hw : ∀ x : Int, ∃ t : Int, IntKind.i64.wrap x = x + 18446744073709551616 * t := fun x => ⟨(IntKind.i64.wrap x - x) / 18446744073709551616, by rw [IntKind.wrap_i64]; omega⟩
  obtain ⟨t, ht⟩ := hw (((((((((0 * 256 + (b7.toNat : Int)) * 256 + b6.toNat) * 256 + b5.toNat) * 256 + b4.toNat) * 256 + b3.toNat) * 256 + b2.toNat) * 256 + b1.toNat) * 256) + b0.toNat)
  rw [ht]
  have p7 : b7.toNat < 256 := b7.toNat_lt
  have p6 : b6.toNat < 256 := b6.toNat_lt
  have p5 : b5.toNat < 256 := b5.toNat_lt
  have p4 : b4.toNat < 256 := b4.toNat_lt
  have p3 : b3.toNat < 256 := b3.toNat_lt
  have p2 : b2.toNat < 256 := b2.toNat_lt
  have p1 : b1.toNat < 256 := b1.toNat_lt
  have p0 : b0.toNat < 256 := b0.toNat_lt
  obtain ⟨m7, g7⟩ : ∃ m7 : Int, m7 = t := ⟨_, rfl⟩
  obtain ⟨m6, g6⟩ : ∃ m6 : Int, m6 = m7 * 256 + b7.toNat := ⟨_, rfl⟩
  obtain ⟨m5, g5⟩ : ∃ m5 : Int, m5 = m6 * 256 + b6.toNat := ⟨_, rfl⟩
  obtain ⟨m4, g4⟩ : ∃ m4 : Int, m4 = m5 * 256 + b5.toNat := ⟨_, rfl⟩
  obtain ⟨m3, g3⟩ : ∃ m3 : Int, m3 = m4 * 256 + b4.toNat := ⟨_, rfl⟩
  obtain ⟨m2, g2⟩ : ∃ m2 : Int, m2 = m3 * 256 + b3.toNat := ⟨_, rfl⟩
  obtain ⟨m1, g1⟩ : ∃ m1 : Int, m1 = m2 * 256 + b2.toNat := ⟨_, rfl⟩
  obtain ⟨m0, g0⟩ : ∃ m0 : Int, m0 = m1 * 256 + b1.toNat := ⟨_, rfl⟩
  rw [show (((((((((0 : Int) * 256 + b7.toNat) * 256 + b6.toNat) * 256 + b5.toNat) * 256 + b4.toNat) * 256 + b3.toNat) * 256 + b2.toNat) * 256 + b1.toNat) * 256) + b0.toNat + 18446744073709551616 * t = m0 * 256 + b0.toNat by omega]
  clear ht hw e
  have d1 : (m0 * 256 + b0.toNat) / 256 = m0 := by omega
  have d2 : m0 / 256 = m1 := by omega
  have d3 : m1 / 256 = m2 := by omega
  have d4 : m2 / 256 = m3 := by omega
  have d5 : m3 / 256 = m4 := by omega
  have d6 : m4 / 256 = m5 := by omega
  have d7 : m5 / 256 = m6 := by omega
  unfold eight
  rw [show (72057594037927936 : Int) = 281474976710656 * 256 by rfl, xft _ 281474976710656 (by decide), show (281474976710656 : Int) = 1099511627776 * 256 by rfl, xft _ 1099511627776 (by decide), show (1099511627776 : Int) = 4294967296 * 256 by rfl, xft _ 4294967296 (by decide), show (4294967296 : Int) = 16777216 * 256 by rfl, xft _ 16777216 (by decide), show (16777216 : Int) = 65536 * 256 by rfl, xft _ 65536 (by decide), show (65536 : Int) = 256 * 256 by rfl, xft _ 256 (by decide)]
  rw [d1, d2, d3, d4, d5, d6, d7, xg4 m1 b1 |> fun h => (g0 ▸ h : by8 m0 = b1), xg4 m2 b2 |> fun h => (g1 ▸ h : by8 m1 = b2), xg4 m3 b3 |> fun h => (g2 ▸ h : by8 m2 = b3), xg4 m4 b4 |> fun h => (g3 ▸ h : by8 m3 = b4), xg4 m5 b5 |> fun h => (g4 ▸ h : by8 m4 = b5), xg4 m6 b6 |> fun h => (g5 ▸ h : by8 m5 = b6), xg4 m7 b7 |> fun h => (g6 ▸ h : by8 m6 = b7), xg4]
structure Cod (α : Type) where
 enc : α -> List UInt8
 dec : List UInt8 -> Option (α × List UInt8)
 eye : List UInt8 -> α × List UInt8
 good : α -> Prop
structure Cod.Ok {α : Type} (C : Cod α) : Prop where
 de : ∀ a r, C.good a -> C.dec (C.enc a ++ r) = some (a, r)
 ed : ∀ l a r, C.dec l = some (a, r) -> l = C.enc a ++ r
 eg : ∀ l a r, C.dec l = some (a, r) -> C.good a
 le : ∀ l a r, C.dec l = some (a, r) -> C.eye l = (a, r)
 lg : ∀ l, C.good (C.eye l).1
def decB : List UInt8 -> Option (Int × List UInt8)
 | [] => none
 | b :: r => some ((b.toNat : Int), r)
def xer : List UInt8 -> Int × List UInt8
 | [] => (0, [])
 | b :: r => ((b.toNat : Int), r)
def cB : Cod Int := ⟨fun n => [by8 n], decB, xer, fun n => 0 <= n /\ n < 256⟩
theorem xpf : cB.Ok where
 de := fun a r h => by
  show some (((by8 a).toNat : Int), r) = _
  rw [xpu h.1 h.2]
 ed := fun l a r h => by
  match l, h with
  | b :: q, h =>
   injection h with h
   injection h with h1 h2
   subst h1
   subst h2
   have := xg4 0 b
   rw [Int.zero_mul, Int.zero_add] at this
   show b :: q = [by8 (b.toNat : Int)] ++ q
   rw [this]
   rfl
 eg := fun l a r h => by
  match l, h with
  | b :: q, h =>
   injection h with h
   injection h with h1 h2
   subst h1
   have : b.toNat < 256 := b.toNat_lt
   exact ⟨by omega, by omega⟩
 le := fun l a r h => by
  match l, h with
  | b :: q, h =>
   injection h with h
 lg := fun l => by
  match l with
  | [] => exact ⟨by decide, by decide⟩
  | b :: q =>
   have : b.toNat < 256 := b.toNat_lt
   exact ⟨Int.natCast_nonneg _, by show (b.toNat : Int) < 256; omega⟩
def xz4 (l : List UInt8) : Option (Int × List UInt8) := if 8 <= l.length then some (xtg (l.take 8), l.drop 8) else none
def xna : Nat -> List UInt8 -> Int × List UInt8
 | 0, l => (0, l)
 | k + 1, l => (IntKind.i64.wrap ((xna k l).1 * 256 + (xer (xna k l).2).1), (xer (xna k l).2).2)
theorem x2s (l : List UInt8) : xb6 (xtg l) := by
 unfold xtg
 rcases List.eq_nil_or_concat l with rfl | ⟨q, b, rfl⟩
 .exact ⟨by decide, by decide⟩
 .rw [List.concat_eq_append, List.foldl_append]
  exact xwq _
def cN : Cod Int := ⟨eight, xz4, xna 8, xb6⟩
theorem x4y : cN.Ok where
 de := fun a r h => by
  show xz4 (eight a ++ r) = _
  unfold xz4
  rw [if_pos (by rw [List.length_append, xf2]; omega), List.take_left' (xf2 a), List.drop_left' (xf2 a), xux h]
 ed := fun l a r h => by
  have h : xz4 l = some (a, r) := h
  unfold xz4 at h
  split at h
  .rename_i hl
   injection h with h
   injection h with h1 h2
   subst h1
   subst h2
   show l = eight (xtg (l.take 8)) ++ l.drop 8
   rw [xvx (by rw [List.length_take]; omega), List.take_append_drop]
  .cases h
 eg := fun l a r h => by
  have h : xz4 l = some (a, r) := h
  unfold xz4 at h
  split at h
  .injection h with h
   injection h with h1 h2
   subst h1
   exact x2s _
  .cases h
 le := fun l a r h => by
  have h : xz4 l = some (a, r) := h
  match l, h with
  | b7 :: b6 :: b5 :: b4 :: b3 :: b2 :: b1 :: b0 :: q, h =>
   unfold xz4 at h
   rw [if_pos (by simp)] at h
   injection h with h
 lg := fun l => xwq _
def Cod.pr {α β : Type} (A : Cod α) (B : Cod β) : Cod (α × β) where
 enc p := A.enc p.1 ++ B.enc p.2
 dec l := match A.dec l with
  | none => none
  | some (a, r) => match B.dec r with
   | none => none
   | some (b, q) => some ((a, b), q)
 eye l := (((A.eye l).1, (B.eye (A.eye l).2).1), (B.eye (A.eye l).2).2)
 good p := A.good p.1 /\ B.good p.2
section
variable {α β : Type} {A : Cod α} {B : Cod β} {l r q : List UInt8} {a : α} {b : β}
theorem xdq (h : A.dec l = none) : (A.pr B).dec l = none := by simp [Cod.pr, h]
theorem xcb (h : A.dec l = some (a, r)) (h' : B.dec r = none) : (A.pr B).dec l = none := by simp [Cod.pr, h, h']
theorem xeq (h : A.dec l = some (a, r)) (h' : B.dec r = some (b, q)) : (A.pr B).dec l = some ((a, b), q) := by simp [Cod.pr, h, h']
theorem x2w {p : α × β} (h : (A.pr B).dec l = some (p, q)) : ∃ r, A.dec l = some (p.1, r) /\ B.dec r = some (p.2, q) := by
 cases h1 : A.dec l with
 | none => rw [xdq h1] at h; cases h
 | some x =>
  obtain ⟨a, r⟩ := x
  cases h2 : B.dec r with
  | none => rw [xcb h1 h2] at h; cases h
  | some y =>
   obtain ⟨b, q'⟩ := y
   rw [xeq h1 h2] at h
   injection h with h
   injection h with e1 e2
   subst e1
   subst e2
   exact ⟨r, rfl, h2⟩
end
theorem Cod.Ok.pr {α β : Type} {A : Cod α} {B : Cod β} (hA : A.Ok) (hB : B.Ok) : (A.pr B).Ok where
 de := fun p r h => by
  show (A.pr B).dec ((A.enc p.1 ++ B.enc p.2) ++ r) = _
  rw [List.append_assoc]
  exact xeq (hA.de _ _ h.1) (hB.de _ _ h.2)
 ed := fun l p q h => by
  obtain ⟨r, h1, h2⟩ := x2w h
  rw [hA.ed _ _ _ h1, hB.ed _ _ _ h2, <- List.append_assoc]
  rfl
 eg := fun l p q h => by
  obtain ⟨r, h1, h2⟩ := x2w h
  exact ⟨hA.eg _ _ _ h1, hB.eg _ _ _ h2⟩
 le := fun l p q h => by
  obtain ⟨r, h1, h2⟩ := x2w h
  show (((A.eye l).1, (B.eye (A.eye l).2).1), (B.eye (A.eye l).2).2) = _
  rw [hA.le _ _ _ h1]
  show ((p.1, (B.eye r).1), (B.eye r).2) = _
  rw [hB.le _ _ _ h2]
 lg := fun l => ⟨hA.lg _, hB.lg _⟩
def Cod.im {α β : Type} (A : Cod α) (f : α -> β) (g : β -> α) : Cod β where
 enc b := A.enc (g b)
 dec l := match A.dec l with
  | none => none
  | some (a, r) => some (f a, r)
 eye l := (f (A.eye l).1, (A.eye l).2)
 good b := A.good (g b)
theorem xc0 {α β : Type} {A : Cod α} {f : α -> β} {g : β -> α} (h : A.dec l = none) : (A.im f g).dec l = none := by simp [Cod.im, h]
theorem xhg {α β : Type} {A : Cod α} {f : α -> β} {g : β -> α} {a : α} (h : A.dec l = some (a, r)) : (A.im f g).dec l = some (f a, r) := by simp [Cod.im, h]
theorem x4a {α β : Type} {A : Cod α} {f : α -> β} {g : β -> α} {b : β} (h : (A.im f g).dec l = some (b, r)) : ∃ a, b = f a /\ A.dec l = some (a, r) := by
 cases h1 : A.dec l with
 | none => rw [xc0 h1] at h; cases h
 | some x =>
  obtain ⟨a, q⟩ := x
  rw [xhg h1] at h
  injection h with h
  injection h with e1 e2
  subst e2
  exact ⟨a, e1.symm, rfl⟩
theorem Cod.Ok.im {α β : Type} {A : Cod α} (hA : A.Ok) {f : α -> β} {g : β -> α} (h1 : ∀ a, g (f a) = a) (h2 : ∀ b, f (g b) = b) : (A.im f g).Ok where
 de := fun b r h => by
  show (A.im f g).dec (A.enc (g b) ++ r) = _
  rw [xhg (hA.de _ _ h), h2]
 ed := fun l b r h => by
  obtain ⟨a, rfl, h'⟩ := x4a h
  show l = A.enc (g (f a)) ++ r
  rw [h1]
  exact hA.ed _ _ _ h'
 eg := fun l b r h => by
  obtain ⟨a, rfl, h'⟩ := x4a h
  show A.good (g (f a))
  rw [h1]
  exact hA.eg _ _ _ h'
 le := fun l b r h => by
  obtain ⟨a, rfl, h'⟩ := x4a h
  show (f (A.eye l).1, (A.eye l).2) = _
  rw [hA.le _ _ _ h']
 lg := fun l => by
  show A.good (g (f (A.eye l).1))
  rw [h1]
  exact hA.lg _
def xc1 {α : Type} (A : Cod α) : Nat -> List UInt8 -> Option (List α × List UInt8)
 | 0, l => some ([], l)
 | n + 1, l => match xc1 A n l with
  | none => none
  | some (ds, q) => match A.dec q with
   | none => none
   | some (d, r) => some (ds ++ [d], r)
def xbk {α : Type} (A : Cod α) : Nat -> List UInt8 -> List α × List UInt8
 | 0, l => ([], l)
 | n + 1, l => ((xbk A n l).1 ++ [(A.eye (xbk A n l).2).1], (A.eye (xbk A n l).2).2)
section
variable {α : Type} {A : Cod α} {n m : Nat} {l q r : List UInt8} {ds : List α} {d : α}
theorem xp7 (h : xc1 A n l = none) : xc1 A (n + 1) l = none := by simp [xc1, h]
theorem xi6 (h : xc1 A n l = some (ds, q)) (h' : A.dec q = none) : xc1 A (n + 1) l = none := by simp [xc1, h, h']
theorem xfr (h : xc1 A n l = some (ds, q)) (h' : A.dec q = some (d, r)) : xc1 A (n + 1) l = some (ds ++ [d], r) := by simp [xc1, h, h']
theorem xu4 (h : xc1 A n l = none) (hm : n <= m) : xc1 A m l = none := by
 induction m with
 | zero => obtain rfl : n = 0 := by omega
           exact h
 | succ m ih =>
  by_cases e : n = m + 1
  .exact e ▸ h
  .exact xp7 (ih om)
theorem xn3 (h : xc1 A (n + 1) l = some (ds, r)) : ∃ es d q, ds = es ++ [d] /\ xc1 A n l = some (es, q) /\ A.dec q = some (d, r) := by
 cases h1 : xc1 A n l with
 | none => rw [xp7 h1] at h; cases h
 | some x =>
  obtain ⟨es, q⟩ := x
  cases h2 : A.dec q with
  | none => rw [xi6 h1 h2] at h; cases h
  | some y =>
   obtain ⟨d, r'⟩ := y
   rw [xfr h1 h2] at h
   injection h with h
   injection h with e1 e2
   subst e1
   subst e2
   exact ⟨es, d, q, rfl, rfl, h2⟩
theorem xcz : ∀ {n : Nat} {ds : List α} {r : List UInt8}, xc1 A n l = some (ds, r) -> ds.length = n
 | 0, ds, r, h => by injection h with h; injection h with e1 e2; subst e1; rfl
 | n + 1, ds, r, h => by
  obtain ⟨es, d, q, rfl, h1, _⟩ := xn3 h
  rw [List.length_append, xcz h1]
  rfl
theorem xwr (hA : A.Ok) : ∀ {n : Nat} {ds : List α} {r : List UInt8}, xc1 A n l = some (ds, r) -> l = ds.flatMap A.enc ++ r
 | 0, ds, r, h => by injection h with h; injection h with e1 e2; subst e1; subst e2; rfl
 | n + 1, ds, r, h => by
  obtain ⟨es, d, q, rfl, h1, h2⟩ := xn3 h
  rw [xwr hA h1, hA.ed _ _ _ h2]
  simp
theorem xzf (hA : A.Ok) : ∀ {n : Nat} {ds : List α} {r : List UInt8}, xc1 A n l = some (ds, r) -> ∀ d ∈ ds, A.good d
 | 0, ds, r, h => by injection h with h; injection h with e1 e2; subst e1; exact fun d hd => by cases hd
 | n + 1, ds, r, h => by
  obtain ⟨es, d, q, rfl, h1, h2⟩ := xn3 h
  intro x hx
  rcases List.mem_append.1 hx with hx | hx
  .exact xzf hA h1 x hx
  .rw [List.mem_singleton.1 hx]
   exact hA.eg _ _ _ h2
theorem xww (hA : A.Ok) : ∀ {n : Nat} {ds : List α} {r : List UInt8}, xc1 A n l = some (ds, r) -> xbk A n l = (ds, r)
 | 0, ds, r, h => by injection h
 | n + 1, ds, r, h => by
  obtain ⟨es, d, q, rfl, h1, h2⟩ := xn3 h
  show ((xbk A n l).1 ++ [(A.eye (xbk A n l).2).1], (A.eye (xbk A n l).2).2) = _
  rw [xww hA h1]
  show (es ++ [(A.eye q).1], (A.eye q).2) = _
  rw [hA.le _ _ _ h2]
theorem xdb (A : Cod α) (l : List UInt8) : ∀ n, (xbk A n l).1.length = n
 | 0 => rfl
 | n + 1 => by
  show ((xbk A n l).1 ++ [(A.eye (xbk A n l).2).1]).length = _
  rw [List.length_append, xdb A l n]
  rfl
theorem xmh (hA : A.Ok) (l : List UInt8) : ∀ n, ∀ d ∈ (xbk A n l).1, A.good d
 | 0 => fun d hd => by cases hd
 | n + 1 => fun x hx => by
  rcases List.mem_append.1 (show x ∈ (xbk A n l).1 ++ [(A.eye (xbk A n l).2).1] from hx) with hx | hx
  .exact xmh hA l n x hx
  .rw [List.mem_singleton.1 hx]
   exact hA.lg _
theorem xyb (hA : A.Ok) : ∀ {ds : List α} (_ : ∀ d ∈ ds, A.good d) (k : Nat) (_ : k <= ds.length) (r : List UInt8), xc1 A k (ds.flatMap A.enc ++ r) = some (ds.take k, (ds.drop k).flatMap A.enc ++ r)
 | ds, _, 0, _, r => rfl
 | ds, h, k + 1, hk, r => by
  have h1 := xyb hA h k om r
  have hd : ds.drop k = ds[k] :: ds.drop (k + 1) := List.drop_eq_getElem_cons om
  rw [hd, List.flatMap_cons, List.append_assoc] at h1
  rw [xfr h1 (hA.de _ _ (h _ (List.getElem_mem _))), List.take_add_one, List.getElem?_eq_getElem om]
  rfl
end
def Cod.ls {α : Type} (A : Cod α) : Cod (List α) where
 enc ds := by8 ds.length :: ds.flatMap A.enc
 dec l := match l with
  | [] => none
  | b :: r => xc1 A b.toNat r
 eye l := xbk A (xer l).1.toNat (xer l).2
 good ds := ds.length < 256 /\ ∀ d ∈ ds, A.good d
theorem xi2 (l : List UInt8) : 0 <= (xer l).1 /\ (xer l).1 < 256 := by
 match l with
 | [] => exact ⟨by decide, by decide⟩
 | b :: q =>
  have : b.toNat < 256 := b.toNat_lt
  exact ⟨Int.natCast_nonneg _, by show (b.toNat : Int) < 256; omega⟩
theorem Cod.Ok.ls {α : Type} {A : Cod α} (hA : A.Ok) : A.ls.Ok where
 de := fun ds r h => by
  have hn : (by8 ds.length).toNat = ds.length := by
   have := xpu (n := ds.length) om (by have := h.1; omega)
   omega
  show xc1 A (by8 ds.length).toNat (ds.flatMap A.enc ++ r) = _
  rw [hn, xyb hA h.2 ds.length (Nat.le_refl _) r, List.take_length, List.drop_length]
  rfl
 ed := fun l ds r h => by
  match l, h with
  | b :: q, h =>
   have h : xc1 A b.toNat q = some (ds, r) := h
   show b :: q = by8 ds.length :: ds.flatMap A.enc ++ r
   have := xg4 0 b
   rw [Int.zero_mul, Int.zero_add] at this
   rw [xcz h, this, xwr hA h]
   rfl
 eg := fun l ds r h => by
  match l, h with
  | b :: q, h =>
   have h : xc1 A b.toNat q = some (ds, r) := h
   have : b.toNat < 256 := b.toNat_lt
   exact ⟨by rw [xcz h]; exact this, xzf hA h⟩
 le := fun l ds r h => by
  match l, h with
  | b :: q, h =>
   have h : xc1 A b.toNat q = some (ds, r) := h
   show xbk A ((b.toNat : Int)).toNat q = _
   rw [Int.toNat_natCast]
   exact xww hA h
 lg := fun l => ⟨by have := xi2 l; show (xbk A (xer l).1.toNat (xer l).2).1.length < 256; rw [xdb]; omega, xmh hA _ _⟩
def cI : Cod Ins := (cB.pr (cB.pr (cB.pr cN))).im (fun p => ⟨p.1, p.2.1, p.2.2.1, p.2.2.2⟩) (fun i => (i.op, i.a, i.b, i.n))
def cP : Cod Prt := (cI.ls.pr cN.ls).im (fun p => ⟨p.1, p.2⟩) (fun p => (p.code, p.inn))
def cC : Cod Chn := (cB.pr (cB.pr cB)).im (fun p => ⟨p.1, p.2.1, p.2.2⟩) (fun c => (c.kd, c.fr, c.tt))
def cT : Cod Slt := (cB.pr cB).im (fun p => ⟨p.1, p.2⟩) (fun t => (t.pt, t.tk))
def cS : Cod SysD := (cP.ls.pr (cC.ls.pr cT.ls)).im (fun p => ⟨p.1, p.2.1, p.2.2⟩) (fun s => (s.parts, s.chans, s.slots))
theorem x54 : cI.Ok := (xpf.pr (xpf.pr (xpf.pr x4y))).im (fun _ => rfl) (fun _ => rfl)
theorem x5z : cP.Ok := (x54.ls.pr x4y.ls).im (fun _ => rfl) (fun _ => rfl)
theorem x58 : cC.Ok := (xpf.pr (xpf.pr xpf)).im (fun _ => rfl) (fun _ => rfl)
theorem x53 : cT.Ok := (xpf.pr xpf).im (fun _ => rfl) (fun _ => rfl)
theorem xoe : cS.Ok := (x5z.ls.pr (x58.ls.pr x53.ls)).im (fun _ => rfl) (fun _ => rfl)
theorem xpi : xvk 110 := ⟨by kernel_rfl, by decide⟩
def Pap (B b : Nat) (l : List UInt8) (w : World) : Prop := Lib.IsBuilder 110 5 B b (Lib.byteCells l) w /\ B <= w.heap.size
theorem Pap.up (h : Pap B b l w) (hb : Below w.heap.size w w') : Pap B b l w' := ⟨xtw h.1 hb, Nat.le_trans h.2 hb.size⟩
theorem Pap.alloc (h : Pap B b l w) (o : Obj) : Pap B b l (w.alloc o) := h.up ((Below.refl _ _).alloc (Nat.le_refl _) _)
theorem xd6 (b : UInt8) : Lib.byteCells [b] = [.int .u8 b.toNat] := rfl
theorem xel (n : Int) : IntKind.u8.wrap n = ((by8 n).toNat : Int) := by rw [xeg, IntKind.wrap_u8]
theorem xb7 (B b : Nat) (l : List UInt8) (n : Int) (w : World) (h : Pap B b l w) (hl : l.length <= 1000000) :
  Calls Tryz.prog 138 #[.pointer (some ⟨b, 0, none⟩), .int .i64 n] w fun e w' => e = .returned (.tuple #[]) /\ Pap B b (l ++ [by8 n]) w' /\ Wr B b w w' := by
 have hw := xel n
 have H := hd h
 clear h
 go_enter Tryz.func138, Tryz.ntmps138
 go_wp2_with fail
 refine (xd7 _ xpi B b (Lib.byteCells l) _ _ H.out.1 (by rw [Lib.byteCells_length]; omega) H.out.2).mono ?_
 rintro e w1 ⟨rfl, h1, hb1⟩
 go_wp2
 go_end0
 exact ⟨rfl, ⟨by rw [xcr, xd6]; exact h1, Nat.le_trans H.out.2 hb1.size⟩, hb1⟩
theorem x1o : ∀ k (h : k < 8), (eight n)[k]'(by rw [xf2]; exact h) = by8 (n.fdiv (2 ^ (56 - 8 * k)))
 | 0, _ => by rw [Int.fdiv_eq_ediv_of_nonneg _ (by decide)]; rfl
 | 1, _ => by rw [Int.fdiv_eq_ediv_of_nonneg _ (by decide)]; rfl
 | 2, _ => by rw [Int.fdiv_eq_ediv_of_nonneg _ (by decide)]; rfl
 | 3, _ => by rw [Int.fdiv_eq_ediv_of_nonneg _ (by decide)]; rfl
 | 4, _ => by rw [Int.fdiv_eq_ediv_of_nonneg _ (by decide)]; rfl
 | 5, _ => by rw [Int.fdiv_eq_ediv_of_nonneg _ (by decide)]; rfl
 | 6, _ => by rw [Int.fdiv_eq_ediv_of_nonneg _ (by decide)]; rfl
 | 7, _ => by rw [show 56 - 8 * 7 = 0 from rfl, Int.pow_zero, Int.fdiv_one]; rfl
theorem xue (l : List UInt8) (k : Nat) (h : k < l.length) : l.take (k + 1) = l.take k ++ [l[k]] := by rw [List.take_add_one, List.getElem?_eq_getElem h]; rfl
theorem xk6 (B b : Nat) (l : List UInt8) (n : Int) (w : World) (h : Pap B b l w) (hl : l.length <= 900000) :
  Calls Tryz.prog 142 #[.pointer (some ⟨b, 0, none⟩), .int .i64 n] w fun e w' => e = .returned (.tuple #[]) /\ Pap B b (l ++ eight n) w' /\ Wr B b w w' := by
 have H := hd h
 have HL := hd hl
 clear h hl
 go_enter Tryz.func142, Tryz.ntmps142
 go_wp2
 go_loopw [4] (fun i wr => ∃ k : Nat, i = .int .i64 (56 - 8 * (k : Int)) /\ k <= 8 /\ Hid (Pap B b (l ++ (eight n).take k) wr) /\ Hid (Wr B b w wr)) (fun i _ => (intOf i + 8).toNat)
 case atStart => exact ⟨0, rfl, by omega, by rw [List.take_zero, List.append_nil]; exact H, hd (Wr.refl _ _ _)⟩
 case round =>
  obtain ⟨k, rfl, hk, HP, HB⟩ := hrel
  by_cases hlt : k < 8
  .have h0 : (0 : Int) <= 56 - 8 * (k : Int) := by omega
   have h1 : ¬ (56 - 8 * (k : Int) < 0) := by omega
   have HE := hd (x1o (n := n) k hlt)
   have HT := hd (xue (eight n) k (by rw [xf2]; exact hlt))
   have h3 : IntKind.i64.wrap (56 - 8 * (k : Int) - 8) = 56 - 8 * ((k + 1 : Nat) : Int) := by rw [IntKind.wrap_i64]; omega
   have HX : Hid (IntKind.u8.wrap (n / 2 ^ (56 - 8 * (k : Int)).toNat) = ((by8 (n.fdiv (2 ^ (56 - 8 * k)))).toNat : Int)) := hd (by rw [xel, Int.fdiv_eq_ediv_of_nonneg _ (Int.pow_nonneg (by decide)), show (56 - 8 * (k : Int)).toNat = 56 - 8 * k by omega])
   go_wp2
   go_region_with (go_at_call 102; refine (xd7 _ xpi B b (Lib.byteCells (l ++ (eight n).take k)) _ _ (xtw HP.out.1 (Below.refl _ _).drew) (by rw [Lib.byteCells_length]; have := HL.out; simp; omega) HP.out.2).mono ?_; rintro e w1 ⟨rfl, p1, b1⟩; have P1 := hd p1; have b2 : Wr B b wr w1 := (Wr.up (Below.refl _ _).drew HP.out.2).trans b1; clear p1 b1)
   all_goals
    go_wp2
    go_roundw
    case rel => exact ⟨k + 1, rfl, by omega, hd ⟨by rw [HT.out, HE.out, <- List.append_assoc, xcr, xd6, <- HX.out]; exact P1.out, Nat.le_trans HP.out.2 b2.size⟩, hd (HB.out.trans b2)⟩
    case measure => simp [intOf]; omega
  .obtain rfl : k = 8 := by omega
   have h4 : ¬ ((0 : Int) <= 56 - 8 * ((8 : Nat) : Int)) := by omega
   go_wp2
   go_end0
   exact ⟨rfl, HP.out, HB.out⟩
theorem xve (B b : Nat) (l : List UInt8) (i : Ins) (w : World) (h : Pap B b l w) (hl : l.length <= 800000) (hb : b < w.heap.size) :
  Calls Tryz.prog 140 #[.pointer (some ⟨b, 0, none⟩), .agg #[.int .i64 i.op, .int .i64 i.a, .int .i64 i.b, .int .i64 i.n]] w fun e w' => e = .returned (.tuple #[]) /\ Pap B b (l ++ cI.enc i) w' /\ Wr B b w w' := by
 have H := hd h
 have HL := hd hl
 have HE : Hid (l ++ cI.enc i = (((l ++ [by8 i.op]) ++ [by8 i.a]) ++ [by8 i.b]) ++ eight i.n) := hd (by rw [show cI.enc i = [by8 i.op] ++ ([by8 i.a] ++ ([by8 i.b] ++ eight i.n)) from rfl]; simp only [List.append_assoc])
 have hwr : ∀ o : Obj, Wr B b w (w.alloc o) := fun o => Wr.up ((Below.refl _ _).alloc (Nat.le_refl _) _) h.2
 have HW := hd hwr
 clear h hl hwr
 go_enter Tryz.func140, Tryz.ntmps140
 go_wp2_with fail
 refine (xb7 B b l _ _ (H.out.alloc _) (by have := HL.out; omega)).mono ?_
 rintro e w1 ⟨rfl, p1, b1⟩
 have r1 : Rw w1 w.heap.size 124 #[.int .i64 i.op, .int .i64 i.a, .int .i64 i.b, .int .i64 i.n] := b1.k _ _ _ om (by decide) (Rw.new _ _ _ rfl)
 have W1 := hd ((HW.out _).trans b1)
 have P1 := hd p1
 have R1 := hd r1
 have k1 := r1.cell (j := 1) rfl
 clear p1 b1 r1 H HW
 go_wp2_with fail
 refine (xb7 B b (l ++ [by8 i.op]) _ _ P1.out (by have := HL.out; simp; omega)).mono ?_
 rintro e w2 ⟨rfl, p2, b2⟩
 have r2 := b2.k _ _ _ om (by decide) R1.out
 have W2 := hd (W1.out.trans b2)
 have P2 := hd p2
 have R2 := hd r2
 have k2 := r2.cell (j := 2) rfl
 clear p2 b2 r2 P1 W1 R1 k1
 go_wp2_with fail
 refine (xb7 B b ((l ++ [by8 i.op]) ++ [by8 i.a]) _ _ P2.out (by have := HL.out; simp; omega)).mono ?_
 rintro e w3 ⟨rfl, p3, b3⟩
 have r3 := b3.k _ _ _ om (by decide) R2.out
 have W3 := hd (W2.out.trans b3)
 have P3 := hd p3
 have R3 := hd r3
 have k3 := r3.cell (j := 3) rfl
 clear p3 b3 r3 P2 W2 R2 k2
 go_wp2_with fail
 refine (xk6 B b (((l ++ [by8 i.op]) ++ [by8 i.a]) ++ [by8 i.b]) _ _ P3.out (by have := HL.out; simp; omega)).mono ?_
 rintro e w4 ⟨rfl, p4, b4⟩
 go_wp2
 go_end0
 exact ⟨rfl, by rw [HE.out]; exact p4, W3.out.trans b4⟩
theorem xo2 (B b : Nat) (l : List UInt8) (i : Chn) (w : World) (h : Pap B b l w) (hl : l.length <= 800000) (hb : b < w.heap.size) :
  Calls Tryz.prog 90 #[.pointer (some ⟨b, 0, none⟩), .agg #[.int .i64 i.kd, .int .i64 i.fr, .int .i64 i.tt]] w fun e w' => e = .returned (.tuple #[]) /\ Pap B b (l ++ cC.enc i) w' /\ Wr B b w w' := by
 have H := hd h
 have HL := hd hl
 have HE : Hid (l ++ cC.enc i = ((l ++ [by8 i.kd]) ++ [by8 i.fr]) ++ [by8 i.tt]) := hd (by rw [show cC.enc i = [by8 i.kd] ++ ([by8 i.fr] ++ [by8 i.tt]) from rfl]; simp only [List.append_assoc])
 have hwr : ∀ o : Obj, Wr B b w (w.alloc o) := fun o => Wr.up ((Below.refl _ _).alloc (Nat.le_refl _) _) h.2
 have HW := hd hwr
 clear h hl hwr
 go_enter Tryz.func90, Tryz.ntmps90
 go_wp2_with fail
 refine (xb7 B b l _ _ (H.out.alloc _) (by have := HL.out; omega)).mono ?_
 rintro e w1 ⟨rfl, p1, b1⟩
 have r1 : Rw w1 w.heap.size 126 #[.int .i64 i.kd, .int .i64 i.fr, .int .i64 i.tt] := b1.k _ _ _ om (by decide) (Rw.new _ _ _ rfl)
 have W1 := hd ((HW.out _).trans b1)
 have P1 := hd p1
 have R1 := hd r1
 have k1 := r1.cell (j := 1) rfl
 clear p1 b1 r1 H HW
 go_wp2_with fail
 refine (xb7 B b (l ++ [by8 i.kd]) _ _ P1.out (by have := HL.out; simp; omega)).mono ?_
 rintro e w2 ⟨rfl, p2, b2⟩
 have r2 := b2.k _ _ _ om (by decide) R1.out
 have W2 := hd (W1.out.trans b2)
 have P2 := hd p2
 have R2 := hd r2
 have k2 := r2.cell (j := 2) rfl
 clear p2 b2 r2 P1 W1 R1 k1
 go_wp2_with fail
 refine (xb7 B b ((l ++ [by8 i.kd]) ++ [by8 i.fr]) _ _ P2.out (by have := HL.out; simp; omega)).mono ?_
 rintro e w4 ⟨rfl, p4, b4⟩
 go_wp2
 go_end0
 exact ⟨rfl, by rw [HE.out]; exact p4, W2.out.trans b4⟩
theorem xxw (B b : Nat) (l : List UInt8) (i : Slt) (w : World) (h : Pap B b l w) (hl : l.length <= 800000) (hb : b < w.heap.size) :
  Calls Tryz.prog 92 #[.pointer (some ⟨b, 0, none⟩), .agg #[.int .i64 i.pt, .int .i64 i.tk]] w fun e w' => e = .returned (.tuple #[]) /\ Pap B b (l ++ cT.enc i) w' /\ Wr B b w w' := by
 have H := hd h
 have HL := hd hl
 have HE : Hid (l ++ cT.enc i = (l ++ [by8 i.pt]) ++ [by8 i.tk]) := hd (by rw [show cT.enc i = [by8 i.pt] ++ [by8 i.tk] from rfl]; simp only [List.append_assoc])
 have hwr : ∀ o : Obj, Wr B b w (w.alloc o) := fun o => Wr.up ((Below.refl _ _).alloc (Nat.le_refl _) _) h.2
 have HW := hd hwr
 clear h hl hwr
 go_enter Tryz.func92, Tryz.ntmps92
 go_wp2_with fail
 refine (xb7 B b l _ _ (H.out.alloc _) (by have := HL.out; omega)).mono ?_
 rintro e w1 ⟨rfl, p1, b1⟩
 have r1 : Rw w1 w.heap.size 128 #[.int .i64 i.pt, .int .i64 i.tk] := b1.k _ _ _ om (by decide) (Rw.new _ _ _ rfl)
 have W1 := hd ((HW.out _).trans b1)
 have P1 := hd p1
 have k1 := r1.cell (j := 1) rfl
 clear p1 b1 r1 H HW
 go_wp2_with fail
 refine (xb7 B b (l ++ [by8 i.pt]) _ _ P1.out (by have := HL.out; simp; omega)).mono ?_
 rintro e w4 ⟨rfl, p4, b4⟩
 go_wp2
 go_end0
 exact ⟨rfl, by rw [HE.out]; exact p4, W1.out.trans b4⟩
theorem xb0 {α : Type} {enc : α -> List UInt8} {m : Nat} : ∀ {xs : List α}, (∀ x ∈ xs, (enc x).length <= m) -> (xs.flatMap enc).length <= m * xs.length
 | [], _ => by simp
 | x :: r, h => by
  have h1 := h x (by simp)
  have h2 := xb0 (xs := r) (fun y hy => h y (by simp [hy]))
  rw [List.flatMap_cons, List.length_append, List.length_cons, Nat.mul_add]
  omega
theorem xbo {α : Type} (enc : α -> List UInt8) (xs : List α) (k : Nat) (h : k < xs.length) : (xs.take (k + 1)).flatMap enc = (xs.take k).flatMap enc ++ enc xs[k] := by
 rw [List.take_add_one, List.getElem?_eq_getElem h]
 show (xs.take k ++ [xs[k]]).flatMap enc = _
 rw [List.flatMap_append, List.flatMap_cons, List.flatMap_nil, List.append_nil]
theorem xy4 (i : Ins) : (cI.enc i).length <= 11 := Nat.le_refl _
theorem x2k (i : Int) : (cN.enc i).length <= 11 := by show 8 <= 11; omega
theorem x2p (i : Chn) : (cC.enc i).length <= 11 := by show 3 <= 11; omega
theorem x2h (i : Slt) : (cT.enc i).length <= 11 := by show 2 <= 11; omega
theorem xv8 (B b : Nat) (l : List UInt8) (xs : List Ins) (v : Value) (w0 w : World) (hB : B = w0.heap.size) (h0 : Below B w0 w) (hS : Sl w0 4 v xs.length (xck xs)) (h : Pap B b l w) (hl : l.length <= 700000) (hx : xs.length <= 1000) (hb : b < w.heap.size) :
  Calls Tryz.prog 139 #[.pointer (some ⟨b, 0, none⟩), v, .func (.func 140) #[.pointer (some ⟨b, 0, none⟩)] #[]] w fun e w' => e = .returned (.tuple #[]) /\ Pap B b (l ++ cI.ls.enc xs) w' /\ Wr B b w w' := by
 have hen : xav 140 := xa8 Tryz.func140 kr kr
 unfold xav at hen
 obtain ⟨ao, cap, rfl⟩ := hS.form
 have H := hd h
 have HL := hd hl
 have H0 := hd h0
 have HS := hd hS
 have HB := hd hB
 clear h hl h0 hS hB
 go_enter Tryz.func139, Tryz.ntmps139
 go_wp2_with fail
 refine (xb7 B b l _ _ H.out (by have := HL.out; omega)).mono ?_
 rintro e w1 ⟨rfl, p1, b1⟩
 have P1 := hd p1
 have W1 := hd b1
 clear p1 b1
 go_wp2
 go_loopw [14] (fun i wr => ∃ k : Nat, i = .int .i64 k /\ k <= xs.length /\ Hid (Pap B b ((l ++ [by8 xs.length]) ++ (xs.take k).flatMap cI.enc) wr) /\ Hid (Wr B b w wr)) (fun i _ => xs.length - (intOf i).toNat)
 case atStart => exact ⟨0, rfl, Nat.zero_le _, by rw [List.take_zero, List.flatMap_nil, List.append_nil]; exact P1, W1⟩
 case round =>
  obtain ⟨k, rfl, hk, HP, WD⟩ := hrel
  by_cases hlt : k < xs.length
  .have hli : (k : Int) < xs.length := by omega
   have hbz : b < wr.heap.size := Nat.lt_of_lt_of_le hb WD.out.size
   have B0 := hd (H0.out.trans WD.out.b)
   rw [HB.out] at B0
   obtain ⟨sb, off, cap', e1, hcap, hbw, hc⟩ := HS.out.open om
   cases e1
   obtain ⟨c0, c1, c2, c3⟩ := xdm hc k hlt
   have c0 := bcl B0.out hbw c0
   have c1 := bcl B0.out hbw c1
   have c2 := bcl B0.out hbw c2
   have c3 := bcl B0.out hbw c3
   have HT := hd (xbo cI.enc xs k hlt)
   have hfl : ((xs.take k).flatMap cI.enc).length <= 11 * (xs.take k).length := xb0 (fun x _ => xy4 x)
   have HFL : Hid (((l ++ [by8 xs.length]) ++ (xs.take k).flatMap cI.enc).length <= 800000) := hd (by have := HL.out; rw [List.length_take] at hfl; simp at hfl ⊢; omega)
   clear hc hfl
   go_wp2_with fail
   refine (xve B b ((l ++ [by8 xs.length]) ++ (xs.take k).flatMap cI.enc) xs[k] _ (HP.out.alloc _) HFL.out so).mono ?_
   rintro e w2 ⟨rfl, p1, b1⟩
   have P2 := hd p1
   have W2 := hd ((WD.out.trans (Wr.up ((Below.refl _ _).alloc (Nat.le_refl _) _) HP.out.2)).trans b1)
   clear p1 b1
   go_wp2
   go_roundw
   case rel => exact ⟨k + 1, by go_num, by omega, by rw [HT.out, <- List.append_assoc]; exact P2, W2⟩
   case measure => simp [intOf]; omega
  .obtain rfl : k = xs.length := by omega
   have hli : ¬ ((xs.length : Int) < xs.length) := by omega
   have P2 : Pap B b ((l ++ [by8 xs.length]) ++ (xs.take xs.length).flatMap cI.enc) wr := HP.out
   rw [List.take_length, List.append_assoc] at P2
   have HP2 := hd P2
   clear P2
   go_wp2
   go_end0
   exact ⟨rfl, HP2.out, WD.out⟩
theorem xvt (B b : Nat) (l : List UInt8) (xs : List Int) (v : Value) (w0 w : World) (hB : B = w0.heap.size) (h0 : Below B w0 w) (hS : Sl w0 1 v xs.length (xar xs)) (h : Pap B b l w) (hl : l.length <= 700000) (hx : xs.length <= 1000) (hb : b < w.heap.size) :
  Calls Tryz.prog 141 #[.pointer (some ⟨b, 0, none⟩), v, .func (.func 142) #[.pointer (some ⟨b, 0, none⟩)] #[]] w fun e w' => e = .returned (.tuple #[]) /\ Pap B b (l ++ cN.ls.enc xs) w' /\ Wr B b w w' := by
 have hen : xav 142 := xa8 Tryz.func142 kr kr
 unfold xav at hen
 obtain ⟨ao, cap, rfl⟩ := hS.form
 have H := hd h
 have HL := hd hl
 have H0 := hd h0
 have HS := hd hS
 have HB := hd hB
 clear h hl h0 hS hB
 go_enter Tryz.func141, Tryz.ntmps141
 go_wp2_with fail
 refine (xb7 B b l _ _ H.out (by have := HL.out; omega)).mono ?_
 rintro e w1 ⟨rfl, p1, b1⟩
 have P1 := hd p1
 have W1 := hd b1
 clear p1 b1
 go_wp2
 go_loopw [14] (fun i wr => ∃ k : Nat, i = .int .i64 k /\ k <= xs.length /\ Hid (Pap B b ((l ++ [by8 xs.length]) ++ (xs.take k).flatMap cN.enc) wr) /\ Hid (Wr B b w wr)) (fun i _ => xs.length - (intOf i).toNat)
 case atStart => exact ⟨0, rfl, Nat.zero_le _, by rw [List.take_zero, List.flatMap_nil, List.append_nil]; exact P1, W1⟩
 case round =>
  obtain ⟨k, rfl, hk, HP, WD⟩ := hrel
  by_cases hlt : k < xs.length
  .have hli : (k : Int) < xs.length := by omega
   have hbz : b < wr.heap.size := Nat.lt_of_lt_of_le hb WD.out.size
   have B0 := hd (H0.out.trans WD.out.b)
   rw [HB.out] at B0
   obtain ⟨sb, off, cap', e1, hcap, hbw, hc⟩ := HS.out.open om
   cases e1
   have c0 := hc k _ (xgg xs k hlt)
   have c0 := bcl B0.out hbw c0
   have HT := hd (xbo cN.enc xs k hlt)
   have hfl : ((xs.take k).flatMap cN.enc).length <= 11 * (xs.take k).length := xb0 (fun x _ => x2k x)
   have HFL : Hid (((l ++ [by8 xs.length]) ++ (xs.take k).flatMap cN.enc).length <= 800000) := hd (by have := HL.out; rw [List.length_take] at hfl; simp at hfl ⊢; omega)
   clear hc hfl
   go_wp2_with fail
   refine (xk6 B b ((l ++ [by8 xs.length]) ++ (xs.take k).flatMap cN.enc) xs[k] _ HP.out (by have := HFL.out; omega)).mono ?_
   rintro e w2 ⟨rfl, p1, b1⟩
   have P2 := hd p1
   have W2 := hd (WD.out.trans b1)
   clear p1 b1
   go_wp2
   go_roundw
   case rel => exact ⟨k + 1, by go_num, by omega, by rw [HT.out, <- List.append_assoc]; exact P2, W2⟩
   case measure => simp [intOf]; omega
  .obtain rfl : k = xs.length := by omega
   have hli : ¬ ((xs.length : Int) < xs.length) := by omega
   have P2 : Pap B b ((l ++ [by8 xs.length]) ++ (xs.take xs.length).flatMap cN.enc) wr := HP.out
   rw [List.take_length, List.append_assoc] at P2
   have HP2 := hd P2
   clear P2
   go_wp2
   go_end0
   exact ⟨rfl, HP2.out, WD.out⟩
theorem xu1 (B b : Nat) (l : List UInt8) (xs : List Chn) (v : Value) (w0 w : World) (hB : B = w0.heap.size) (h0 : Below B w0 w) (hS : Sl w0 3 v xs.length (xbe chC xs)) (h : Pap B b l w) (hl : l.length <= 700000) (hx : xs.length <= 1000) (hb : b < w.heap.size) :
  Calls Tryz.prog 89 #[.pointer (some ⟨b, 0, none⟩), v, .func (.func 90) #[.pointer (some ⟨b, 0, none⟩)] #[]] w fun e w' => e = .returned (.tuple #[]) /\ Pap B b (l ++ cC.ls.enc xs) w' /\ Wr B b w w' := by
 have hen : xav 90 := xa8 Tryz.func90 kr kr
 unfold xav at hen
 obtain ⟨ao, cap, rfl⟩ := hS.form
 have H := hd h
 have HL := hd hl
 have H0 := hd h0
 have HS := hd hS
 have HB := hd hB
 clear h hl h0 hS hB
 go_enter Tryz.func89, Tryz.ntmps89
 go_wp2_with fail
 refine (xb7 B b l _ _ H.out (by have := HL.out; omega)).mono ?_
 rintro e w1 ⟨rfl, p1, b1⟩
 have P1 := hd p1
 have W1 := hd b1
 clear p1 b1
 go_wp2
 go_loopw [14] (fun i wr => ∃ k : Nat, i = .int .i64 k /\ k <= xs.length /\ Hid (Pap B b ((l ++ [by8 xs.length]) ++ (xs.take k).flatMap cC.enc) wr) /\ Hid (Wr B b w wr)) (fun i _ => xs.length - (intOf i).toNat)
 case atStart => exact ⟨0, rfl, Nat.zero_le _, by rw [List.take_zero, List.flatMap_nil, List.append_nil]; exact P1, W1⟩
 case round =>
  obtain ⟨k, rfl, hk, HP, WD⟩ := hrel
  by_cases hlt : k < xs.length
  .have hli : (k : Int) < xs.length := by omega
   have hbz : b < wr.heap.size := Nat.lt_of_lt_of_le hb WD.out.size
   have B0 := hd (H0.out.trans WD.out.b)
   rw [HB.out] at B0
   obtain ⟨sb, off, cap', e1, hcap, hbw, hc⟩ := HS.out.open om
   cases e1
   obtain ⟨c0, c1, c2⟩ := xbt hc k hlt
   have c0 := bcl B0.out hbw c0
   have c1 := bcl B0.out hbw c1
   have c2 := bcl B0.out hbw c2
   have HT := hd (xbo cC.enc xs k hlt)
   have hfl : ((xs.take k).flatMap cC.enc).length <= 11 * (xs.take k).length := xb0 (fun x _ => x2p x)
   have HFL : Hid (((l ++ [by8 xs.length]) ++ (xs.take k).flatMap cC.enc).length <= 800000) := hd (by have := HL.out; rw [List.length_take] at hfl; simp at hfl ⊢; omega)
   clear hc hfl
   go_wp2_with fail
   refine (xo2 B b ((l ++ [by8 xs.length]) ++ (xs.take k).flatMap cC.enc) xs[k] _ (HP.out.alloc _) HFL.out so).mono ?_
   rintro e w2 ⟨rfl, p1, b1⟩
   have P2 := hd p1
   have W2 := hd ((WD.out.trans (Wr.up ((Below.refl _ _).alloc (Nat.le_refl _) _) HP.out.2)).trans b1)
   clear p1 b1
   go_wp2
   go_roundw
   case rel => exact ⟨k + 1, by go_num, by omega, by rw [HT.out, <- List.append_assoc]; exact P2, W2⟩
   case measure => simp [intOf]; omega
  .obtain rfl : k = xs.length := by omega
   have hli : ¬ ((xs.length : Int) < xs.length) := by omega
   have P2 : Pap B b ((l ++ [by8 xs.length]) ++ (xs.take xs.length).flatMap cC.enc) wr := HP.out
   rw [List.take_length, List.append_assoc] at P2
   have HP2 := hd P2
   clear P2
   go_wp2
   go_end0
   exact ⟨rfl, HP2.out, WD.out⟩
theorem xu6 (B b : Nat) (l : List UInt8) (xs : List Slt) (v : Value) (w0 w : World) (hB : B = w0.heap.size) (h0 : Below B w0 w) (hS : Sl w0 2 v xs.length (xbe slC xs)) (h : Pap B b l w) (hl : l.length <= 700000) (hx : xs.length <= 1000) (hb : b < w.heap.size) :
  Calls Tryz.prog 91 #[.pointer (some ⟨b, 0, none⟩), v, .func (.func 92) #[.pointer (some ⟨b, 0, none⟩)] #[]] w fun e w' => e = .returned (.tuple #[]) /\ Pap B b (l ++ cT.ls.enc xs) w' /\ Wr B b w w' := by
 have hen : xav 92 := xa8 Tryz.func92 kr kr
 unfold xav at hen
 obtain ⟨ao, cap, rfl⟩ := hS.form
 have H := hd h
 have HL := hd hl
 have H0 := hd h0
 have HS := hd hS
 have HB := hd hB
 clear h hl h0 hS hB
 go_enter Tryz.func91, Tryz.ntmps91
 go_wp2_with fail
 refine (xb7 B b l _ _ H.out (by have := HL.out; omega)).mono ?_
 rintro e w1 ⟨rfl, p1, b1⟩
 have P1 := hd p1
 have W1 := hd b1
 clear p1 b1
 go_wp2
 go_loopw [14] (fun i wr => ∃ k : Nat, i = .int .i64 k /\ k <= xs.length /\ Hid (Pap B b ((l ++ [by8 xs.length]) ++ (xs.take k).flatMap cT.enc) wr) /\ Hid (Wr B b w wr)) (fun i _ => xs.length - (intOf i).toNat)
 case atStart => exact ⟨0, rfl, Nat.zero_le _, by rw [List.take_zero, List.flatMap_nil, List.append_nil]; exact P1, W1⟩
 case round =>
  obtain ⟨k, rfl, hk, HP, WD⟩ := hrel
  by_cases hlt : k < xs.length
  .have hli : (k : Int) < xs.length := by omega
   have hbz : b < wr.heap.size := Nat.lt_of_lt_of_le hb WD.out.size
   have B0 := hd (H0.out.trans WD.out.b)
   rw [HB.out] at B0
   obtain ⟨sb, off, cap', e1, hcap, hbw, hc⟩ := HS.out.open om
   cases e1
   obtain ⟨c0, c1⟩ := xd9 hc k hlt
   have c0 := bcl B0.out hbw c0
   have c1 := bcl B0.out hbw c1
   have HT := hd (xbo cT.enc xs k hlt)
   have hfl : ((xs.take k).flatMap cT.enc).length <= 11 * (xs.take k).length := xb0 (fun x _ => x2h x)
   have HFL : Hid (((l ++ [by8 xs.length]) ++ (xs.take k).flatMap cT.enc).length <= 800000) := hd (by have := HL.out; rw [List.length_take] at hfl; simp at hfl ⊢; omega)
   clear hc hfl
   go_wp2_with fail
   refine (xxw B b ((l ++ [by8 xs.length]) ++ (xs.take k).flatMap cT.enc) xs[k] _ (HP.out.alloc _) HFL.out so).mono ?_
   rintro e w2 ⟨rfl, p1, b1⟩
   have P2 := hd p1
   have W2 := hd ((WD.out.trans (Wr.up ((Below.refl _ _).alloc (Nat.le_refl _) _) HP.out.2)).trans b1)
   clear p1 b1
   go_wp2
   go_roundw
   case rel => exact ⟨k + 1, by go_num, by omega, by rw [HT.out, <- List.append_assoc]; exact P2, W2⟩
   case measure => simp [intOf]; omega
  .obtain rfl : k = xs.length := by omega
   have hli : ¬ ((xs.length : Int) < xs.length) := by omega
   have P2 : Pap B b ((l ++ [by8 xs.length]) ++ (xs.take xs.length).flatMap cT.enc) wr := HP.out
   rw [List.take_length, List.append_assoc] at P2
   have HP2 := hd P2
   clear P2
   go_wp2
   go_end0
   exact ⟨rfl, HP2.out, WD.out⟩
theorem xjr : xvk 116 := ⟨by kernel_rfl, by decide⟩
def Dap (B b : Nat) (l : List UInt8) (w : World) : Prop := Lib.IsBuilder 116 5 B b (Lib.byteCells l) w /\ B <= w.heap.size
theorem Dap.up (h : Dap B b l w) (hb : Below w.heap.size w w') : Dap B b l w' := ⟨xtw h.1 hb, Nat.le_trans h.2 hb.size⟩
theorem Dap.alloc (h : Dap B b l w) (o : Obj) : Dap B b l (w.alloc o) := h.up ((Below.refl _ _).alloc (Nat.le_refl _) _)
def xj4 (n : Int) : List UInt8 := 32 :: Lib.itoa n
def xib (word : List UInt8) (ns : List Int) : List UInt8 := (word ++ ns.flatMap xj4) ++ [10]
theorem x17 (h : xb6 n) : (xj4 n).length <= 22 := by
 have := Lib.itoa_length_le n h.1 h.2
 simp [xj4]
 omega
theorem xgw : ∀ (ns : List Int), (∀ n ∈ ns, xb6 n) -> (ns.flatMap xj4).length <= 22 * ns.length := fun ns h => xb0 (fun x hx => x17 (h x hx))
theorem xcw {α : Type} {l : List α} {k : Nat} {x : α} (h : x ∈ l.take k) : x ∈ l := List.mem_of_mem_take h
theorem xif (B b : Nat) (l s : List UInt8) (xs : List Int) (v : Value) (w0 w : World) (he : Env w0) (hB : B = w0.heap.size) (h0 : Below B w0 w) (hS : Sl w0 1 v xs.length (xar xs)) (h : Dap B b l w) (hl : l.length <= 700000) (hs : s.length <= 1000) (hx : xs.length <= 1000) (hx64 : ∀ n ∈ xs, xb6 n) (hb : b < w.heap.size) :
  Calls Tryz.prog 53 #[.pointer (some ⟨b, 0, none⟩), .string ⟨s.toArray⟩, v] w fun e w' => e = .returned (.tuple #[]) /\ Dap B b (l ++ xib s xs) w' /\ Wr B b w w' := by
 obtain ⟨ao, cap, rfl⟩ := hS.form
 have H := hd h
 have HL := hd hl
 have HSL := hd hs
 have H0 := hd h0
 have HS := hd hS
 have HB := hd hB
 have HE := hd he
 have HX := hd hx64
 have HXL := hd hx
 clear h hl h0 hS hB he hx64 hs
 go_enter Tryz.func53, Tryz.ntmps53
 go_wp2_with fail
 refine (xgc _ xjr B b l s _ H.out.1 (by have := HL.out; have := HSL.out; omega) H.out.2).mono ?_
 rintro e w1 ⟨rfl, p1, b1⟩
 have P1 : Hid (Dap B b (l ++ s) w1) := hd ⟨p1, Nat.le_trans H.out.2 b1.size⟩
 have W1 := hd b1
 clear p1 b1
 go_wp2
 go_loopw [15] (fun i wr => ∃ k : Nat, i = .int .i64 k /\ k <= xs.length /\ Hid (Dap B b ((l ++ s) ++ (xs.take k).flatMap xj4) wr) /\ Hid (Wr B b w wr)) (fun i _ => xs.length - (intOf i).toNat)
 case atStart => exact ⟨0, rfl, Nat.zero_le _, by rw [List.take_zero, List.flatMap_nil, List.append_nil]; exact P1, W1⟩
 case round =>
  obtain ⟨k, rfl, hk, HP, WD⟩ := hrel
  have hfl : ((xs.take k).flatMap xj4).length <= 22 * (xs.take k).length := xgw _ (fun n hn => HX.out n (xcw hn))
  have HFL : Hid (((l ++ s) ++ (xs.take k).flatMap xj4).length <= 800000) := hd (by have := HL.out; have := HSL.out; have := HXL.out; rw [List.length_take] at hfl; simp at hfl ⊢; omega)
  clear hfl
  by_cases hlt : k < xs.length
  .have hli : (k : Int) < xs.length := by omega
   have hbz : b < wr.heap.size := Nat.lt_of_lt_of_le hb WD.out.size
   have B0 := hd (H0.out.trans WD.out.b)
   rw [HB.out] at B0
   obtain ⟨sb, off, cap', e1, hcap, hbw, hc⟩ := HS.out.open om
   cases e1
   have c0 := hc k _ (xgg xs k hlt)
   have c0 := bcl B0.out hbw c0
   have HT := hd (xbo xj4 xs k hlt)
   have H64 := hd (HX.out xs[k] (List.getElem_mem hlt))
   have HIL : Hid ((Lib.itoa xs[k]).length <= 21) := hd (Lib.itoa_length_le _ H64.out.1 H64.out.2)
   obtain ⟨y, HY⟩ : ∃ y, Hid ((l ++ s) ++ (xs.take k).flatMap xj4 = y) := ⟨_, hd rfl⟩
   rw [HY.out] at HP HFL
   obtain ⟨n, HN⟩ : ∃ n, Hid (xs[k] = n) := ⟨_, hd rfl⟩
   rw [HN.out] at c0 HT H64 HIL
   clear hc
   go_wp2_with fail
   refine (xd7 _ xjr B b (Lib.byteCells y) 32 _ HP.out.1 (by rw [Lib.byteCells_length]; have := HFL.out; omega) HP.out.2).mono ?_
   rintro e w2 ⟨rfl, p2, b2⟩
   have P2 : Hid (Dap B b (y ++ [32]) w2) := hd ⟨by rw [xcr, xd6]; exact p2, Nat.le_trans HP.out.2 b2.size⟩
   have W2 := hd (WD.out.trans b2)
   have E2 : Hid (Env w2) := hd (HE.out.up (by have := H0.out.trans W2.out.b; rw [HB.out] at this; exact this))
   clear p2 b2 c0
   go_wp2
   go_region_with (first
    | (go_at_call 103; refine (xnu n H64.out _ (E2.out.up up0)).mono ?_; rintro e w3 ⟨rfl, b3⟩; have P3 := hd (P2.out.up (Below.trans up0 b3)); have W3 := hd (W2.out.trans (Wr.up (Below.trans up0 b3) P2.out.2)); clear b3)
    | (go_at_call 101; refine (xgc _ xjr B b (y ++ [32]) (Lib.itoa n) _ (xtw P3.out.1 up0) (by have := HFL.out; have := HIL.out; simp; omega) P3.out.2).mono ?_; rintro e w4 ⟨rfl, p4, b4⟩; have P4 := hd p4; have W4 := hd ((W3.out.trans (Wr.up up0 P3.out.2)).trans b4); clear b4 p4))
   all_goals
    go_wp2
    go_roundw
    case rel => exact ⟨k + 1, by go_num, by omega, hd ⟨by rw [HT.out, <- List.append_assoc, HY.out]; have := P4.out; rw [List.append_assoc] at this; exact this, Nat.le_trans H.out.2 W4.out.size⟩, W4⟩
    case measure => simp [intOf]; omega
  .obtain rfl : k = xs.length := by omega
   have hli : ¬ ((xs.length : Int) < xs.length) := by omega
   have P2 : Dap B b ((l ++ s) ++ (xs.take xs.length).flatMap xj4) wr := HP.out
   rw [List.take_length] at P2 HFL
   obtain ⟨y, HY⟩ : ∃ y, Hid ((l ++ s) ++ xs.flatMap xj4 = y) := ⟨_, hd rfl⟩
   rw [HY.out] at P2 HFL
   have HP2 := hd P2
   clear P2 HP
   go_wp2_with fail
   refine (xd7 _ xjr B b (Lib.byteCells y) 10 _ HP2.out.1 (by rw [Lib.byteCells_length]; have := HFL.out; omega) HP2.out.2).mono ?_
   rintro e w2 ⟨rfl, p2, b2⟩
   have P2 : Hid (Dap B b (y ++ [10]) w2) := hd ⟨by rw [xcr, xd6]; exact p2, Nat.le_trans HP2.out.2 b2.size⟩
   have W2 := hd (WD.out.trans b2)
   clear p2 b2
   go_wp2
   go_end0
   exact ⟨rfl, by have := P2.out; rw [<- HY.out] at this; unfold xib; simp only [List.append_assoc] at this ⊢; exact this, W2.out⟩
def xgj (e : Int) : List UInt8 := if e = 1 then [115, 116, 111, 112, 112, 101, 100] else if e = 2 then [102, 97, 117, 108, 116, 101, 100] else [114, 117, 110, 115]
theorem xf0 (e : Int) : (xgj e).length <= 7 := by unfold xgj; split; decide; split <;> decide
theorem xo8 (n : Int) (w : World) : Calls Tryz.prog 54 #[.int .i64 n] w fun e w' => e = .returned (.string ⟨(xgj n).toArray⟩) /\ w' = w := by
 by_cases h1 : n = 1
 .subst h1
  go_enter Tryz.func54, Tryz.ntmps54
  go_wp2
  go_ret
  exact ⟨rfl, rfl⟩
 .by_cases h2 : n = 2
  .subst h2
   go_enter Tryz.func54, Tryz.ntmps54
   go_wp2
   go_ret
   exact ⟨rfl, rfl⟩
  .have e : xgj n = [114, 117, 110, 115] := by unfold xgj; rw [if_neg h1, if_neg h2]
   rw [e]
   go_enter Tryz.func54, Tryz.ntmps54
   go_wp2
   go_ret
   exact ⟨rfl, rfl⟩
end Go.Proofs.YtbkdoohhdkahiaaGreatDoor

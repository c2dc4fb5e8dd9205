/- strings.Cut at a separator of one byte, whatever the text's length. -/
import Derived.Test.YtbkdoohhdkahiaaGreatDoorJ0
import Derived.Lib.Bytealg
import Derived.Laws.Externs
import Derived.Deep.RegionWith
import Derived.Test.YtbkdoohhdkahiaaGreatDoorProg
import Derived.WalkKit
import Derived.Outline
import Derived.WalkSmall
import Derived.Sort.Grow
import Derived.Lib.LaidTab
import Derived.Lib.ItoaNum
import Derived.Test.YtbkdoohhdkahiaaGreatDoorDeShelf
import Derived.Lib.AppendIntMem
import Derived.Lib.ItoaLen
import Derived.Deep.CutRange
namespace Go.Proofs.YtbkdoohhdkahiaaGreatDoor
set_option linter.unusedSimpArgs false
set_option linter.unusedVariables false
set_option maxRecDepth 100000
set_option maxHeartbeats 4000000
open Go.RowKit Go.Sort
variable {c : UInt8} {w w' : World} {l : List UInt8} {n : Int}
def xc2 (c : UInt8) : List UInt8 -> List UInt8 × List UInt8 × Bool
 | [] => ([], [], false)
 | b :: r => if b = c then ([], r, true) else (b :: (xc2 c r).1, (xc2 c r).2.1, (xc2 c r).2.2)
theorem xpb : ∀ {l : List UInt8}, Lib.indexByte l c = -1 -> xc2 c l = (l, [], false)
 | [], _ => rfl
 | b :: r, h => by
  unfold Lib.indexByte at h
  by_cases hb : b = c
  .subst hb
   simp at h
  .rw [if_neg (by simpa using hb)] at h
   split at h
   .rename_i h1
    have h1 : Lib.indexByte r c = -1 := by simpa using h1
    rw [xc2, if_neg hb, xpb h1]
   .rename_i h1
    have := Lib.indexByte_ge r c
    omega
theorem xon : ∀ {l : List UInt8} {i : Nat}, Lib.indexByte l c = i -> xc2 c l = (l.take i, l.drop (i + 1), true) /\ i < l.length
 | [], i, h => by
  have : (-1 : Int) = i := h
  omega
 | b :: r, i, h => by
  unfold Lib.indexByte at h
  by_cases hb : b = c
  .subst hb
   simp at h
   obtain rfl : i = 0 := by omega
   rw [xc2, if_pos rfl]
   simp
  .rw [if_neg (by simpa using hb)] at h
   split at h
   .omega
   .rename_i h1
    have h1 : ¬ Lib.indexByte r c = -1 := by simpa using h1
    have := Lib.indexByte_ge r c
    obtain ⟨j, hj⟩ : ∃ j : Nat, Lib.indexByte r c = j := ⟨(Lib.indexByte r c).toNat, by omega⟩
    obtain rfl : i = j + 1 := by omega
    obtain ⟨e1, e2⟩ := xon hj
    rw [xc2, if_neg hb, e1]
    exact ⟨rfl, by simp; omega⟩
theorem xnm (l : List UInt8) (c : UInt8) (w : World) :
  Calls Tryz.prog 165 #[.string ⟨l.toArray⟩, .int .u8 c.toNat] w fun e w' => e = .returned (.int .i64 (Lib.indexByte l c)) /\ w' = w := by
 have hc : ((c.toNat : Int)).toNat.toUInt8 = c := by simp
 go_enter Tryz.func165, Tryz.ntmps165
 go_wp2
 rw [run_callFunc_extern Tryz.func195 kr kr kr (e := Extern.BytealgIndexByte.indexByte) kr, Lib.run_indexByteString, hc]
 simp only [Result.andThen]
 rw [Oper.upon_value]
 go_wp2
 go_ret
 exact ⟨rfl, rfl⟩
theorem xvr (l : List UInt8) (c : UInt8) (w : World) :
  Calls Tryz.prog 115 #[.string ⟨l.toArray⟩, .string ⟨#[c]⟩] w fun e w' => e = .returned (.int .i64 (Lib.indexByte l c)) /\ w' = w := by
 by_cases hl : l = [c]
 .subst hl
  go_enter Tryz.func115, Tryz.ntmps115
  go_wp2
  go_ret
  exact ⟨by simp [Lib.indexByte], rfl⟩
 .have hne : ([c] == l) = false := by simpa using fun e => hl e.symm
  have HN := hd (xnm l c)
  generalize Lib.indexByte l c = q at HN
  clear hl
  go_enter Tryz.func115, Tryz.ntmps115
  go_wp2_with fail
  refine (HN.out _).mono ?_
  rintro e w1 ⟨rfl, hw⟩
  have hw' := hw.symm
  clear hw
  subst hw'
  go_wp2
  go_ret
  exact ⟨rfl, rfl⟩
theorem x0x (l : List UInt8) (c : UInt8) (hl : l.length <= 281474976710656) (w : World) :
  Calls Tryz.prog 65 #[.string ⟨l.toArray⟩, .string ⟨#[c]⟩] w fun e w' => e = .returned (.tuple #[.string ⟨(xc2 c l).1.toArray⟩, .string ⟨(xc2 c l).2.1.toArray⟩, .bool (xc2 c l).2.2]) /\ Below w.heap.size w w' := by
 have HN := hd (xvr l c)
 by_cases hq : Lib.indexByte l c = -1
 .have HC := hd (xpb hq)
  rw [hq] at HN
  clear hq
  go_enter Tryz.func65, Tryz.ntmps65
  go_wp2_with fail
  refine (HN.out _).mono ?_
  rintro e w1 ⟨rfl, hw⟩
  have hw' := hw.symm
  clear hw
  subst hw'
  go_wp2
  go_ret3
  exact ⟨by rw [HC.out] <;> rfl, Below.refl _ _⟩
 .have := Lib.indexByte_ge l c
  obtain ⟨i, hi⟩ : ∃ i : Nat, Lib.indexByte l c = i := ⟨(Lib.indexByte l c).toNat, by omega⟩
  obtain ⟨hc, hlt⟩ := xon hi
  have HC := hd hc
  rw [hi] at HN
  have e1 : (⟨l.toArray⟩ : ByteArray).extract 0 i = ⟨(l.take i).toArray⟩ := by rw [xj8]; simp
  have e2 : (⟨l.toArray⟩ : ByteArray).extract (i + 1) l.length = ⟨(l.drop (i + 1)).toArray⟩ := by rw [xj8, List.take_of_length_le (by rw [List.length_drop]; omega)]
  have hli : (i : Int) <= l.length := by omega
  have hlj : (i : Int) + 1 <= l.length := by omega
  have hw1 : IntKind.i64.wrap ((i : Int) + 1) = ((i + 1 : Nat) : Int) := by simp [IntKind.wrap, IntKind.bits, IntKind.signed]; omega
  clear hq hi hc this
  go_enter Tryz.func65, Tryz.ntmps65
  go_wp2_with fail
  refine (HN.out _).mono ?_
  rintro e w1 ⟨rfl, hw⟩
  have hw' := hw.symm
  clear hw
  subst hw'
  go_wp2
  go_region
  all_goals go_wp2
  all_goals go_ret3
  all_goals exact ⟨by rw [HC.out] <;> rfl, (Below.refl _ _).drew⟩
theorem xsx (l : List UInt8) (c : UInt8) (hl : l.length <= 281474976710656) (w : World) :
  Calls Tryz.prog 25 #[.string ⟨l.toArray⟩, .string ⟨#[c]⟩] w fun e w' => e = .returned (.tuple #[.string ⟨(xc2 c l).1.toArray⟩, .string ⟨(xc2 c l).2.1.toArray⟩, .bool (xc2 c l).2.2]) /\ Below w.heap.size w w' := by
 have HN := hd (x0x l c hl w)
 generalize xc2 c l = q at HN
 go_enter Tryz.func25, Tryz.ntmps25
 go_wp2_with fail
 refine HN.out.mono ?_
 rintro e w1 ⟨rfl, b1⟩
 have B1 := hd b1
 clear b1
 go_wp2
 go_ret3
 exact ⟨rfl, B1.out⟩
open Go.RowKit
def xlb (a : Int) : Bool := decide (0 <= a) && decide (a < 4)
theorem xy8 (a : Int) (w : World) : Calls Tryz.prog 175 #[.int .i64 a] w fun e w' => e = .returned (.bool (xlb a)) /\ w' = w := by
 by_cases h : 0 <= a
 all_goals
 go_enter Tryz.func175, Tryz.ntmps175
 go_wp2
 all_goals go_ret
 all_goals exact ⟨xaw (by simp [xlb]; try omega), rfl⟩
def xdd (ba bb bn : Bool) (lo hi a b n : Int) : Int :=
 if (ba && !xlb a) || (bb && !xlb b) || (bn && (decide (n < lo) || decide (hi < n))) then 3
 else if (!ba && a != 0) || (!bb && b != 0) || (!bn && n != 0) then 1 else 0
theorem x3n (k : Nat) (hk1 : 1 <= k) (hk : k < 16) (ws : ByteArray) (ba bb bn : Bool) (lo hi a b n : Int) (w : World) (hz : 1 < w.heap.size)
 (c0 : w.cell? ⟨1, k * 6, none⟩ = some (.string ws)) (c1 : w.cell? ⟨1, k * 6 + 1, none⟩ = some (.bool ba))
 (c2 : w.cell? ⟨1, k * 6 + 2, none⟩ = some (.bool bb)) (c3 : w.cell? ⟨1, k * 6 + 3, none⟩ = some (.bool bn))
 (c4 : w.cell? ⟨1, k * 6 + 4, none⟩ = some (.int .i64 lo)) (c5 : w.cell? ⟨1, k * 6 + 5, none⟩ = some (.int .i64 hi)) : Calls Tryz.prog 128 #[.agg #[.int .i64 k, .int .i64 a, .int .i64 b, .int .i64 n]] w fun e w' => e = .returned (.int .i64 (xdd ba bb bn lo hi a b n)) /\ Below w.heap.size w w' := by
 have hk1' : ¬ ((k : Int) < 1) := by omega
 have hk2' : ¬ ((15 : Int) < k) := by omega
 go_enter Tryz.func128, Tryz.ntmps128
 go_wp2_with (go_at_call 175; refine (xy8 _ _).mono ?_; rintro e w' ⟨rfl, rfl⟩)
 all_goals go_ret
 all_goals refine ⟨xax ?_, up0⟩
 all_goals (simp_all [xdd]; done)
def xqe (k : Nat) : Bool := [false, true, true, true, true, true, true, true, false, true, true, true, true, true, false, false].getD k false
def xqh (k : Nat) : Bool := [false, false, true, true, true, true, true, true, false, false, false, false, false, true, false, false].getD k false
def xoa (k : Nat) : Bool := [false, true, false, false, false, false, false, false, true, true, false, false, true, true, false, false].getD k false
def xrz (k : Nat) : Int := if k = 1 then -9223372036854775808 else 0
def xql (k : Nat) : Int := if k = 1 then 9223372036854775807 else if k = 8 \/ k = 9 then 19 else if k = 12 \/ k = 13 then 5 else 0
def x5v (k : Nat) : List UInt8 := [[], [115, 101, 116], [99, 111, 112, 121], [97, 100, 100], [115, 117, 98], [108, 101, 115, 115], [108, 111, 97, 100], [115, 97, 118, 101], [106, 117, 109, 112], [122, 101, 114, 111], [105, 110], [111, 117, 116], [112, 117, 116], [103, 101, 116], [114, 101, 115, 116], [115, 116, 111, 112]].getD k []
structure Shp (w : World) : Prop where
 size : 1 < w.heap.size
 c0 : ∀ k, k < 16 -> w.cell? ⟨1, k * 6, none⟩ = some (.string ⟨(x5v k).toArray⟩)
 c1 : ∀ k, k < 16 -> w.cell? ⟨1, k * 6 + 1, none⟩ = some (.bool (xqe k))
 c2 : ∀ k, k < 16 -> w.cell? ⟨1, k * 6 + 2, none⟩ = some (.bool (xqh k))
 c3 : ∀ k, k < 16 -> w.cell? ⟨1, k * 6 + 3, none⟩ = some (.bool (xoa k))
 c4 : ∀ k, k < 16 -> w.cell? ⟨1, k * 6 + 4, none⟩ = some (.int .i64 (xrz k))
 c5 : ∀ k, k < 16 -> w.cell? ⟨1, k * 6 + 5, none⟩ = some (.int .i64 (xql k))
theorem Shp.up (h : Shp w) (hb : Below w.heap.size w w') : Shp w' :=
 ⟨Nat.lt_of_lt_of_le h.size hb.size, fun k hk => (hb.cell h.size).trans (h.c0 k hk), fun k hk => (hb.cell h.size).trans (h.c1 k hk), fun k hk => (hb.cell h.size).trans (h.c2 k hk),
  fun k hk => (hb.cell h.size).trans (h.c3 k hk), fun k hk => (hb.cell h.size).trans (h.c4 k hk), fun k hk => (hb.cell h.size).trans (h.c5 k hk)⟩
def xob (op a b n : Int) : Int := if op < 1 \/ 15 < op then 4 else xdd (xqe op.toNat) (xqh op.toNat) (xoa op.toNat) (xrz op.toNat) (xql op.toNat) a b n
theorem x3m (op a b n : Int) (w : World) (ho : op < 1 \/ 15 < op) : Calls Tryz.prog 128 #[.agg #[.int .i64 op, .int .i64 a, .int .i64 b, .int .i64 n]] w fun e w' => e = .returned (.int .i64 4) /\ Below w.heap.size w w' := by
 by_cases h : op < 1
 .clear ho
  go_enter Tryz.func128, Tryz.ntmps128
  go_wp2
  all_goals go_ret
  all_goals exact ⟨rfl, up0⟩
 .have h2 : 15 < op := by omega
  clear ho
  go_enter Tryz.func128, Tryz.ntmps128
  go_wp2
  all_goals go_ret
  all_goals exact ⟨rfl, up0⟩
theorem x3c (op a b n : Int) (w : World) (h : Shp w) : Calls Tryz.prog 128 #[.agg #[.int .i64 op, .int .i64 a, .int .i64 b, .int .i64 n]] w fun e w' => e = .returned (.int .i64 (xob op a b n)) /\ Below w.heap.size w w' := by
 by_cases ho : op < 1 \/ 15 < op
 .unfold xob; rw [if_pos ho]; exact x3m op a b n w ho
 .obtain ⟨k, rfl⟩ := Int.eq_ofNat_of_zero_le (show 0 <= op by omega)
  unfold xob; rw [if_neg ho, Int.toNat_natCast]
  exact x3n k om om _ _ _ _ _ _ a b n w h.size (h.c0 k om) (h.c1 k om) (h.c2 k om) (h.c3 k om) (h.c4 k om) (h.c5 k om)
structure Env (w : World) : Prop where
 shp : Shp w
 tab : Lib.TabIs Tryz.prog w "internal/strconv.uint64pow10" .u64 Lib.pow10Tab
 syn : ∃ tp p, w.cell? ⟨2, 0, none⟩ = some (.iface tp p)
 rng : ∃ tp p, w.cell? ⟨3, 0, none⟩ = some (.iface tp p)
 max : ∃ m, w.cell? ⟨0, 0, none⟩ = some (.int .i64 m)
 size : 7 <= w.heap.size
theorem gPow : Tryz.prog.globalNamed "internal/strconv.uint64pow10" = some 4 := by kernel_rfl
theorem Env.up (h : Env w) (hb : Below w.heap.size w w') : Env w' := by
 have hz := h.size
 obtain ⟨tp, p, e1⟩ := h.syn
 obtain ⟨tq, q, e2⟩ := h.rng
 obtain ⟨m, e3⟩ := h.max
 exact ⟨h.shp.up hb, var?_below hb gPow om h.tab, ⟨tp, p, (hb.cell (p := ⟨2, 0, none⟩) so).trans e1⟩, ⟨tq, q, (hb.cell (p := ⟨3, 0, none⟩) so).trans e2⟩,
  ⟨m, (hb.cell (p := ⟨0, 0, none⟩) so).trans e3⟩, Nat.le_trans hz hb.size⟩
def xb6 (n : Int) : Prop := -9223372036854775808 <= n /\ n <= 9223372036854775807
theorem x49 (op a b n c : Int) (w : World) (he : Env w) (hc : xob op a b n = c) : Calls Tryz.prog 128 #[.agg #[.int .i64 op, .int .i64 a, .int .i64 b, .int .i64 n]] w fun e w' => e = .returned (.int .i64 c) /\ Below w.heap.size w w' := hc ▸ x3c op a b n w he.shp
theorem xuh (w : World) (k : Nat) (os : Array Obj) : Below w.heap.size w (grow (w.drewN k) os) := by
 refine (below_drewN (Below.refl _ w) k).trans ⟨rfl, rfl, rfl, ?_, fun i hi => ?_⟩
 .simp [grow]
 .simp only [grow]
  exact Array.getElem?_append_left hi
theorem xnu (n : Int) (h : xb6 n) (w : World) (he : Env w) : Calls Tryz.prog 103 #[.int .i64 n] w fun e w' => e = .returned (.string ⟨(Lib.itoa n).toArray⟩) /\ Below w.heap.size w w' := by
 refine (Tryz.strconv_Itoa n h.1 h.2 w he.tab).mono ?_
 rintro e w' ⟨rfl, k, os, rfl⟩
 exact ⟨rfl, xuh w k os⟩
theorem x1f (l : List UInt8) (w : World) (he : Env w) (hs : l.length <= 281474976710656) : Calls Tryz.prog 116 #[.string ⟨l.toArray⟩] w fun e w' =>
  ((∃ v, Lib.atoiAll l = .ok v /\ e = .returned (.tuple #[.int .i64 v, .nilIface])) \/
   ((∀ v, Lib.atoiAll l ≠ .ok v) /\ ∃ z t p, e = .returned (.tuple #[.int .i64 z, .iface t p]))) /\ Below w.heap.size w w' := by
 obtain ⟨t1, p1, e1⟩ := he.syn
 obtain ⟨t2, p2, e2⟩ := he.rng
 have hz : (⟨l.toArray⟩ : ByteArray).size = l.length := by simp [ByteArray.size]
 cases h : Lib.atoiAll l with
 | ok v =>
  refine (Any.strconv_Atoi_ok Tryz.laysC172 ⟨l.toArray⟩ om v (by simpa using h) w).mono ?_
  rintro e w' ⟨rfl, hw⟩
  refine ⟨Or.inl ⟨v, rfl, rfl⟩, ?_⟩
  rcases hw with rfl | ⟨t, rfl⟩
  .exact Below.refl _ _
  .exact Lib.bytesWorld_below _ _ _
 | _ =>
  first
  | (refine (Any.strconv_Atoi_syntax Tryz.laysC172 ⟨l.toArray⟩ om (by simpa using h) _ w e1 (Or.inr ⟨t1, p1, rfl⟩)).mono ?_
     rintro e w' ⟨N, rfl, _, _, hb⟩
     exact ⟨Or.inr ⟨(fun v hv => nomatch hv), _, _, _, rfl⟩, hb⟩)
  | (refine (Any.strconv_Atoi_range Tryz.laysC172 ⟨l.toArray⟩ om (by simpa using h) _ w e2 (Or.inr ⟨t2, p2, rfl⟩)).mono ?_
     rintro e w' ⟨N, rfl, _, _, hb⟩
     exact ⟨Or.inr ⟨(fun v hv => nomatch hv), _, _, _, rfl⟩, hb⟩)
theorem xum (n : Nat) (h : n < 4) : Lib.atoiAll [UInt8.ofNat (48 + n)] = .ok n := by
 have : ∀ n : Fin 4, Lib.atoiAll [UInt8.ofNat (48 + n.val)] = .ok (n.val : Int) := by decide +kernel
 exact this ⟨n, h⟩
def xg1 (l : List UInt8) : Option Int := if l = [48] then some 0 else if l = [49] then some 1 else if l = [50] then some 2 else if l = [51] then some 3 else none
theorem xdh (h : xg1 l = some n) : 0 <= n /\ n < 4 /\ l = [UInt8.ofNat (48 + n.toNat)] := by
 unfold xg1 at h
 split at h
 .injection h with h; subst h; subst_vars; exact ⟨by decide, by decide, rfl⟩
 .split at h
  .injection h with h; subst h; subst_vars; exact ⟨by decide, by decide, rfl⟩
  .split at h
   .injection h with h; subst h; subst_vars; exact ⟨by decide, by decide, rfl⟩
   .split at h
    .injection h with h; subst h; subst_vars; exact ⟨by decide, by decide, rfl⟩
    .cases h
theorem xua (h0 : 0 <= n) (h1 : n < 4) : xg1 (Lib.itoa n) = some n := by
 have : ∀ m : Fin 4, xg1 (Lib.itoa (m.val : Int)) = some (m.val : Int) := by decide +kernel
 obtain ⟨m, rfl⟩ : ∃ m : Nat, n = m := ⟨n.toNat, by omega⟩
 exact this ⟨m, by omega⟩
theorem xkz (h0 : 0 <= n) (h1 : n < 4) : Lib.itoa n = [UInt8.ofNat (48 + n.toNat)] := by
 have : ∀ m : Fin 4, Lib.itoa (m.val : Int) = [UInt8.ofNat (48 + ((m.val : Int)).toNat)] := by decide +kernel
 obtain ⟨m, rfl⟩ : ∃ m : Nat, n = m := ⟨n.toNat, by omega⟩
 exact this ⟨m, by omega⟩
theorem xip (h : xg1 l = some n) : Lib.atoiAll l = .ok n /\ Lib.itoa n = l := by
 obtain ⟨h0, h1, e⟩ := xdh h
 have := xum n.toNat om
 rw [show ((n.toNat : Nat) : Int) = n by omega] at this
 rw [e]
 exact ⟨this, xkz h0 h1⟩
theorem xh4 (h : ∀ n, xg1 l ≠ some n) : xg1 l = none := by
 cases hp : xg1 l with
 | none => rfl
 | some n => exact absurd hp (h n)
def xsu (l : List UInt8) (n : Int) (is : Bool) : Prop := xg1 l = if is then some n else none
theorem xmb (h0 : 0 <= n) (h1 : n < 4) : xb6 n := ⟨by omega, by omega⟩
theorem xo3 (l : List UInt8) (w : World) (he : Env w) (hs : l.length <= 281474976710656) :
  Calls Tryz.prog 66 #[.string ⟨l.toArray⟩] w fun e w' => ∃ n is, e = .returned (.tuple #[.int .i64 n, .bool is]) /\ xsu l n is /\ Below w.heap.size w w' := by
 have HE := hd he
 have HA := hd (x1f l w he hs)
 clear he
 go_enter Tryz.func66, Tryz.ntmps66
 go_wp2_with fail
 refine HA.out.mono ?_
 rintro e w1 ⟨(⟨v, hv, rfl⟩ | ⟨hv, z, t, p, rfl⟩), b1⟩
 .have B1 := hd b1
  clear b1
  by_cases h0 : 0 <= v
  .by_cases h1 : v < 4
   .by_cases hl : Lib.itoa v = l
    .have HP : Hid (xg1 l = some v) := hd (by rw [<- hl]; exact xua h0 h1)
     have HI := hd (xnu v (xmb h0 h1))
     rw [hl] at HI
     clear hl hv
     go_wp2_with (go_at_call 103; refine (HI.out _ (HE.out.up B1.out)).mono ?_; rintro e w2 ⟨rfl, b2⟩; have B2 := hd (B1.out.trans (b2.mono B1.out.size)); clear b2)
     go_ret2
     exact ⟨v, true, rfl, HP.out, B2.out⟩
    .have HP : Hid (xg1 l = none) := hd (xh4 (fun n hn => by
      obtain ⟨a, b⟩ := xip hn
      rw [hv] at a
      injection a with a
      exact hl (a ▸ b)))
     have HI := hd (xnu v (xmb h0 h1))
     have hlf : (Lib.itoa v == l) = false := by simpa using hl
     clear hl hv
     generalize Lib.itoa v = q at *
     go_wp2_with (go_at_call 103; refine (HI.out _ (HE.out.up B1.out)).mono ?_; rintro e w2 ⟨rfl, b2⟩; have B2 := hd (B1.out.trans (b2.mono B1.out.size)); clear b2)
     go_ret2
     exact ⟨v, false, rfl, HP.out, B2.out⟩
   .have HP : Hid (xg1 l = none) := hd (xh4 (fun n hn => by
     obtain ⟨a, b⟩ := xip hn
     rw [hv] at a
     injection a with a
     have := (xdh hn).2.1
     omega))
    clear hv
    go_wp2
    go_ret2
    first | exact ⟨v, false, rfl, HP.out, B1.out⟩ | exact ⟨v, .inl ⟨rfl, HP.out, B1.out⟩⟩
  .have HP : Hid (xg1 l = none) := hd (xh4 (fun n hn => by
    obtain ⟨a, b⟩ := xip hn
    rw [hv] at a
    injection a with a
    have := (xdh hn).1
    omega))
   clear hv
   go_wp2
   go_ret2
   first | exact ⟨v, false, rfl, HP.out, B1.out⟩ | exact ⟨v, .inl ⟨rfl, HP.out, B1.out⟩⟩
 .have HP : Hid (xg1 l = none) := hd (xh4 (fun n hn => hv n (xip hn).1))
  have B1 := hd b1
  clear hv b1
  go_wp2
  go_ret2
  exact ⟨z, false, rfl, HP.out, B1.out⟩
theorem xlh : (Tryz.prog.info? 53).map (·.size) = some 2 := by kernel_rfl
def xjo (l : List UInt8) : Option (Int × Int) :=
 if (xc2 62 l).2.2 = true then
  match xg1 (xc2 62 l).1, xg1 (xc2 62 l).2.1 with
  | some a, some b => some (a, b)
  | _, _ => none
 else none
def xjm (l : List UInt8) (a b : Int) (is : Bool) : Prop := xjo l = if is then some (a, b) else none
theorem x6a {l : List UInt8} {a b : Int} {x y : Bool} (h1 : xsu (xc2 62 l).1 a x) (h2 : xsu (xc2 62 l).2.1 b y) : xjm l a b (((xc2 62 l).2.2 && x) && y) := by
 unfold xjm xjo
 unfold xsu at h1 h2
 cases hc : (xc2 62 l).2.2 with
 | false => simp
 | true =>
  rw [h1, h2]
  cases x <;> cases y <;> simp
theorem xn9 (c : UInt8) : ∀ l : List UInt8, (xc2 c l).1.length <= l.length /\ (xc2 c l).2.1.length <= l.length
 | [] => ⟨Nat.le_refl _, Nat.le_refl _⟩
 | b :: r => by
  have ih := xn9 c r
  unfold xc2
  split
  .exact ⟨by simp, by simp⟩
  .exact ⟨by simpa using ih.1, by simp; omega⟩
theorem xyd (l : List UInt8) (w : World) (he : Env w) (hs : l.length <= 281474976710656) :
  Calls Tryz.prog 26 #[.string ⟨l.toArray⟩] w fun e w' => ∃ a b is, e = .returned (.tuple #[.agg #[.int .i64 a, .int .i64 b], .bool is]) /\ xjm l a b is /\ Below w.heap.size w w' := by
 have HE := hd he
 have hc := xn9 62 l
 have HX := hd (fun a b x y => @x6a l a b x y)
 have HU := hd (xsx l 62 hs)
 have D0 := hd ((Below.refl w.heap.size w).alloc (Nat.le_refl _) (.cells #[.int .i64 0, .int .i64 0] 53))
 have R0 := hd (Rw.new w 53 #[.int .i64 0, .int .i64 0] rfl)
 generalize xc2 62 l = c at *
 obtain ⟨p, q, z⟩ := c
 dsimp only at hc HX HU
 clear he
 go_enter Tryz.func26, Tryz.ntmps26
 go_wp2_with fail
 refine (HU.out _).mono ?_
 rintro e w1 ⟨rfl, b1⟩
 have D1 := hd (D0.out.trans (b1.mono (by simp)))
 have R1 := hd (R0.out.up b1 (by simp))
 clear b1 D0 R0
 go_wp2_with fail
 refine (xo3 p _ (HE.out.up D1.out) om).mono ?_
 rintro e w2 ⟨a, x, rfl, ha, b2⟩
 have HA := hd ha
 have D2 := hd (D1.out.trans (b2.mono D1.out.size))
 have R2 := hd (R1.out.up b2 R1.out.lt)
 clear b2 ha D1 R1
 go_wp2_with fail
 refine (xo3 q _ (HE.out.up D2.out) om).mono ?_
 rintro e w3 ⟨b, y, rfl, hb, b3⟩
 have HB := hd (HX.out a b x y HA.out hb)
 have D3 := hd (D2.out.trans (b3.mono D2.out.size))
 have R3 := hd (R2.out.up b3 R2.out.lt)
 clear b3 hb D2 R2 HA HX
 cases z <;> cases x <;> cases y
 all_goals go_wp2_with (refine xae rfl 53 (.tmp 2) (.tmp 29) rfl w.heap.size #[.int .i64 a, .int .i64 b] rfl rfl 53 _ R3.out xlh rfl (by simp [Value.oneCell']) ?_)
 all_goals intro W4 HW4
 all_goals have r5 : Rw W4 w.heap.size 53 #[.int .i64 a, .int .i64 b] := by rw [HW4.out]; exact R3.out.row _
 all_goals have HB4 := hd (show Below w.heap.size w W4 by rw [HW4.out]; exact xaa D3.out (Nat.le_refl _) _)
 all_goals clear HW4
 all_goals go_wp2
 all_goals exact bodyPost_ret (xam Tryz.results26 _ _ w.heap.size _ _ rfl rfl (run_loadVar_row _ _ 53 _ _ (0, 0) _ r5 Tryz.underlying53 rfl xlh)) rfl ⟨a, b, _, rfl, HB.out, HB4.out⟩
def xiz (a b c d : Int) : Bool := decide (a < c) || (a == c && decide (b < d))
theorem xyl (a b c d : Int) (w : World) : Calls Tryz.prog 27 #[.agg #[.int .i64 a, .int .i64 b], .agg #[.int .i64 c, .int .i64 d]] w fun e w' => e = .returned (.bool (xiz a b c d)) /\ Below w.heap.size w w' := by
 unfold xiz
 by_cases h1 : a < c
 .go_enter Tryz.func27, Tryz.ntmps27
  go_wp2
  go_ret
  exact ⟨by simp [h1] <;> rfl, up0⟩
 .by_cases h2 : a = c
  .have h2b : (a == c) = true := by simpa using h2
   have h1b : decide (a < c) = false := by simpa using h1
   rw [h1b, h2b]
   clear h2 h1
   go_enter Tryz.func27, Tryz.ntmps27
   go_wp2
   all_goals go_ret
   all_goals exact ⟨by simp_all, up0⟩
  .have h2b : (a == c) = false := by simpa using h2
   have h1b : decide (a < c) = false := by simpa using h1
   rw [h1b, h2b]
   clear h2
   go_enter Tryz.func27, Tryz.ntmps27
   go_wp2
   all_goals go_ret
   all_goals exact ⟨by simp_all, up0⟩
def x2j (x y : Int) : Int := if x < y then -1 else if y < x then 1 else 0
def orI (a b : Int) : Int := if a ≠ 0 then a else b
structure Edg where
 fr : Int
 tt : Int
 deriving DecidableEq
def Edg.cells (e : Edg) : List Value := [.int .i64 e.fr, .int .i64 e.tt]
def xrx (a b : Edg) : Int := orI (x2j a.fr b.fr) (x2j a.tt b.tt)
theorem xlc (x : Int) (w : World) : Calls Tryz.prog 173 #[.int .i64 x] w fun e w' => e = .returned (.bool false) /\ w' = w := by
 have h : (x != x) = false := by simp
 go_enter Tryz.func173, Tryz.ntmps173
 go_wp2
 go_ret
 exact ⟨rfl, rfl⟩
theorem xlu (x y : Int) (w : World) (r : Int) (hr : x2j x y = r) : Calls Tryz.prog 122 #[.int .i64 x, .int .i64 y] w fun e w' => e = .returned (.int .i64 r) /\ w' = w := by
 subst hr
 unfold x2j
 by_cases h1 : x < y
 .rw [if_pos h1]
  go_enter Tryz.func122, Tryz.ntmps122
  go_wp2_with (go_at_call 173; refine (xlc _ _).mono ?_; rintro e w2 ⟨rfl, rfl⟩)
  go_ret
  exact ⟨rfl, rfl⟩
 .rw [if_neg h1]
  by_cases h2 : y < x
  .rw [if_pos h2]
   go_enter Tryz.func122, Tryz.ntmps122
   go_wp2_with (go_at_call 173; refine (xlc _ _).mono ?_; rintro e w2 ⟨rfl, rfl⟩)
   go_ret
   exact ⟨rfl, rfl⟩
  .rw [if_neg h2]
   go_enter Tryz.func122, Tryz.ntmps122
   go_wp2_with (go_at_call 173; refine (xlc _ _).mono ?_; rintro e w2 ⟨rfl, rfl⟩)
   go_ret
   exact ⟨rfl, rfl⟩
theorem x5b (a b : Int) (g : Nat) (w : World) (h0 : w.cell? ⟨g, 0, none⟩ = some (.int .i64 a)) (h1 : w.cell? ⟨g, 1, none⟩ = some (.int .i64 b)) (r : Int) (hr : orI a b = r) : Calls Tryz.prog 121 #[.slice (some ⟨g, 0, none⟩) 2 2] w fun e w' => e = .returned (.int .i64 r) /\ w' = w := by
 have H0 := hd h0
 have H1 := hd h1
 clear h0 h1
 go_enter Tryz.func121, Tryz.ntmps121
 go_wp2
 go_loopw [8] (fun i wr => ∃ k : Nat, i = .int .i64 k /\ k <= 2 /\ Hid (1 <= k -> a = 0) /\ Hid (2 <= k -> b = 0) /\ wr = w) (fun i _ => 2 - (intOf i).toNat)
 case atStart => exact ⟨0, rfl, by omega, hd om, hd om, rfl⟩
 case round =>
  obtain ⟨k, rfl, hk, HA, HB, rfl⟩ := hrel
  have hk3 : k = 0 \/ k = 1 \/ k = 2 := by omega
  rcases hk3 with rfl | rfl | rfl
  .have c0 := H0.out
   by_cases ha : a = 0
   .have ha' : (a != 0) = false := by simpa using ha
    have HZ := hd ha
    clear ha
    go_wp2
    go_roundw
    case rel => exact ⟨1, by go_num, by omega, hd (fun _ => HZ.out), hd om, by first | rfl | trivial⟩
    case measure => simp [intOf]
   .have ha' : (a != 0) = true := by simpa using ha
    have HR : Hid (a = r) := by
     show _ = _
     rw [<- hr, orI, if_pos ha]
    clear ha hr
    go_wp2
    go_ret
    exact ⟨xax HR.out, rfl⟩
  .have c1 := H1.out
   by_cases hb : b = 0
   .have hb' : (b != 0) = false := by simpa using hb
    have HZ := hd hb
    clear hb
    go_wp2
    go_roundw
    case rel => exact ⟨2, by go_num, by omega, hd (fun _ => HA.out om), hd (fun _ => HZ.out), by first | rfl | trivial⟩
    case measure => simp [intOf]
   .have hb' : (b != 0) = true := by simpa using hb
    have HR : Hid (b = r) := by
     show _ = _
     rw [<- hr, orI, if_neg (by simpa using HA.out om)]
    clear hb hr
    go_wp2
    go_ret
    exact ⟨xax HR.out, rfl⟩
  .have HR : Hid ((0 : Int) = r) := by
    show _ = _
    rw [<- hr, orI, if_neg (by simpa using HA.out om), HB.out om]
   go_wp2
   go_ret
   exact ⟨xax HR.out, rfl⟩
theorem xka : xav 122 := xa8 Tryz.func122 kr kr
theorem x4z : xav 121 := xa8 Tryz.func121 kr kr
theorem xvz (x y : Edg) (w : World) : Calls Tryz.prog 120 #[.agg #[.int .i64 x.fr, .int .i64 x.tt], .agg #[.int .i64 y.fr, .int .i64 y.tt]] w fun e w' => e = .returned (.int .i64 (xrx x y)) /\ ∃ q os, w' = grow (w.drewN q) os := by
 obtain ⟨a, b⟩ := x
 obtain ⟨c, d⟩ := y
 obtain ⟨r1, h1⟩ : ∃ r, x2j a c = r := ⟨_, rfl⟩
 obtain ⟨r2, h2⟩ : ∃ r, x2j b d = r := ⟨_, rfl⟩
 obtain ⟨r3, h3⟩ : ∃ r, orI r1 r2 = r := ⟨_, rfl⟩
 have HR : Hid (xrx ⟨a, b⟩ ⟨c, d⟩ = r3) := by
  show _ = _
  unfold xrx
  rw [h1, h2, h3]
 have C1 := hd fun V => xlu a c V r1 h1
 have C2 := hd fun V => xlu b d V r2 h2
 have C3 := hd fun g V k0 k1 => x5b r1 r2 g V k0 k1 r3 h3
 rw [HR.out]
 simp only
 clear h1 h2 h3 HR
 go_enter Tryz.func120, Tryz.ntmps120
 go_upto_region 1 with fail
 generalize hW : World.alloc _ _ = W
 have RA : Hid (Rw W w.heap.size 53 #[.int .i64 a, .int .i64 b]) := by
  show Rw _ _ _ _
  rw [<- hW]
  exact rn0
 have RB : Hid (Rw W (w.heap.size + 1) 53 #[.int .i64 c, .int .i64 d]) := by
  show Rw _ _ _ _
  rw [<- hW]
  exact rn0
 have HW : Hid (W = grow w #[.cells #[.int .i64 a, .int .i64 b] 53, .cells #[.int .i64 c, .int .i64 d] 53]) := by
  show _ = _
  rw [<- hW, alloc_eq_grow, alloc_eq_grow, grow_grow]
  rfl
 clear hW
 refine xad (S := fun w' => Below W.heap.size W w') 12 kr (Below.refl _ _).drew (fun hHeld => ?_)
 have hq := fun w' (hSw : (fun w' => Below W.heap.size W w') w') => And.intro ((RA.out.up hSw RA.out.lt).cell (j := 0) (v := .int .i64 a) rfl) (And.intro ((RA.out.up hSw RA.out.lt).cell (j := 1) (v := .int .i64 b) rfl) (And.intro ((RB.out.up hSw RB.out.lt).cell (j := 0) (v := .int .i64 c) rfl) ((RB.out.up hSw RB.out.lt).cell (j := 1) (v := .int .i64 d) rfl)))
 refine Still.u 0 [] hHeld hq ?_
 refine Still.u 1 [] hHeld hq ?_
 refine Still.u 2 [] hHeld hq ?_
 refine Still.u 3 [] hHeld hq ?_
 refine Still.u 5 [] hHeld hq ?_
 refine Still.u 6 [] hHeld hq ?_
 refine Still.u 7 [] hHeld hq ?_
 refine Still.u 8 [] hHeld hq ?_
 refine Still.o 4 rfl rfl (fun K hK => ?_)
 refine xap 122 _ _ rfl xka #[.int .i64 a, .int .i64 c] ev ((C1.out _).mono ?_)
 rintro e V1 ⟨rfl, rfl⟩
 refine ⟨_, rfl, hK _ _ (fun _ => hHeld) (fun hh => ?_)⟩
 clear hK K hh
 try simp only [Act.put, l1, l2, l3, l4, l5, l6]
 refine Still.o 9 rfl rfl (fun K hK => ?_)
 refine xap 122 _ _ rfl xka #[.int .i64 b, .int .i64 d] ev ((C2.out _).mono ?_)
 rintro e V1 ⟨rfl, rfl⟩
 refine ⟨_, rfl, hK _ _ (fun _ => hHeld) (fun hh => ?_)⟩
 clear hK K hh
 try simp only [Act.put, l1, l2, l3, l4, l5, l6]
 refine Still.o 10 rfl rfl (fun K hK => ?_)
 go_simp
 refine hK _ _ (fun _ => Below.alloc hHeld hHeld.size _) (fun hh => ?_)
 have hHeld2 := hh (by decide)
 clear hK K hh hHeld
 try simp only [Act.put, l1, l2, l3, l4, l5, l6]
 refine Still.o 11 rfl rfl (fun K hK => ?_)
 refine xap 121 _ _ rfl x4z #[.slice (some ⟨W.heap.size, 0, none⟩) 2 2] ev ((C3.out W.heap.size _ (Rw.cell (j := 0) (Rw.drew (Rw.new W 3 #[.int .i64 r1, .int .i64 r2] rfl)) rfl) (Rw.cell (j := 1) (Rw.drew (Rw.new W 3 #[.int .i64 r1, .int .i64 r2] rfl)) rfl)).mono ?_)
 rintro e V1 ⟨rfl, rfl⟩
 refine ⟨_, rfl, hK _ _ (fun _ => hHeld2) (fun hh => ?_)⟩
 clear hK K hh
 try simp only [Act.put, l1, l2, l3, l4, l5, l6]
 refine Still.o 12 rfl rfl (fun K hK => ?_)
 go_simp
 refine hK _ _ ab (fun _ => Still.vv ?_)
 clear hK K
 go_wp2
 go_ret
 refine ⟨rfl, 1, #[.cells #[.int .i64 a, .int .i64 b] 53, .cells #[.int .i64 c, .int .i64 d] 53, .cells #[.int .i64 r1, .int .i64 r2] 3], ?_⟩
 rw [alloc_eq_grow, HW.out, grow_grow]
 rfl
end Go.Proofs.YtbkdoohhdkahiaaGreatDoor

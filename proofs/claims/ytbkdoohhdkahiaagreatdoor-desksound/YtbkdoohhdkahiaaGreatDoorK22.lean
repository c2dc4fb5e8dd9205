/- strings.Cut at a separator of one byte, whatever the text's length. -/
import Derived.Test.YtbkdoohhdkahiaaGreatDoorK0
import Derived.Lib.Bytealg
import Derived.Laws.Externs
import Derived.Deep.RegionWith
import Derived.Test.YtbkdoohhdkahiaaGreatDoorDeShelf
import Derived.Test.YtbkdoohhdkahiaaGreatDoorK2
import Derived.Lib.AppendIntMem
import Derived.Lib.ItoaLen
import Derived.Shelf.RegionOpenPlain
import Derived.Lib.Builder
import Derived.Lib.UnsafeStr
import Derived.Lib.AppendStr
import Derived.Shelf.RegionOpen
namespace Go.Proofs.YtbkdoohhdkahiaaGreatDoor
set_option linter.unusedSimpArgs false
set_option linter.unusedVariables false
open Go.RowKit Go.Sort
def cut1 (c : UInt8) : List UInt8 → List UInt8 × List UInt8 × Bool
  | [] => ([], [], false)
  | b :: r => if b = c then ([], r, true) else (b :: (cut1 c r).1, (cut1 c r).2.1, (cut1 c r).2.2)
theorem cut1_none {c : UInt8} : ∀ {l : List UInt8}, Lib.indexByte l c = -1 → cut1 c l = (l, [], false)
  | [], _ => rfl
  | b :: r, h => by
    unfold Lib.indexByte at h
    by_cases hb : b = c
    · subst hb
      simp at h
    · rw [if_neg (by simpa using hb)] at h
      split at h
      · rename_i h1
        have h1 : Lib.indexByte r c = -1 := by simpa using h1
        rw [cut1, if_neg hb, cut1_none h1]
      · rename_i h1
        have := Lib.indexByte_ge r c
        omega
theorem cut1_some {c : UInt8} : ∀ {l : List UInt8} {i : Nat}, Lib.indexByte l c = i → cut1 c l = (l.take i, l.drop (i + 1), true) ∧ i < l.length
  | [], i, h => by
    have : (-1 : Int) = i := h
    omega
  | b :: r, i, h => by
    unfold Lib.indexByte at h
    by_cases hb : b = c
    · subst hb
      simp at h
      obtain rfl : i = 0 := by omega
      rw [cut1, if_pos rfl]
      simp
    · rw [if_neg (by simpa using hb)] at h
      split at h
      · omega
      · rename_i h1
        have h1 : ¬ Lib.indexByte r c = -1 := by simpa using h1
        have := Lib.indexByte_ge r c
        obtain ⟨j, hj⟩ : ∃ j : Nat, Lib.indexByte r c = j := ⟨(Lib.indexByte r c).toNat, by omega⟩
        obtain rfl : i = j + 1 := by omega
        obtain ⟨e1, e2⟩ := cut1_some hj
        rw [cut1, if_neg hb, e1]
        exact ⟨rfl, by simp; omega⟩
set_option maxRecDepth 100000 in
theorem indexByte_any (l : List UInt8) (c : UInt8) (w : World) :
    Calls Tryz.prog 165 #[.string ⟨l.toArray⟩, .int .u8 c.toNat] w fun e w' => e = .returned (.int .i64 (Lib.indexByte l c)) ∧ w' = w := by
  have hc : ((c.toNat : Int)).toNat.toUInt8 = c := by simp
  go_enter Tryz.func165, Tryz.ntmps165
  go_wp2
  rw [run_callFunc_extern Tryz.func195 (by kernel_rfl) (by kernel_rfl) (by kernel_rfl) (e := Extern.BytealgIndexByte.indexByte) (by kernel_rfl), Lib.run_indexByteString, hc]
  simp only [Result.andThen]
  rw [Oper.upon_value]
  go_wp2
  go_ret
  exact ⟨rfl, rfl⟩
set_option maxRecDepth 100000 in
set_option maxHeartbeats 4000000 in
theorem index1_any (l : List UInt8) (c : UInt8) (w : World) :
    Calls Tryz.prog 115 #[.string ⟨l.toArray⟩, .string ⟨#[c]⟩] w fun e w' => e = .returned (.int .i64 (Lib.indexByte l c)) ∧ w' = w := by
  by_cases hl : l = [c]
  · subst hl
    go_enter Tryz.func115, Tryz.ntmps115
    go_wp2
    go_ret
    exact ⟨by simp [Lib.indexByte], rfl⟩
  · have hne : ([c] == l) = false := by simpa using fun e => hl e.symm
    have HN := Lib.hid (indexByte_any l c)
    generalize Lib.indexByte l c = q at HN
    clear hl
    go_enter Tryz.func115, Tryz.ntmps115
    go_wp2_with fail
    refine (HN.out _).mono ?_
    rintro e w1 ⟨rfl, hw⟩
    have hw' := hw.symm
    clear hw
    subst hw'
    go_wp2
    go_ret
    exact ⟨rfl, rfl⟩
set_option maxRecDepth 100000 in
set_option maxHeartbeats 4000000 in
theorem scut_any (l : List UInt8) (c : UInt8) (hl : l.length ≤ 281474976710656) (w : World) :
    Calls Tryz.prog 65 #[.string ⟨l.toArray⟩, .string ⟨#[c]⟩] w fun e w' => e = .returned (.tuple #[.string ⟨(cut1 c l).1.toArray⟩, .string ⟨(cut1 c l).2.1.toArray⟩, .bool (cut1 c l).2.2]) ∧ Below w.heap.size w w' := by
  have HN := Lib.hid (index1_any l c)
  by_cases hq : Lib.indexByte l c = -1
  · have HC := Lib.hid (cut1_none hq)
    rw [hq] at HN
    clear hq
    go_enter Tryz.func65, Tryz.ntmps65
    go_wp2_with fail
    refine (HN.out _).mono ?_
    rintro e w1 ⟨rfl, hw⟩
    have hw' := hw.symm
    clear hw
    subst hw'
    go_wp2
    go_ret3
    exact ⟨by rw [HC.out] <;> rfl, Below.refl _ _⟩
  · have := Lib.indexByte_ge l c
    obtain ⟨i, hi⟩ : ∃ i : Nat, Lib.indexByte l c = i := ⟨(Lib.indexByte l c).toNat, by omega⟩
    obtain ⟨hc, hlt⟩ := cut1_some hi
    have HC := Lib.hid hc
    rw [hi] at HN
    have e1 : (⟨l.toArray⟩ : ByteArray).extract 0 i = ⟨(l.take i).toArray⟩ := by rw [ext_eq]; simp
    have e2 : (⟨l.toArray⟩ : ByteArray).extract (i + 1) l.length = ⟨(l.drop (i + 1)).toArray⟩ := by rw [ext_eq, List.take_of_length_le (by rw [List.length_drop]; omega)]
    have hli : (i : Int) ≤ l.length := by omega
    have hlj : (i : Int) + 1 ≤ l.length := by omega
    have hw1 : IntKind.i64.wrap ((i : Int) + 1) = ((i + 1 : Nat) : Int) := by simp [IntKind.wrap, IntKind.bits, IntKind.signed]; omega
    clear hq hi hc this
    go_enter Tryz.func65, Tryz.ntmps65
    go_wp2_with fail
    refine (HN.out _).mono ?_
    rintro e w1 ⟨rfl, hw⟩
    have hw' := hw.symm
    clear hw
    subst hw'
    go_wp2
    go_region
    all_goals go_wp2
    all_goals go_ret3
    all_goals exact ⟨by rw [HC.out] <;> rfl, (Below.refl _ _).drew⟩
set_option maxRecDepth 100000 in
set_option maxHeartbeats 4000000 in
theorem cut1_any (l : List UInt8) (c : UInt8) (hl : l.length ≤ 281474976710656) (w : World) :
    Calls Tryz.prog 25 #[.string ⟨l.toArray⟩, .string ⟨#[c]⟩] w fun e w' => e = .returned (.tuple #[.string ⟨(cut1 c l).1.toArray⟩, .string ⟨(cut1 c l).2.1.toArray⟩, .bool (cut1 c l).2.2]) ∧ Below w.heap.size w w' := by
  have HN := Lib.hid (scut_any l c hl w)
  generalize cut1 c l = q at HN
  go_enter Tryz.func25, Tryz.ntmps25
  go_wp2_with fail
  refine HN.out.mono ?_
  rintro e w1 ⟨rfl, b1⟩
  have B1 := Lib.hid b1
  clear b1
  go_wp2
  go_ret3
  exact ⟨rfl, B1.out⟩
end Go.Proofs.YtbkdoohhdkahiaaGreatDoor
namespace Go.Proofs.YtbkdoohhdkahiaaGreatDoor
set_option linter.unusedSimpArgs false
set_option linter.unusedVariables false
open Go.RowKit Go.Sort
theorem below_grow (w : World) (k : Nat) (os : Array Obj) : Below w.heap.size w (grow (w.drewN k) os) := by
  refine (below_drewN (Below.refl _ w) k).trans ⟨rfl, rfl, rfl, ?_, fun i hi => ?_⟩
  · simp [grow]
  · simp only [grow]
    exact Array.getElem?_append_left hi
theorem itoa_any (n : Int) (h : in64 n) (w : World) (he : Env w) : Calls Tryz.prog 103 #[.int .i64 n] w fun e w' => e = .returned (.string ⟨(Lib.itoa n).toArray⟩) ∧ Below w.heap.size w w' := by
  refine (Tryz.strconv_Itoa n h.1 h.2 w he.tab).mono ?_
  rintro e w' ⟨rfl, k, os, rfl⟩
  exact ⟨rfl, below_grow w k os⟩
theorem atoi_any (l : List UInt8) (w : World) (he : Env w) (hs : l.length ≤ 281474976710656) : Calls Tryz.prog 116 #[.string ⟨l.toArray⟩] w fun e w' =>
    ((∃ v, Lib.atoiAll l = .ok v ∧ e = .returned (.tuple #[.int .i64 v, .nilIface])) ∨
     ((∀ v, Lib.atoiAll l ≠ .ok v) ∧ ∃ z t p, e = .returned (.tuple #[.int .i64 z, .iface t p]))) ∧ Below w.heap.size w w' := by
  obtain ⟨t1, p1, e1⟩ := he.syn
  obtain ⟨t2, p2, e2⟩ := he.rng
  have hz : (⟨l.toArray⟩ : ByteArray).size = l.length := by simp [ByteArray.size]
  cases h : Lib.atoiAll l with
  | ok v =>
    refine (Any.strconv_Atoi_ok Tryz.laysC172 ⟨l.toArray⟩ (by omega) v (by simpa using h) w).mono ?_
    rintro e w' ⟨rfl, hw⟩
    refine ⟨Or.inl ⟨v, rfl, rfl⟩, ?_⟩
    rcases hw with rfl | ⟨t, rfl⟩
    · exact Below.refl _ _
    · exact Lib.bytesWorld_below _ _ _
  | _ =>
    first
    | (refine (Any.strconv_Atoi_syntax Tryz.laysC172 ⟨l.toArray⟩ (by omega) (by simpa using h) _ w e1 (Or.inr ⟨t1, p1, rfl⟩)).mono ?_
       rintro e w' ⟨N, rfl, _, _, hb⟩
       exact ⟨Or.inr ⟨(fun v hv => nomatch hv), _, _, _, rfl⟩, hb⟩)
    | (refine (Any.strconv_Atoi_range Tryz.laysC172 ⟨l.toArray⟩ (by omega) (by simpa using h) _ w e2 (Or.inr ⟨t2, p2, rfl⟩)).mono ?_
       rintro e w' ⟨N, rfl, _, _, hb⟩
       exact ⟨Or.inr ⟨(fun v hv => nomatch hv), _, _, _, rfl⟩, hb⟩)
theorem atoi_digit (n : Nat) (h : n < 4) : Lib.atoiAll [UInt8.ofNat (48 + n)] = .ok n := by
  have : ∀ n : Fin 4, Lib.atoiAll [UInt8.ofNat (48 + n.val)] = .ok (n.val : Int) := by decide +kernel
  exact this ⟨n, h⟩
def partD (l : List UInt8) : Option Int := if l = [48] then some 0 else if l = [49] then some 1 else if l = [50] then some 2 else if l = [51] then some 3 else none
theorem partD_some {l : List UInt8} {n : Int} (h : partD l = some n) : 0 ≤ n ∧ n < 4 ∧ l = [UInt8.ofNat (48 + n.toNat)] := by
  unfold partD at h
  split at h
  · injection h with h; subst h; subst_vars; exact ⟨by decide, by decide, rfl⟩
  · split at h
    · injection h with h; subst h; subst_vars; exact ⟨by decide, by decide, rfl⟩
    · split at h
      · injection h with h; subst h; subst_vars; exact ⟨by decide, by decide, rfl⟩
      · split at h
        · injection h with h; subst h; subst_vars; exact ⟨by decide, by decide, rfl⟩
        · cases h
theorem partD_itoa {n : Int} (h0 : 0 ≤ n) (h1 : n < 4) : partD (Lib.itoa n) = some n := by
  have : ∀ m : Fin 4, partD (Lib.itoa (m.val : Int)) = some (m.val : Int) := by decide +kernel
  obtain ⟨m, rfl⟩ : ∃ m : Nat, n = m := ⟨n.toNat, by omega⟩
  exact this ⟨m, by omega⟩
theorem itoa_part {n : Int} (h0 : 0 ≤ n) (h1 : n < 4) : Lib.itoa n = [UInt8.ofNat (48 + n.toNat)] := by
  have : ∀ m : Fin 4, Lib.itoa (m.val : Int) = [UInt8.ofNat (48 + ((m.val : Int)).toNat)] := by decide +kernel
  obtain ⟨m, rfl⟩ : ∃ m : Nat, n = m := ⟨n.toNat, by omega⟩
  exact this ⟨m, by omega⟩
theorem part_atoi {l : List UInt8} {n : Int} (h : partD l = some n) : Lib.atoiAll l = .ok n ∧ Lib.itoa n = l := by
  obtain ⟨h0, h1, e⟩ := partD_some h
  have := atoi_digit n.toNat (by omega)
  rw [show ((n.toNat : Nat) : Int) = n by omega] at this
  rw [e]
  exact ⟨this, itoa_part h0 h1⟩
theorem part_none {l : List UInt8} (h : ∀ n, partD l ≠ some n) : partD l = none := by
  cases hp : partD l with
  | none => rfl
  | some n => exact absurd hp (h n)
def PartIs (l : List UInt8) (n : Int) (is : Bool) : Prop := partD l = if is then some n else none
theorem in64_small {n : Int} (h0 : 0 ≤ n) (h1 : n < 4) : in64 n := ⟨by omega, by omega⟩
set_option maxRecDepth 100000 in
set_option maxHeartbeats 4000000 in
theorem dpart_any (l : List UInt8) (w : World) (he : Env w) (hs : l.length ≤ 281474976710656) :
    Calls Tryz.prog 66 #[.string ⟨l.toArray⟩] w fun e w' => ∃ n is, e = .returned (.tuple #[.int .i64 n, .bool is]) ∧ PartIs l n is ∧ Below w.heap.size w w' := by
  have HE := Lib.hid he
  have HA := Lib.hid (atoi_any l w he hs)
  clear he
  go_enter Tryz.func66, Tryz.ntmps66
  go_wp2_with fail
  refine HA.out.mono ?_
  rintro e w1 ⟨(⟨v, hv, rfl⟩ | ⟨hv, z, t, p, rfl⟩), b1⟩
  · have B1 := Lib.hid b1
    clear b1
    by_cases h0 : 0 ≤ v
    · by_cases h1 : v < 4
      · by_cases hl : Lib.itoa v = l
        · have HP : Hid (partD l = some v) := Lib.hid (by rw [← hl]; exact partD_itoa h0 h1)
          have HI := Lib.hid (itoa_any v (in64_small h0 h1))
          rw [hl] at HI
          clear hl hv
          go_wp2_with (go_at_call 103; refine (HI.out _ (HE.out.up B1.out)).mono ?_; rintro e w2 ⟨rfl, b2⟩; have B2 := Lib.hid (B1.out.trans (b2.mono B1.out.size)); clear b2)
          go_ret2
          exact ⟨v, true, rfl, HP.out, B2.out⟩
        · have HP : Hid (partD l = none) := Lib.hid (part_none (fun n hn => by
            obtain ⟨a, b⟩ := part_atoi hn
            rw [hv] at a
            injection a with a
            exact hl (a ▸ b)))
          have HI := Lib.hid (itoa_any v (in64_small h0 h1))
          have hlf : (Lib.itoa v == l) = false := by simpa using hl
          clear hl hv
          generalize Lib.itoa v = q at *
          go_wp2_with (go_at_call 103; refine (HI.out _ (HE.out.up B1.out)).mono ?_; rintro e w2 ⟨rfl, b2⟩; have B2 := Lib.hid (B1.out.trans (b2.mono B1.out.size)); clear b2)
          go_ret2
          exact ⟨v, false, rfl, HP.out, B2.out⟩
      · have HP : Hid (partD l = none) := Lib.hid (part_none (fun n hn => by
          obtain ⟨a, b⟩ := part_atoi hn
          rw [hv] at a
          injection a with a
          have := (partD_some hn).2.1
          omega))
        clear hv
        go_wp2
        go_ret2
        first | exact ⟨v, false, rfl, HP.out, B1.out⟩ | exact ⟨v, .inl ⟨rfl, HP.out, B1.out⟩⟩
    · have HP : Hid (partD l = none) := Lib.hid (part_none (fun n hn => by
        obtain ⟨a, b⟩ := part_atoi hn
        rw [hv] at a
        injection a with a
        have := (partD_some hn).1
        omega))
      clear hv
      go_wp2
      go_ret2
      first | exact ⟨v, false, rfl, HP.out, B1.out⟩ | exact ⟨v, .inl ⟨rfl, HP.out, B1.out⟩⟩
  · have HP : Hid (partD l = none) := Lib.hid (part_none (fun n hn => hv n (part_atoi hn).1))
    have B1 := Lib.hid b1
    clear hv b1
    go_wp2
    go_ret2
    exact ⟨z, false, rfl, HP.out, B1.out⟩
theorem sizeEdgeD : (Tryz.prog.info? 53).map (·.size) = some 2 := by kernel_rfl
def edgeD (l : List UInt8) : Option (Int × Int) :=
  if (cut1 62 l).2.2 = true then
    match partD (cut1 62 l).1, partD (cut1 62 l).2.1 with
    | some a, some b => some (a, b)
    | _, _ => none
  else none
def EdgeIs (l : List UInt8) (a b : Int) (is : Bool) : Prop := edgeD l = if is then some (a, b) else none
theorem edge_is {l : List UInt8} {a b : Int} {x y : Bool} (h1 : PartIs (cut1 62 l).1 a x) (h2 : PartIs (cut1 62 l).2.1 b y) : EdgeIs l a b (((cut1 62 l).2.2 && x) && y) := by
  unfold EdgeIs edgeD
  unfold PartIs at h1 h2
  cases hc : (cut1 62 l).2.2 with
  | false => simp
  | true =>
    rw [h1, h2]
    cases x <;> cases y <;> simp
theorem cut1_len (c : UInt8) : ∀ l : List UInt8, (cut1 c l).1.length ≤ l.length ∧ (cut1 c l).2.1.length ≤ l.length
  | [] => ⟨Nat.le_refl _, Nat.le_refl _⟩
  | b :: r => by
    have ih := cut1_len c r
    unfold cut1
    split
    · exact ⟨by simp, by simp⟩
    · exact ⟨by simpa using ih.1, by simp; omega⟩
set_option maxRecDepth 100000 in
set_option maxHeartbeats 4000000 in
theorem dedge_any (l : List UInt8) (w : World) (he : Env w) (hs : l.length ≤ 281474976710656) :
    Calls Tryz.prog 26 #[.string ⟨l.toArray⟩] w fun e w' => ∃ a b is, e = .returned (.tuple #[.agg #[.int .i64 a, .int .i64 b], .bool is]) ∧ EdgeIs l a b is ∧ Below w.heap.size w w' := by
  have HE := Lib.hid he
  have hc := cut1_len 62 l
  have HX := Lib.hid (fun a b x y => @edge_is l a b x y)
  have HU := Lib.hid (cut1_any l 62 hs)
  have D0 := Lib.hid ((Below.refl w.heap.size w).alloc (Nat.le_refl _) (.cells #[.int .i64 0, .int .i64 0] 53))
  have R0 := Lib.hid (Rw.new w 53 #[.int .i64 0, .int .i64 0] rfl)
  generalize cut1 62 l = c at *
  obtain ⟨p, q, z⟩ := c
  dsimp only at hc HX HU
  clear he
  go_enter Tryz.func26, Tryz.ntmps26
  go_wp2_with fail
  refine (HU.out _).mono ?_
  rintro e w1 ⟨rfl, b1⟩
  have D1 := Lib.hid (D0.out.trans (b1.mono (by simp)))
  have R1 := Lib.hid (R0.out.up b1 (by simp))
  clear b1 D0 R0
  go_wp2_with fail
  refine (dpart_any p _ (HE.out.up D1.out) (by omega)).mono ?_
  rintro e w2 ⟨a, x, rfl, ha, b2⟩
  have HA := Lib.hid ha
  have D2 := Lib.hid (D1.out.trans (b2.mono D1.out.size))
  have R2 := Lib.hid (R1.out.up b2 R1.out.lt)
  clear b2 ha D1 R1
  go_wp2_with fail
  refine (dpart_any q _ (HE.out.up D2.out) (by omega)).mono ?_
  rintro e w3 ⟨b, y, rfl, hb, b3⟩
  have HB := Lib.hid (HX.out a b x y HA.out hb)
  have D3 := Lib.hid (D2.out.trans (b3.mono D2.out.size))
  have R3 := Lib.hid (R2.out.up b3 R2.out.lt)
  clear b3 hb D2 R2 HA HX
  cases z <;> cases x <;> cases y
  all_goals go_wp2_with (refine wpList_store_rowW rfl 53 (.tmp 2) (.tmp 29) rfl w.heap.size #[.int .i64 a, .int .i64 b] rfl rfl 53 _ R3.out sizeEdgeD rfl (by simp [Value.oneCell']) ?_)
  all_goals intro W4 HW4
  all_goals have r5 : Rw W4 w.heap.size 53 #[.int .i64 a, .int .i64 b] := by rw [HW4.out]; exact R3.out.row _
  all_goals have HB4 := Lib.hid (show Below w.heap.size w W4 by rw [HW4.out]; exact below_row D3.out (Nat.le_refl _) _)
  all_goals clear HW4
  all_goals go_wp2
  all_goals exact bodyPost_ret (results_row_tmp Tryz.results26 _ _ w.heap.size _ _ rfl rfl (run_loadVar_row _ _ 53 _ _ (0, 0) _ r5 Tryz.underlying53 rfl sizeEdgeD)) rfl ⟨a, b, _, rfl, HB.out, HB4.out⟩
def lessB (a b c d : Int) : Bool := decide (a < c) || (a == c && decide (b < d))
set_option maxRecDepth 100000 in
theorem dless_any (a b c d : Int) (w : World) : Calls Tryz.prog 27 #[.agg #[.int .i64 a, .int .i64 b], .agg #[.int .i64 c, .int .i64 d]] w fun e w' => e = .returned (.bool (lessB a b c d)) ∧ Below w.heap.size w w' := by
  unfold lessB
  by_cases h1 : a < c
  · go_enter Tryz.func27, Tryz.ntmps27
    go_wp2
    go_ret
    exact ⟨by simp [h1] <;> rfl, up0⟩
  · by_cases h2 : a = c
    · have h2b : (a == c) = true := by simpa using h2
      have h1b : decide (a < c) = false := by simpa using h1
      rw [h1b, h2b]
      clear h2 h1
      go_enter Tryz.func27, Tryz.ntmps27
      go_wp2
      all_goals go_ret
      all_goals exact ⟨by simp_all, up0⟩
    · have h2b : (a == c) = false := by simpa using h2
      have h1b : decide (a < c) = false := by simpa using h1
      rw [h1b, h2b]
      clear h2
      go_enter Tryz.func27, Tryz.ntmps27
      go_wp2
      all_goals go_ret
      all_goals exact ⟨by simp_all, up0⟩
end Go.Proofs.YtbkdoohhdkahiaaGreatDoor
namespace Go.Proofs.YtbkdoohhdkahiaaGreatDoor
set_option linter.unusedSimpArgs false
set_option linter.unusedVariables false
open Go.RowKit Go.Sort
theorem bldSize : (Tryz.prog.info? 108).map (·.size) = some 2 := by kernel_rfl
theorem infoByte : (Tryz.prog.info? 5).map (fun i => (i.zero, i.size, i.bytes)) = some (some (.int .u8 0), 1, 1) := by kernel_rfl
theorem cellsByte : Tryz.prog.cellsOf 5 = 1 := by kernel_rfl
def LiesB (T : TypeId) : Prop := liesAt Tryz.prog Tryz.prog.depth T (2 / Tryz.prog.cellsOf T) 0 108 1 = true ∧ T ≠ 5
structure Wr (B g : Nat) (w w' : World) : Prop where
  b : Below B w w'
  k : ∀ c t cs, c ≠ g → t ≠ 5 → Rw w c t cs → Rw w' c t cs
theorem Wr.refl (B b : Nat) (w : World) : Wr B b w w := ⟨Below.refl _ _, fun _ _ _ _ _ h => h⟩
theorem Wr.trans {B b : Nat} {w w1 w2 : World} (h : Wr B b w w1) (h' : Wr B b w1 w2) : Wr B b w w2 := ⟨h.b.trans h'.b, fun c t cs h1 h2 h3 => h'.k c t cs h1 h2 (h.k c t cs h1 h2 h3)⟩
theorem Wr.up {B b : Nat} {w w' : World} (h : Below w.heap.size w w') (hB : B ≤ w.heap.size) : Wr B b w w' := ⟨h.mono hB, fun _ _ _ _ _ h3 => h3.up h h3.lt⟩
theorem Wr.set {B b : Nat} {w w' : World} (h : Wr B b w w') (hB : B ≤ b) (i : Nat) (v : Value) : Wr B b w (w'.setCell ⟨b, i, none⟩ v) :=
  ⟨h.b.setCell (p := ⟨b, i, none⟩) hB _, fun c t cs h1 h2 h3 => (h.k c t cs h1 h2 h3).set_other _ h1⟩
theorem Wr.size {B b : Nat} {w w' : World} (h : Wr B b w w') : w.heap.size ≤ w'.heap.size := h.b.size
set_option maxHeartbeats 1000000 in
set_option maxRecDepth 100000 in
theorem copyCheck_used (b : Nat) (w : World) (h0 : w.cell? ⟨b, 0, none⟩ = some (.pointer (some ⟨b, 0, none⟩))) :
    Calls Tryz.prog 158 #[.pointer (some ⟨b, 0, none⟩)] w fun e w' => e = .returned (.tuple #[]) ∧ w' = w := by
  obtain ⟨j, hj, _⟩ := Option.map_eq_some_iff.1 bldSize
  go_enter Tryz.func158, Tryz.ntmps158
  go_wp2
  rw [Lib.run_neq_ptr_same w _ Tryz.underlying105 hj]
  go_wp2
  go_end0
  exact ⟨rfl, rfl⟩
set_option maxHeartbeats 1000000 in
set_option maxRecDepth 100000 in
theorem copyCheck_fresh (T : TypeId) (hT : LiesB T) (b : Nat) (w : World) (h0 : w.cell? ⟨b, 0, none⟩ = some (.pointer none)) (hsh : w.shape? b = some (T, 2)) (hfz : w.frozen? ⟨b, 0, none⟩ = false) :
    Calls Tryz.prog 158 #[.pointer (some ⟨b, 0, none⟩)] w fun e w' => e = .returned (.tuple #[]) ∧ w' = w.setCell ⟨b, 0, none⟩ (.pointer (some ⟨b, 0, none⟩)) := by
  obtain ⟨j, hj, hjs⟩ := Option.map_eq_some_iff.1 bldSize
  go_enter Tryz.func158, Tryz.ntmps158
  go_wp2
  rw [Lib.run_to_unsafe w ⟨b, 0, none⟩ Tryz.underlying105 Tryz.underlying254 hj (by rw [hjs]; decide) hsh (Nat.zero_lt_succ 1)]
  simp only [Result.andThen]
  rw [Oper.upon_value]
  go_wp2
  rw [run_callFunc_extern Tryz.func191 (by kernel_rfl) (by kernel_rfl) (by kernel_rfl) (e := Extern.AbiNoEscape.same) (by kernel_rfl)]
  rw [Lib.run_noEscape]
  simp only [Result.andThen]
  rw [Oper.upon_value]
  go_wp2
  rw [Lib.run_from_unsafe w ⟨b, 0, none⟩ Tryz.underlying254 Tryz.underlying105 hj hsh hT.1]
  simp only [Result.andThen]
  rw [Oper.upon_value]
  go_wp2
  go_end0
  exact ⟨rfl, rfl⟩
theorem copyCheck_any (T : TypeId) (hT : LiesB T) (B b : Nat) (bs : List Value) (w : World) (h : Lib.IsBuilder T 5 B b bs w) :
    Calls Tryz.prog 158 #[.pointer (some ⟨b, 0, none⟩)] w fun e w' => e = .returned (.tuple #[]) ∧ (Lib.BuilderAt T 5 B b (.pointer (some ⟨b, 0, none⟩)) bs w' ∧ Wr B b w w') := by
  rcases h with h | h
  · refine (copyCheck_fresh T hT b w h.cell0 h.shape h.frozen0).mono ?_
    rintro e w' ⟨rfl, rfl⟩
    exact ⟨rfl, h.used _, (Wr.refl B b w).set h.1 _ _⟩
  · refine (copyCheck_used b w h.cell0).mono ?_
    rintro e w' ⟨rfl, rfl⟩
    exact ⟨rfl, h, Wr.refl B b _⟩
set_option maxHeartbeats 2000000 in
set_option maxRecDepth 100000 in
theorem writeByte_any (T : TypeId) (hT : LiesB T) (B b : Nat) (bs : List Value) (c : Int) (w : World) (h : Lib.IsBuilder T 5 B b bs w) (hlen : bs.length + 1 ≤ 140737488355328) (hBw : B ≤ w.heap.size) :
    Calls Tryz.prog 102 #[.pointer (some ⟨b, 0, none⟩), .int .u8 c] w fun e w' => e = .returned .nilIface ∧ (Lib.IsBuilder T 5 B b (bs ++ [.int .u8 c]) w' ∧ Wr B b w w') := by
  obtain ⟨i0, hi, hz0, hz1, hz2⟩ := info_parts infoByte
  go_enter Tryz.func102, Tryz.ntmps102
  go_wp2_with fail
  refine (copyCheck_any T hT B b bs _ h).mono ?_
  rintro e w1 ⟨rfl, h1, hb1⟩
  obtain ⟨hB, v, hbk, hown, hne⟩ := h1
  have c0 : w1.cell? ⟨b, 0, none⟩ = some (.pointer (some ⟨b, 0, none⟩)) := by rw [Lib.cell_of_heap hbk]; rfl
  have c1 : w1.cell? ⟨b, 1, none⟩ = some v := by rw [Lib.cell_of_heap hbk]; rfl
  go_wp2_with (at_builtin; refine wpList_append_own _ rfl _ _ 106 rfl B 5 i0 (.int .u8 0) 1 1 Tryz.underlying106 hi hz0 hz1 hz2 rfl (by decide) _ _ _ rfl (hown.alloc _) ⟨w1.heap.size, 0, none⟩ 1 1 [.int .u8 c] rfl rfl ?c1 ?c2 ?c3 ?c4 ?c5 ?_)
  case c1 =>
    intro j u hj
    match j, hj with
    | 0, hj => simp at hj; subst hj; simp [Addr.add]
  case c2 => intro u hu; simp at hu; subst hu; rfl
  case c3 => unfold maxLen; omega
  case c4 => omega
  case c5 => have := hb1.size; simp; omega
  intro v' w2 hown' hgrow _
  have hlt : b < w1.heap.size := by
    rcases Nat.lt_or_ge b w1.heap.size with h' | h'
    · exact h'
    · simp [Array.getElem?_eq_none h'] at hbk
  have hb2 : w2.heap[b]? = some (.cells #[.pointer (some ⟨b, 0, none⟩), v] T (0, 0)) := by
    rw [hgrow.block b (by simp; omega) (fun e => hne e.symm), Lib.alloc_old w1 _ b hlt]
    exact hbk
  have d0 : w2.cell? ⟨b, 0, none⟩ = some (.pointer (some ⟨b, 0, none⟩)) := by rw [Lib.cell_of_heap hb2]; rfl
  have d1 : w2.cell? ⟨b, 1, none⟩ = some v := by rw [Lib.cell_of_heap hb2]; rfl
  have f1 : w2.frozen? ⟨b, 1, none⟩ = false := Lib.frozen_of_heap hb2 1
  obtain ⟨g, cap, rfl⟩ : ∃ g cap, v' = .slice (some ⟨g, 0, none⟩) (bs.length + 1) cap := by
    rcases hown'.2 with ⟨_, h0⟩ | ⟨g, cap, cur, hv, _⟩
    · omega
    · exact ⟨g, cap, hv⟩
  go_wp2
  go_ret
  refine ⟨rfl, ?_, ?_⟩
  · exact .inr (Lib.BuilderAt.put (T := T) (e := 5) hB hb2 (bs' := bs ++ [.int .u8 c]) (by simpa using hown') hT.2)
  · refine Wr.set ⟨(hb1.b.alloc (by have := hb1.size; omega) _).grown hgrow (by have := hb1.size; simp; omega) (fun k hk => (hown.lt k hk).1), fun c' t cs h1 h2 h3 => ?_⟩ hB _ _
    have h4 := (hb1.k c' t cs h1 h2 h3).alloc (.cells #[.int .u8 c] 5)
    refine (hgrow.block c' h4.lt ?_).trans h4
    intro e
    rcases hown.2 with ⟨rfl, _⟩ | ⟨g', cap', cur', rfl, _, hh, _⟩
    · cases e
    · simp [Value.ownBlock] at e
      subst e
      have h5 := (hb1.k c' t cs h1 h2 h3).symm.trans hh
      injection h5 with h5
      injection h5 with _ h5
      exact h2 h5
theorem own_upB {w w' : World} {base : Nat} {e : TypeId} {size : Nat} {v : Value} {n : Nat} {xs : List Value} (h : w.ownsRow base e size v n xs) (hb : Below w.heap.size w w') : w'.ownsRow base e size v n xs := own_up h hb (own_lt h)
theorem bld_up {w w' : World} {T e : TypeId} {B b : Nat} {bs : List Value} (h : Lib.IsBuilder T e B b bs w) (hb : Below w.heap.size w w') : Lib.IsBuilder T e B b bs w' := by
  rcases h with h | h
  · obtain ⟨h1, v, h2, h3, h4⟩ := h
    have hlt := Lib.BuilderAt.lt ⟨h1, v, h2, h3, h4⟩
    exact Or.inl ⟨h1, v, by rw [hb.block b hlt]; exact h2, own_upB h3 hb, h4⟩
  · obtain ⟨h1, v, h2, h3, h4⟩ := h
    have hlt := Lib.BuilderAt.lt ⟨h1, v, h2, h3, h4⟩
    exact Or.inr ⟨h1, v, by rw [hb.block b hlt]; exact h2, own_upB h3 hb, h4⟩
theorem byteCells_app (a b : List UInt8) : Lib.byteCells (a ++ b) = Lib.byteCells a ++ Lib.byteCells b := by simp [Lib.byteCells]
end Go.Proofs.YtbkdoohhdkahiaaGreatDoor
namespace Go.Proofs.YtbkdoohhdkahiaaGreatDoor
set_option linter.unusedSimpArgs false
set_option linter.unusedVariables false
open Go.RowKit Go.Sort
set_option maxHeartbeats 2000000 in
set_option maxRecDepth 100000 in
theorem bldString_any (T : TypeId) (B b : Nat) (l : List UInt8) (w : World) (h : Lib.IsBuilder T 5 B b (Lib.byteCells l) w) (h0 : l ≠ []) :
    Calls Tryz.prog 48 #[.pointer (some ⟨b, 0, none⟩)] w fun e w' => e = .returned (.string ⟨l.toArray⟩) ∧ Below B w w' := by
  obtain ⟨p, hB, v, hbk, hown, hne⟩ : ∃ p, Lib.BuilderAt T 5 B b p (Lib.byteCells l) w := by
    rcases h with h | h
    · exact ⟨_, h⟩
    · exact ⟨_, h⟩
  have hl0 : l.length ≠ 0 := by simpa using h0
  rw [Lib.byteCells_length] at hown
  obtain ⟨g, cap, cur, rfl, hbg, hg, hnc, hcm, hcs, htake⟩ : ∃ g cap cur, v = .slice (some ⟨g, 0, none⟩) l.length cap ∧ B ≤ g ∧ w.heap[g]? = some (.cells cur 5 (0, 0)) ∧ l.length ≤ cap ∧ cap ≤ maxLen ∧ cur.size = cap * 1 ∧ cur.toList.take (l.length * 1) = Lib.byteCells l := by
    rcases hown.2 with ⟨_, hz⟩ | ⟨g, cap, cur, hv, r⟩
    · exact absurd hz hl0
    · exact ⟨g, cap, cur, hv, r⟩
  have c1 : w.drew.cell? ⟨b, 1, none⟩ = some (.slice (some ⟨g, 0, none⟩) l.length cap) := by
    have : w.drew.heap[b]? = some (.cells #[p, .slice (some ⟨g, 0, none⟩) l.length cap] T (0, 0)) := hbk
    rw [Lib.cell_of_heap this]; rfl
  have hSD : (Builtin.unsafeSliceData_ #[106] 159 #[.slice (some ⟨g, 0, none⟩) l.length cap]).run Tryz.prog w.drew = .ok (.pointer (some ⟨g, 0, none⟩)) w.drew :=
    Lib.run_unsafeSliceData_row _ _ _ _ _ _ (by omega)
  have hUS : (Builtin.unsafeString_ #[159, 3] 9 #[.pointer (some ⟨g, 0, none⟩), .int .i64 l.length]).run Tryz.prog w.drew = .ok (.string ⟨l.toArray⟩) (w.drew.freeze ⟨g, 0, none⟩ l.length) := by
    refine Lib.run_unsafeString_row w.drew 159 3 9 5 Tryz.underlying159 cellsByte g cur.size (by have hg' : w.drew.heap[g]? = some (.cells cur 5 (0, 0)) := hg; simp [World.shape?, hg']) l h0 (by omega) (by unfold maxLen at hcm; omega) ?_
    intro j x hx
    have := hown.cells (g := g) rfl j (.int .u8 x.toNat) (by simp [Lib.byteCells, hx])
    exact this
  have mixed : Tryz.prog.follows Departure.mixedOrders = true := by kernel_rfl
  clear hl0 hnc hcm hcs htake hown hbk hg h hne
  go_enter Tryz.func48, Tryz.ntmps48
  go_wp2
  go_region_o
  all_goals (go_wp2; go_ret; exact ⟨rfl, Lib.below_freeze (Below.drew (Below.refl B w)) (p := ⟨g, 0, none⟩) hbg _⟩)
end Go.Proofs.YtbkdoohhdkahiaaGreatDoor
namespace Go.Proofs.YtbkdoohhdkahiaaGreatDoor
set_option linter.unusedSimpArgs false
set_option linter.unusedVariables false
open Go.RowKit Go.Sort
set_option maxHeartbeats 2000000 in
set_option maxRecDepth 100000 in
theorem writeString_any (T : TypeId) (hT : LiesB T) (B b : Nat) (l s : List UInt8) (w : World) (h : Lib.IsBuilder T 5 B b (Lib.byteCells l) w) (hlen : l.length + s.length ≤ 140737488355328) (hBw : B ≤ w.heap.size) :
    Calls Tryz.prog 101 #[.pointer (some ⟨b, 0, none⟩), .string ⟨s.toArray⟩] w fun e w' => e = .returned (.tuple #[.int .i64 s.length, .nilIface]) ∧ (Lib.IsBuilder T 5 B b (Lib.byteCells (l ++ s)) w' ∧ Wr B b w w') := by
  obtain ⟨i0, hi, hz0, hz1, hz2⟩ := info_parts infoByte
  have hsz : (⟨s.toArray⟩ : ByteArray).size = s.length := by simp [ByteArray.size]
  have hsc : Lib.strCells ⟨s.toArray⟩ = Lib.byteCells s := by simp [Lib.strCells, Lib.byteCells]
  have hbl := Lib.byteCells_length l
  go_enter Tryz.func101, Tryz.ntmps101
  go_wp2_with fail
  refine (copyCheck_any T hT B b (Lib.byteCells l) _ h).mono ?_
  rintro e w1 ⟨rfl, h1, hb1⟩
  obtain ⟨hB, v, hbk, hown, hne⟩ := h1
  have c0 : w1.cell? ⟨b, 0, none⟩ = some (.pointer (some ⟨b, 0, none⟩)) := by rw [Lib.cell_of_heap hbk]; rfl
  have c1 : w1.cell? ⟨b, 1, none⟩ = some v := by rw [Lib.cell_of_heap hbk]; rfl
  go_wp2_with (at_builtin; refine Lib.wpList_append_own_string _ rfl _ _ 106 9 rfl B 5 i0 Tryz.underlying106 Tryz.underlying9 hi hz0 hz1 hz2 _ _ _ rfl hown ⟨s.toArray⟩ rfl ?c3 ?c4 ?c5 ?_)
  case c3 => unfold maxLen; omega
  case c4 => omega
  case c5 => have := hb1.size; omega
  intro v' w2 hown' hgrow _
  have hlt : b < w1.heap.size := by
    rcases Nat.lt_or_ge b w1.heap.size with h' | h'
    · exact h'
    · simp [Array.getElem?_eq_none h'] at hbk
  have hb2 : w2.heap[b]? = some (.cells #[.pointer (some ⟨b, 0, none⟩), v] T (0, 0)) := by
    rw [hgrow.block b hlt (fun e => hne e.symm)]
    exact hbk
  have d0 : w2.cell? ⟨b, 0, none⟩ = some (.pointer (some ⟨b, 0, none⟩)) := by rw [Lib.cell_of_heap hb2]; rfl
  have d1 : w2.cell? ⟨b, 1, none⟩ = some v := by rw [Lib.cell_of_heap hb2]; rfl
  have f1 : w2.frozen? ⟨b, 1, none⟩ = false := Lib.frozen_of_heap hb2 1
  obtain ⟨ao, n', cap, rfl⟩ : ∃ ao n' cap, v' = .slice ao n' cap := by
    rcases hown'.2 with ⟨hv, _⟩ | ⟨g, cap, cur, hv, _⟩
    · exact ⟨_, _, _, hv⟩
    · exact ⟨_, _, _, hv⟩
  go_wp2
  go_ret2
  refine ⟨by rw [← hsz] <;> rfl, ?_, ?_⟩
  · refine .inr (Lib.BuilderAt.put (T := T) (e := 5) hB hb2 (bs' := Lib.byteCells (l ++ s)) ?_ hT.2)
    have hL : (Lib.byteCells (l ++ s)).length = l.length + s.length := by rw [Lib.byteCells_length, List.length_append]
    rw [hL, byteCells_app]
    simpa [hsc, hsz, hbl] using hown'
  · refine Wr.set ⟨hb1.b.grown hgrow (by have := hb1.size; omega) (fun k hk => (hown.lt k hk).1), fun c' t cs h1 h2 h3 => ?_⟩ hB _ _
    have h4 := hb1.k c' t cs h1 h2 h3
    refine (hgrow.block c' h4.lt ?_).trans h4
    intro e
    rcases hown.2 with ⟨rfl, _⟩ | ⟨g', cap', cur', rfl, _, hh, _⟩
    · cases e
    · simp [Value.ownBlock] at e
      subst e
      have h5 := (hb1.k c' t cs h1 h2 h3).symm.trans hh
      injection h5 with h5
      injection h5 with _ h5
      exact h2 h5
end Go.Proofs.YtbkdoohhdkahiaaGreatDoor

/- image.write: how many, and each one. -/
import Derived.Test.YtbhfnkbflikliaaDoorJ3
import Derived.Shelf.RegionOpen
import Derived.RangeFuncNested
import Derived.RangeFuncBound
import Derived.RangeFuncCalls
import Derived.RangeFuncLeaves
import Derived.RangeFuncBox
import Derived.Shelf.Abstract
import Derived.WalkKit
import Derived.OwnWalkIn
import Derived.TacticsInMore
import Derived.LoopNIn
import Derived.LoopIn
import Derived.Test.YtbhfnkbflikliaaDoorJ0
namespace Go.Proofs.YtbhfnkbflikliaaDoor
set_option linter.unusedSimpArgs false
set_option linter.unusedVariables false
open Go.RowKit Go.Sort
theorem flat_len {α : Type} {enc : α → List UInt8} {m : Nat} : ∀ {xs : List α}, (∀ x ∈ xs, (enc x).length ≤ m) → (xs.flatMap enc).length ≤ m * xs.length
  | [], _ => by simp
  | x :: r, h => by
    have h1 := h x (by simp)
    have h2 := flat_len (xs := r) (fun y hy => h y (by simp [hy]))
    rw [List.flatMap_cons, List.length_append, List.length_cons, Nat.mul_add]
    omega
theorem flat_take {α : Type} (enc : α → List UInt8) (xs : List α) (k : Nat) (h : k < xs.length) : (xs.take (k + 1)).flatMap enc = (xs.take k).flatMap enc ++ enc xs[k] := by
  rw [List.take_add_one, List.getElem?_eq_getElem h]
  show (xs.take k ++ [xs[k]]).flatMap enc = _
  rw [List.flatMap_append, List.flatMap_cons, List.flatMap_nil, List.append_nil]
theorem cI_len (i : Ins) : (cI.enc i).length ≤ 11 := Nat.le_refl _
theorem cN_len (i : Int) : (cN.enc i).length ≤ 11 := by show 8 ≤ 11; omega
theorem cC_len (i : Chn) : (cC.enc i).length ≤ 11 := by show 3 ≤ 11; omega
theorem cT_len (i : Slt) : (cT.enc i).length ≤ 11 := by show 2 ≤ 11; omega
set_option maxRecDepth 100000 in
set_option maxHeartbeats 2000000 in
theorem writeI_any (B b : Nat) (l : List UInt8) (xs : List Ins) (v : Value) (w0 w : World) (hB : B = w0.heap.size) (h0 : Below B w0 w) (hS : Sl w0 4 v xs.length (codeC xs)) (h : Pap B b l w) (hl : l.length ≤ 700000) (hx : xs.length ≤ 1000) (hb : b < w.heap.size) :
    Calls Tryd.prog 56 #[.pointer (some ⟨b, 0, none⟩), v, .func (.func 57) #[.pointer (some ⟨b, 0, none⟩)] #[]] w fun e w' => e = .returned (.tuple #[]) ∧ Pap B b (l ++ cI.ls.enc xs) w' ∧ Wr B b w w' := by
  have hen : Enters 57 := enters Tryd.func57 (by kernel_rfl) (by kernel_rfl)
  unfold Enters at hen
  obtain ⟨ao, cap, rfl⟩ := hS.form
  have H := Lib.hid h
  have HL := Lib.hid hl
  have H0 := Lib.hid h0
  have HS := Lib.hid hS
  have HB := Lib.hid hB
  clear h hl h0 hS hB
  go_enter Tryd.func56, Tryd.ntmps56
  go_wp2_with fail
  refine (small_any B b l _ _ H.out (by have := HL.out; omega)).mono ?_
  rintro e w1 ⟨rfl, p1, b1⟩
  have P1 := Lib.hid p1
  have W1 := Lib.hid b1
  clear p1 b1
  go_wp2
  go_loopw [14] (fun i wr => ∃ k : Nat, i = .int .i64 k ∧ k ≤ xs.length ∧ Hid (Pap B b ((l ++ [by8 xs.length]) ++ (xs.take k).flatMap cI.enc) wr) ∧ Hid (Wr B b w wr)) (fun i _ => xs.length - (intOf i).toNat)
  case atStart => exact ⟨0, rfl, Nat.zero_le _, by rw [List.take_zero, List.flatMap_nil, List.append_nil]; exact P1, W1⟩
  case round =>
    obtain ⟨k, rfl, hk, HP, WD⟩ := hrel
    by_cases hlt : k < xs.length
    · have hli : (k : Int) < xs.length := by omega
      have hbz : b < wr.heap.size := Nat.lt_of_lt_of_le hb WD.out.size
      have B0 := Lib.hid (H0.out.trans WD.out.b)
      rw [HB.out] at B0
      obtain ⟨sb, off, cap', e1, hcap, hbw, hc⟩ := HS.out.open (by omega)
      cases e1
      obtain ⟨c0, c1, c2, c3⟩ := code_cells hc k hlt
      have c0 := bcl B0.out hbw c0
      have c1 := bcl B0.out hbw c1
      have c2 := bcl B0.out hbw c2
      have c3 := bcl B0.out hbw c3
      have HT := Lib.hid (flat_take cI.enc xs k hlt)
      have hfl : ((xs.take k).flatMap cI.enc).length ≤ 11 * (xs.take k).length := flat_len (fun x _ => cI_len x)
      have HFL : Hid (((l ++ [by8 xs.length]) ++ (xs.take k).flatMap cI.enc).length ≤ 800000) := Lib.hid (by have := HL.out; rw [List.length_take] at hfl; simp at hfl ⊢; omega)
      clear hc hfl
      go_wp2_with fail
      refine (pinstr_any B b ((l ++ [by8 xs.length]) ++ (xs.take k).flatMap cI.enc) xs[k] _ (HP.out.alloc _) HFL.out (by simp; omega)).mono ?_
      rintro e w2 ⟨rfl, p1, b1⟩
      have P2 := Lib.hid p1
      have W2 := Lib.hid ((WD.out.trans (Wr.up ((Below.refl _ _).alloc (Nat.le_refl _) _) HP.out.2)).trans b1)
      clear p1 b1
      go_wp2
      go_roundw
      case rel => exact ⟨k + 1, by go_num, by omega, by rw [HT.out, ← List.append_assoc]; exact P2, W2⟩
      case measure => simp [intOf]; omega
    · obtain rfl : k = xs.length := by omega
      have hli : ¬ ((xs.length : Int) < xs.length) := by omega
      have P2 : Pap B b ((l ++ [by8 xs.length]) ++ (xs.take xs.length).flatMap cI.enc) wr := HP.out
      rw [List.take_length, List.append_assoc] at P2
      have HP2 := Lib.hid P2
      clear P2
      go_wp2
      go_end0
      exact ⟨rfl, HP2.out, WD.out⟩
set_option maxRecDepth 100000 in
set_option maxHeartbeats 2000000 in
theorem writeN_any (B b : Nat) (l : List UInt8) (xs : List Int) (v : Value) (w0 w : World) (hB : B = w0.heap.size) (h0 : Below B w0 w) (hS : Sl w0 1 v xs.length (ints xs)) (h : Pap B b l w) (hl : l.length ≤ 700000) (hx : xs.length ≤ 1000) (hb : b < w.heap.size) :
    Calls Tryd.prog 58 #[.pointer (some ⟨b, 0, none⟩), v, .func (.func 59) #[.pointer (some ⟨b, 0, none⟩)] #[]] w fun e w' => e = .returned (.tuple #[]) ∧ Pap B b (l ++ cN.ls.enc xs) w' ∧ Wr B b w w' := by
  have hen : Enters 59 := enters Tryd.func59 (by kernel_rfl) (by kernel_rfl)
  unfold Enters at hen
  obtain ⟨ao, cap, rfl⟩ := hS.form
  have H := Lib.hid h
  have HL := Lib.hid hl
  have H0 := Lib.hid h0
  have HS := Lib.hid hS
  have HB := Lib.hid hB
  clear h hl h0 hS hB
  go_enter Tryd.func58, Tryd.ntmps58
  go_wp2_with fail
  refine (small_any B b l _ _ H.out (by have := HL.out; omega)).mono ?_
  rintro e w1 ⟨rfl, p1, b1⟩
  have P1 := Lib.hid p1
  have W1 := Lib.hid b1
  clear p1 b1
  go_wp2
  go_loopw [14] (fun i wr => ∃ k : Nat, i = .int .i64 k ∧ k ≤ xs.length ∧ Hid (Pap B b ((l ++ [by8 xs.length]) ++ (xs.take k).flatMap cN.enc) wr) ∧ Hid (Wr B b w wr)) (fun i _ => xs.length - (intOf i).toNat)
  case atStart => exact ⟨0, rfl, Nat.zero_le _, by rw [List.take_zero, List.flatMap_nil, List.append_nil]; exact P1, W1⟩
  case round =>
    obtain ⟨k, rfl, hk, HP, WD⟩ := hrel
    by_cases hlt : k < xs.length
    · have hli : (k : Int) < xs.length := by omega
      have hbz : b < wr.heap.size := Nat.lt_of_lt_of_le hb WD.out.size
      have B0 := Lib.hid (H0.out.trans WD.out.b)
      rw [HB.out] at B0
      obtain ⟨sb, off, cap', e1, hcap, hbw, hc⟩ := HS.out.open (by omega)
      cases e1
      have c0 := hc k _ (ints_at xs k hlt)
      have c0 := bcl B0.out hbw c0
      have HT := Lib.hid (flat_take cN.enc xs k hlt)
      have hfl : ((xs.take k).flatMap cN.enc).length ≤ 11 * (xs.take k).length := flat_len (fun x _ => cN_len x)
      have HFL : Hid (((l ++ [by8 xs.length]) ++ (xs.take k).flatMap cN.enc).length ≤ 800000) := Lib.hid (by have := HL.out; rw [List.length_take] at hfl; simp at hfl ⊢; omega)
      clear hc hfl
      go_wp2_with fail
      refine (pnumber_any B b ((l ++ [by8 xs.length]) ++ (xs.take k).flatMap cN.enc) xs[k] _ HP.out (by have := HFL.out; omega)).mono ?_
      rintro e w2 ⟨rfl, p1, b1⟩
      have P2 := Lib.hid p1
      have W2 := Lib.hid (WD.out.trans b1)
      clear p1 b1
      go_wp2
      go_roundw
      case rel => exact ⟨k + 1, by go_num, by omega, by rw [HT.out, ← List.append_assoc]; exact P2, W2⟩
      case measure => simp [intOf]; omega
    · obtain rfl : k = xs.length := by omega
      have hli : ¬ ((xs.length : Int) < xs.length) := by omega
      have P2 : Pap B b ((l ++ [by8 xs.length]) ++ (xs.take xs.length).flatMap cN.enc) wr := HP.out
      rw [List.take_length, List.append_assoc] at P2
      have HP2 := Lib.hid P2
      clear P2
      go_wp2
      go_end0
      exact ⟨rfl, HP2.out, WD.out⟩
set_option maxRecDepth 100000 in
set_option maxHeartbeats 2000000 in
theorem writeC_any (B b : Nat) (l : List UInt8) (xs : List Chn) (v : Value) (w0 w : World) (hB : B = w0.heap.size) (h0 : Below B w0 w) (hS : Sl w0 3 v xs.length (rowC chC xs)) (h : Pap B b l w) (hl : l.length ≤ 700000) (hx : xs.length ≤ 1000) (hb : b < w.heap.size) :
    Calls Tryd.prog 33 #[.pointer (some ⟨b, 0, none⟩), v, .func (.func 34) #[.pointer (some ⟨b, 0, none⟩)] #[]] w fun e w' => e = .returned (.tuple #[]) ∧ Pap B b (l ++ cC.ls.enc xs) w' ∧ Wr B b w w' := by
  have hen : Enters 34 := enters Tryd.func34 (by kernel_rfl) (by kernel_rfl)
  unfold Enters at hen
  obtain ⟨ao, cap, rfl⟩ := hS.form
  have H := Lib.hid h
  have HL := Lib.hid hl
  have H0 := Lib.hid h0
  have HS := Lib.hid hS
  have HB := Lib.hid hB
  clear h hl h0 hS hB
  go_enter Tryd.func33, Tryd.ntmps33
  go_wp2_with fail
  refine (small_any B b l _ _ H.out (by have := HL.out; omega)).mono ?_
  rintro e w1 ⟨rfl, p1, b1⟩
  have P1 := Lib.hid p1
  have W1 := Lib.hid b1
  clear p1 b1
  go_wp2
  go_loopw [14] (fun i wr => ∃ k : Nat, i = .int .i64 k ∧ k ≤ xs.length ∧ Hid (Pap B b ((l ++ [by8 xs.length]) ++ (xs.take k).flatMap cC.enc) wr) ∧ Hid (Wr B b w wr)) (fun i _ => xs.length - (intOf i).toNat)
  case atStart => exact ⟨0, rfl, Nat.zero_le _, by rw [List.take_zero, List.flatMap_nil, List.append_nil]; exact P1, W1⟩
  case round =>
    obtain ⟨k, rfl, hk, HP, WD⟩ := hrel
    by_cases hlt : k < xs.length
    · have hli : (k : Int) < xs.length := by omega
      have hbz : b < wr.heap.size := Nat.lt_of_lt_of_le hb WD.out.size
      have B0 := Lib.hid (H0.out.trans WD.out.b)
      rw [HB.out] at B0
      obtain ⟨sb, off, cap', e1, hcap, hbw, hc⟩ := HS.out.open (by omega)
      cases e1
      obtain ⟨c0, c1, c2⟩ := chan_cells hc k hlt
      have c0 := bcl B0.out hbw c0
      have c1 := bcl B0.out hbw c1
      have c2 := bcl B0.out hbw c2
      have HT := Lib.hid (flat_take cC.enc xs k hlt)
      have hfl : ((xs.take k).flatMap cC.enc).length ≤ 11 * (xs.take k).length := flat_len (fun x _ => cC_len x)
      have HFL : Hid (((l ++ [by8 xs.length]) ++ (xs.take k).flatMap cC.enc).length ≤ 800000) := Lib.hid (by have := HL.out; rw [List.length_take] at hfl; simp at hfl ⊢; omega)
      clear hc hfl
      go_wp2_with fail
      refine (pchannel_any B b ((l ++ [by8 xs.length]) ++ (xs.take k).flatMap cC.enc) xs[k] _ (HP.out.alloc _) HFL.out (by simp; omega)).mono ?_
      rintro e w2 ⟨rfl, p1, b1⟩
      have P2 := Lib.hid p1
      have W2 := Lib.hid ((WD.out.trans (Wr.up ((Below.refl _ _).alloc (Nat.le_refl _) _) HP.out.2)).trans b1)
      clear p1 b1
      go_wp2
      go_roundw
      case rel => exact ⟨k + 1, by go_num, by omega, by rw [HT.out, ← List.append_assoc]; exact P2, W2⟩
      case measure => simp [intOf]; omega
    · obtain rfl : k = xs.length := by omega
      have hli : ¬ ((xs.length : Int) < xs.length) := by omega
      have P2 : Pap B b ((l ++ [by8 xs.length]) ++ (xs.take xs.length).flatMap cC.enc) wr := HP.out
      rw [List.take_length, List.append_assoc] at P2
      have HP2 := Lib.hid P2
      clear P2
      go_wp2
      go_end0
      exact ⟨rfl, HP2.out, WD.out⟩
set_option maxRecDepth 100000 in
set_option maxHeartbeats 2000000 in
theorem writeT_any (B b : Nat) (l : List UInt8) (xs : List Slt) (v : Value) (w0 w : World) (hB : B = w0.heap.size) (h0 : Below B w0 w) (hS : Sl w0 2 v xs.length (rowC slC xs)) (h : Pap B b l w) (hl : l.length ≤ 700000) (hx : xs.length ≤ 1000) (hb : b < w.heap.size) :
    Calls Tryd.prog 35 #[.pointer (some ⟨b, 0, none⟩), v, .func (.func 36) #[.pointer (some ⟨b, 0, none⟩)] #[]] w fun e w' => e = .returned (.tuple #[]) ∧ Pap B b (l ++ cT.ls.enc xs) w' ∧ Wr B b w w' := by
  have hen : Enters 36 := enters Tryd.func36 (by kernel_rfl) (by kernel_rfl)
  unfold Enters at hen
  obtain ⟨ao, cap, rfl⟩ := hS.form
  have H := Lib.hid h
  have HL := Lib.hid hl
  have H0 := Lib.hid h0
  have HS := Lib.hid hS
  have HB := Lib.hid hB
  clear h hl h0 hS hB
  go_enter Tryd.func35, Tryd.ntmps35
  go_wp2_with fail
  refine (small_any B b l _ _ H.out (by have := HL.out; omega)).mono ?_
  rintro e w1 ⟨rfl, p1, b1⟩
  have P1 := Lib.hid p1
  have W1 := Lib.hid b1
  clear p1 b1
  go_wp2
  go_loopw [14] (fun i wr => ∃ k : Nat, i = .int .i64 k ∧ k ≤ xs.length ∧ Hid (Pap B b ((l ++ [by8 xs.length]) ++ (xs.take k).flatMap cT.enc) wr) ∧ Hid (Wr B b w wr)) (fun i _ => xs.length - (intOf i).toNat)
  case atStart => exact ⟨0, rfl, Nat.zero_le _, by rw [List.take_zero, List.flatMap_nil, List.append_nil]; exact P1, W1⟩
  case round =>
    obtain ⟨k, rfl, hk, HP, WD⟩ := hrel
    by_cases hlt : k < xs.length
    · have hli : (k : Int) < xs.length := by omega
      have hbz : b < wr.heap.size := Nat.lt_of_lt_of_le hb WD.out.size
      have B0 := Lib.hid (H0.out.trans WD.out.b)
      rw [HB.out] at B0
      obtain ⟨sb, off, cap', e1, hcap, hbw, hc⟩ := HS.out.open (by omega)
      cases e1
      obtain ⟨c0, c1⟩ := slot_cells hc k hlt
      have c0 := bcl B0.out hbw c0
      have c1 := bcl B0.out hbw c1
      have HT := Lib.hid (flat_take cT.enc xs k hlt)
      have hfl : ((xs.take k).flatMap cT.enc).length ≤ 11 * (xs.take k).length := flat_len (fun x _ => cT_len x)
      have HFL : Hid (((l ++ [by8 xs.length]) ++ (xs.take k).flatMap cT.enc).length ≤ 800000) := Lib.hid (by have := HL.out; rw [List.length_take] at hfl; simp at hfl ⊢; omega)
      clear hc hfl
      go_wp2_with fail
      refine (pslot_any B b ((l ++ [by8 xs.length]) ++ (xs.take k).flatMap cT.enc) xs[k] _ (HP.out.alloc _) HFL.out (by simp; omega)).mono ?_
      rintro e w2 ⟨rfl, p1, b1⟩
      have P2 := Lib.hid p1
      have W2 := Lib.hid ((WD.out.trans (Wr.up ((Below.refl _ _).alloc (Nat.le_refl _) _) HP.out.2)).trans b1)
      clear p1 b1
      go_wp2
      go_roundw
      case rel => exact ⟨k + 1, by go_num, by omega, by rw [HT.out, ← List.append_assoc]; exact P2, W2⟩
      case measure => simp [intOf]; omega
    · obtain rfl : k = xs.length := by omega
      have hli : ¬ ((xs.length : Int) < xs.length) := by omega
      have P2 : Pap B b ((l ++ [by8 xs.length]) ++ (xs.take xs.length).flatMap cT.enc) wr := HP.out
      rw [List.take_length, List.append_assoc] at P2
      have HP2 := Lib.hid P2
      clear P2
      go_wp2
      go_end0
      exact ⟨rfl, HP2.out, WD.out⟩
end Go.Proofs.YtbhfnkbflikliaaDoor

namespace Go.Proofs.YtbhfnkbflikliaaDoor
set_option linter.unusedSimpArgs false
set_option linter.unusedVariables false
open Go.RowKit Go.Sort
set_option maxRecDepth 100000 in
set_option maxHeartbeats 2000000 in
theorem eightRef_any (n : Int) (w : World) : Calls Tryd.prog 18 #[.int .i64 n] w fun e w' => e = .returned (.slice (some ⟨w.heap.size, 0, none⟩) 8 8) ∧ w' = w.alloc (.cells (Lib.byteCells (eight n)).toArray 5) := by
  have h0 := wrap8 n
  have h1 := wrap8 (n / 256)
  have h2 := wrap8 (n / 65536)
  have h3 := wrap8 (n / 16777216)
  have h4 := wrap8 (n / 4294967296)
  have h5 := wrap8 (n / 1099511627776)
  have h6 := wrap8 (n / 281474976710656)
  have h7 := wrap8 (n / 72057594037927936)
  go_enter Tryd.func18, Tryd.ntmps18
  go_wp2
  go_ret
  exact ⟨rfl, rfl⟩
end Go.Proofs.YtbhfnkbflikliaaDoor

namespace Go.Proofs.YtbhfnkbflikliaaDoor
set_option linter.unusedSimpArgs false
set_option linter.unusedVariables false
open Go.RowKit Go.Sort
set_option maxHeartbeats 2000000 in
set_option maxRecDepth 100000 in
theorem bldString_any (T : TypeId) (B b : Nat) (l : List UInt8) (w : World) (h : Lib.IsBuilder T 5 B b (Lib.byteCells l) w) (h0 : l ≠ []) :
    Calls Tryd.prog 14 #[.pointer (some ⟨b, 0, none⟩)] w fun e w' => e = .returned (.string ⟨l.toArray⟩) ∧ Below B w w' := by
  obtain ⟨p, hB, v, hbk, hown, hne⟩ : ∃ p, Lib.BuilderAt T 5 B b p (Lib.byteCells l) w := by
    rcases h with h | h
    · exact ⟨_, h⟩
    · exact ⟨_, h⟩
  have hl0 : l.length ≠ 0 := by simpa using h0
  rw [Lib.byteCells_length] at hown
  obtain ⟨g, cap, cur, rfl, hbg, hg, hnc, hcm, hcs, htake⟩ : ∃ g cap cur, v = .slice (some ⟨g, 0, none⟩) l.length cap ∧ B ≤ g ∧ w.heap[g]? = some (.cells cur 5 (0, 0)) ∧ l.length ≤ cap ∧ cap ≤ maxLen ∧ cur.size = cap * 1 ∧ cur.toList.take (l.length * 1) = Lib.byteCells l := by
    rcases hown.2 with ⟨_, hz⟩ | ⟨g, cap, cur, hv, r⟩
    · exact absurd hz hl0
    · exact ⟨g, cap, cur, hv, r⟩
  have c1 : w.drew.cell? ⟨b, 1, none⟩ = some (.slice (some ⟨g, 0, none⟩) l.length cap) := by
    have : w.drew.heap[b]? = some (.cells #[p, .slice (some ⟨g, 0, none⟩) l.length cap] T (0, 0)) := hbk
    rw [Lib.cell_of_heap this]; rfl
  have hSD : (Builtin.unsafeSliceData_ #[40] 78 #[.slice (some ⟨g, 0, none⟩) l.length cap]).run Tryd.prog w.drew = .ok (.pointer (some ⟨g, 0, none⟩)) w.drew :=
    Lib.run_unsafeSliceData_row _ _ _ _ _ _ (by omega)
  have hUS : (Builtin.unsafeString_ #[78, 3] 9 #[.pointer (some ⟨g, 0, none⟩), .int .i64 l.length]).run Tryd.prog w.drew = .ok (.string ⟨l.toArray⟩) (w.drew.freeze ⟨g, 0, none⟩ l.length) := by
    refine Lib.run_unsafeString_row w.drew 78 3 9 5 Tryd.underlying78 cellsByte g cur.size (by have hg' : w.drew.heap[g]? = some (.cells cur 5 (0, 0)) := hg; simp [World.shape?, hg']) l h0 (by omega) (by unfold maxLen at hcm; omega) ?_
    intro j x hx
    have := hown.cells (g := g) rfl j (.int .u8 x.toNat) (by simp [Lib.byteCells, hx])
    exact this
  have mixed : Tryd.prog.follows Departure.mixedOrders = true := by kernel_rfl
  clear hl0 hnc hcm hcs htake hown hbk hg h hne
  go_enter Tryd.func14, Tryd.ntmps14
  go_wp2
  go_region_o
  all_goals (go_wp2; go_ret; exact ⟨rfl, Lib.below_freeze (Below.drew (Below.refl B w)) (p := ⟨g, 0, none⟩) hbg _⟩)
end Go.Proofs.YtbhfnkbflikliaaDoor

namespace Go.Proofs.YtbhfnkbflikliaaDoor
set_option linter.unusedSimpArgs false
set_option linter.unusedVariables false
open Go.RowKit Go.Sort
def insBad (l : List Chn) (me : Int) (i : Ins) : Bool := (i.op == 12 && putBad l me i.n) || (i.op == 13 && getBad l me i.n)
theorem chanL_mem {l : List Ins} {op : Int} {m : Nat} {c : Int} : c ∈ chanL l op m ↔ ∃ n : Nat, c = n ∧ n < m ∧ ∃ i ∈ l, i.op = op ∧ i.n = c := by
  unfold chanL hasC
  constructor
  · intro h
    obtain ⟨n, hn, e⟩ := List.mem_map.1 h
    obtain ⟨h1, h2⟩ := List.mem_filter.1 hn
    obtain ⟨i, hi, hq⟩ := List.any_eq_true.1 h2
    simp at hq h1
    exact ⟨n, e.symm, h1, i, hi, hq.1, by rw [hq.2]; exact e⟩
  · rintro ⟨n, e, hn, i, hi, h1, h2⟩
    refine List.mem_map.2 ⟨n, List.mem_filter.2 ⟨by simpa using hn, List.any_eq_true.2 ⟨i, hi, ?_⟩⟩, e.symm⟩
    simp [h1, h2, e]
theorem nameBad_ins (l : List Chn) (me : Int) (p : Prt) (h : chkC p.code = 0) : nameBad l me p = p.code.any (insBad l me) := by
  have hz : ∀ i ∈ p.code, i.chk = 0 := fun i hi => by
    obtain ⟨j, hj, rfl⟩ := List.getElem_of_mem hi
    exact (chkC_zero h).2.2 j hj
  rw [Bool.eq_iff_iff]
  unfold nameBad
  rw [Bool.or_eq_true, List.any_eq_true, List.any_eq_true, List.any_eq_true]
  constructor
  · rintro (⟨c, hc, hb⟩ | ⟨c, hc, hb⟩)
    · obtain ⟨n, rfl, hn, i, hi, h1, h2⟩ := chanL_mem.1 hc
      exact ⟨i, hi, by unfold insBad; rw [h1, h2, hb]; rfl⟩
    · obtain ⟨n, rfl, hn, i, hi, h1, h2⟩ := chanL_mem.1 hc
      exact ⟨i, hi, by unfold insBad; rw [h1, h2, hb]; rfl⟩
  · rintro ⟨i, hi, hb⟩
    unfold insBad at hb
    rw [Bool.or_eq_true, Bool.and_eq_true, Bool.and_eq_true] at hb
    rcases hb with ⟨h1, h2⟩ | ⟨h1, h2⟩
    · have h1 : i.op = 12 := by simpa using h1
      have := chk_chan (hz i hi) (Or.inl h1)
      exact Or.inl ⟨i.n, chanL_mem.2 ⟨i.n.toNat, by omega, by omega, i, hi, h1, rfl⟩, h2⟩
    · have h1 : i.op = 13 := by simpa using h1
      have := chk_chan (hz i hi) (Or.inr h1)
      exact Or.inr ⟨i.n, chanL_mem.2 ⟨i.n.toNat, by omega, by omega, i, hi, h1, rfl⟩, h2⟩
theorem chkS_counts {S : SysD} (h : countsB S = false) : chkS S = 2 := by unfold chkS; rw [if_pos h]
theorem chkS_code {S : SysD} (h : countsB S = true) {k : Nat} (hk : k < S.parts.length) (hz : ∀ j (hj : j < S.parts.length), j < k → chkC S.parts[j].code = 0) {z : Int} (hc : chkC S.parts[k].code = z) (h0 : z ≠ 0) : chkS S = z := by
  have := firstP_at S.parts k hk hz (by rw [hc]; exact h0)
  unfold chkS
  rw [if_neg (by simp [h]), this, hc, if_pos h0]
theorem chkS_kind {S : SysD} (h : countsB S = true) (hz : ∀ j (hj : j < S.parts.length), chkC S.parts[j].code = 0) (hk : S.chans.any kindBad = true) : chkS S = 4 := by
  unfold chkS
  rw [if_neg (by simp [h]), firstP_all S.parts hz, if_neg (by simp), if_pos hk]
theorem chkS_places {S : SysD} (h : countsB S = true) (hz : ∀ j (hj : j < S.parts.length), chkC S.parts[j].code = 0) (hk : S.chans.any kindBad = false) (hp : placesB S = false) : chkS S = 3 := by
  unfold chkS
  rw [if_neg (by simp [h]), firstP_all S.parts hz, if_neg (by simp), if_neg (by simp [hk]), if_pos hp]
theorem chkS_names {S : SysD} (h : countsB S = true) (hz : ∀ j (hj : j < S.parts.length), chkC S.parts[j].code = 0) (hk : S.chans.any kindBad = false) (hp : placesB S = true) (hn : namesB S = false) : chkS S = 1 := by
  unfold chkS
  rw [if_neg (by simp [h]), firstP_all S.parts hz, if_neg (by simp), if_neg (by simp [hk]), if_neg (by simp [hp]), if_pos hn]
theorem chkS_ok {S : SysD} (h : countsB S = true) (hz : ∀ j (hj : j < S.parts.length), chkC S.parts[j].code = 0) (hk : S.chans.any kindBad = false) (hp : placesB S = true) (hn : namesB S = true) : chkS S = 0 := by
  unfold chkS
  rw [if_neg (by simp [h]), firstP_all S.parts hz, if_neg (by simp), if_neg (by simp [hk]), if_neg (by simp [hp]), if_neg (by simp [hn])]
theorem countsB_mk {S : SysD} (h : 1 ≤ S.parts.length ∧ S.parts.length ≤ 4 ∧ S.chans.length ≤ 6 ∧ 1 ≤ S.slots.length ∧ S.slots.length ≤ 6) (hi : ∀ j (hj : j < S.parts.length), S.parts[j].inn.length ≤ 12) : countsB S = true := by
  unfold countsB
  rw [Bool.and_eq_true]
  refine ⟨by simpa using h, ?_⟩
  rw [Bool.not_eq_true', List.any_eq_false]
  intro p hp
  obtain ⟨j, hj, rfl⟩ := List.getElem_of_mem hp
  have := hi j hj
  simp; omega
theorem countsB_no1 {S : SysD} (h : ¬ (1 ≤ S.parts.length ∧ S.parts.length ≤ 4 ∧ S.chans.length ≤ 6 ∧ 1 ≤ S.slots.length ∧ S.slots.length ≤ 6)) : countsB S = false := by
  unfold countsB
  rw [Bool.and_eq_false_iff]
  exact Or.inl (by simpa using h)
theorem countsB_no2 {S : SysD} {j : Nat} (hj : j < S.parts.length) (h : 12 < S.parts[j].inn.length) : countsB S = false := by
  unfold countsB
  rw [Bool.and_eq_false_iff]
  refine Or.inr ?_
  rw [Bool.not_eq_false']
  exact any_mem hj (by simpa using h)
theorem placesB_no1 {S : SysD} (h : S.chans.any (placeBad S.parts.length) = true) : placesB S = false := by unfold placesB; rw [h]; rfl
theorem placesB_no2 {S : SysD} (h : S.slots.any (slotBad S.parts.length) = true) : placesB S = false := by unfold placesB; rw [h]; simp
theorem placesB_yes {S : SysD} (h1 : S.chans.any (placeBad S.parts.length) = false) (h2 : S.slots.any (slotBad S.parts.length) = false) : placesB S = true := by unfold placesB; rw [h1, h2]; rfl
theorem namesB_no {S : SysD} {k : Nat} (hk : k < S.parts.length) (hz : chkC S.parts[k].code = 0) (h : S.parts[k].code.any (insBad S.chans (k : Int)) = true) : namesB S = false :=
  namesFrom_at S.chans S.parts 0 k hk (by rw [Nat.zero_add, nameBad_ins _ _ _ hz]; exact h)
theorem namesB_yes {S : SysD} (hz : ∀ j (hj : j < S.parts.length), chkC S.parts[j].code = 0) (h : ∀ k (hk : k < S.parts.length), S.parts[k].code.any (insBad S.chans (k : Int)) = false) : namesB S = true :=
  namesFrom_all S.chans S.parts 0 (fun j hj => by rw [Nat.zero_add, nameBad_ins _ _ _ (hz j hj)]; exact h j hj)
theorem putBad_lt {l : List Chn} {me : Int} {m : Nat} (h : m < l.length) : putBad l me (m : Int) = (l[m].fr != me) := by
  unfold putBad
  rw [show ((m : Int)).toNat = m from rfl, List.getElem?_eq_getElem h]
theorem putBad_ge {l : List Chn} {me : Int} {m : Nat} (h : ¬ m < l.length) : putBad l me (m : Int) = true := by
  unfold putBad
  rw [show ((m : Int)).toNat = m from rfl, List.getElem?_eq_none (by omega)]
theorem getBad_lt {l : List Chn} {me : Int} {m : Nat} (h : m < l.length) : getBad l me (m : Int) = (l[m].tt != me) := by
  unfold getBad
  rw [show ((m : Int)).toNat = m from rfl, List.getElem?_eq_getElem h]
theorem getBad_ge {l : List Chn} {me : Int} {m : Nat} (h : ¬ m < l.length) : getBad l me (m : Int) = true := by
  unfold getBad
  rw [show ((m : Int)).toNat = m from rfl, List.getElem?_eq_none (by omega)]
set_option maxHeartbeats 1000000 in
theorem kindRef_any (kd : Int) (w : World) : Calls Tryd.prog 17 #[.int .i64 kd] w fun e w' => e = .returned (.bool (kd == 1 || kd == 2)) ∧ w' = w := by
  generalize h1 : (kd == 1) = q1
  generalize h2 : (kd == 2) = q2
  cases q1 <;> cases q2
  all_goals
    go_enter Tryd.func17, Tryd.ntmps17
    go_wp2
    go_ret
    exact ⟨rfl, rfl⟩
end Go.Proofs.YtbhfnkbflikliaaDoor

namespace Go.Proofs.YtbhfnkbflikliaaDoor
set_option linter.unusedSimpArgs false
set_option linter.unusedVariables false
open Go.RowKit Go.Sort Go.Shelf
attribute [local go_sem] Oper.semAt_some
end Go.Proofs.YtbhfnkbflikliaaDoor

namespace Go.Proofs.YtbhfnkbflikliaaDoor
set_option linter.unusedSimpArgs false
set_option linter.unusedVariables false
open Go.RowKit Go.Sort Go.Shelf
attribute [local go_sem] Oper.semAt_some
end Go.Proofs.YtbhfnkbflikliaaDoor

namespace Go.Proofs.YtbhfnkbflikliaaDoor
set_option linter.unusedSimpArgs false
set_option linter.unusedVariables false
open Go.RowKit Go.Sort
set_option maxRecDepth 100000 in
set_option maxHeartbeats 8000000 in
theorem sysRef_any (S : SysD) (hok : S.ok) (vp vc vs : Value) (w : World) (hS : Sys w vp vc vs S) : Calls Tryd.prog 6 #[.agg #[vp, vc, vs]] w fun e w' => e = .returned (.int .i64 (chkS S)) ∧ Below w.heap.size w w' := by
  generalize hr : chkS S = r
  have HR := Lib.hid hr
  obtain ⟨pa, pc, rfl⟩ := hS.p.form
  obtain ⟨ca, cc, rfl⟩ := hS.c.form
  obtain ⟨sa, sc, rfl⟩ := hS.s.form
  have HS := Lib.hid hS
  have HOK : Hid (∀ k (hk : k < S.parts.length) j (hj : j < S.parts[k].code.length), S.parts[k].code[j].ok) := fun k hk => hok _ (List.getElem_mem hk)
  clear hS hr hok
  by_cases hA : 1 ≤ S.parts.length ∧ S.parts.length ≤ 4 ∧ S.chans.length ≤ 6 ∧ 1 ≤ S.slots.length ∧ S.slots.length ≤ 6
  · have H1 : Hid (withinB (S.parts.length : Int) 1 4 = true) := by show withinB _ _ _ = _; unfold withinB; simp; omega
    have H2 : ¬ (6 : Int) < (S.chans.length : Int) := by omega
    have H3 : Hid (withinB (S.slots.length : Int) 1 6 = true) := by show withinB _ _ _ = _; unfold withinB; simp; omega
    have HA := Lib.hid hA
    have hn1 : S.parts.length ≤ 4 := hA.2.1
    have hn2 : S.chans.length ≤ 6 := hA.2.2.1
    have hn3 : S.slots.length ≤ 6 := hA.2.2.2.2
    obtain ⟨pb, po, pc', e1, hpc, hpb, hpp⟩ := HS.out.p.open (by omega)
    cases e1
    have HP := Lib.hid hpp
    clear hA hpp
    go_enter Tryd.func6, Tryd.ntmps6
    go_wp2_with fail
    refine (within_any _ _ _ _).mono ?_
    rw [H1.out]
    rintro e w1 ⟨rfl, rfl⟩
    go_wp2_with fail
    refine (within_any _ _ _ _).mono ?_
    rw [H3.out]
    rintro e w1 ⟨rfl, rfl⟩
    go_wp2
    go_loopw [4] (fun i wr => ∃ k : Nat, i = .int .i64 k ∧ k ≤ S.parts.length ∧ Hid (∀ j (h : j < S.parts.length), j < k → S.parts[j].inn.length ≤ 12) ∧ Hid (Box wr w.heap.size (.slice (some ⟨pb, po, none⟩) S.parts.length pc) (.slice ca S.chans.length cc) (.slice sa S.slots.length sc)) ∧ Hid (Below w.heap.size w wr)) (fun i _ => S.parts.length - (intOf i).toNat)
    case atStart => exact ⟨0, rfl, Nat.zero_le _, fun j hj h => by omega, box_new w _ _ _ _ _ rfl, (by repeat (first | exact Below.refl _ _ | assumption | refine Below.drew ?_ | refine Below.alloc ?_ (by first | (simp; done) | (simp; omega)) _ | refine Below.setCell ?_ (by first | (simp; done) | (simp; omega)) _))⟩
    case round =>
      obtain ⟨k, rfl, hk, HN, HB, HT⟩ := hrel
      by_cases hlt : k < S.parts.length
      · have hli : (k : Int) < S.parts.length := by omega
        obtain ⟨c, i, c0, c1, hpr⟩ := HP.out k hlt
        obtain ⟨a2, b2, rfl⟩ := hpr.inn.form
        have c1 := bcl HT.out hpb c1
        have k0 := HB.out.p
        clear hpr c0
        by_cases h12 : 12 < S.parts[k].inn.length
        · have h12' : (12 : Int) < S.parts[k].inn.length := by omega
          have HRR := Lib.hid (chkS_counts (countsB_no2 hlt h12))
          go_wp2
          go_ret
          exact ⟨ret_int (by rw [← HR.out, HRR.out]), HT.out⟩
        · have h12' : ¬ (12 : Int) < S.parts[k].inn.length := by omega
          go_wp2
          go_roundw
          case rel => exact ⟨k + 1, by go_num, by omega, (fun j hj hjk => by
            by_cases e : j = k
            · subst e; omega
            · exact HN.out j hj (by omega)), HB, HT⟩
          case measure => simp [intOf]; omega
      · have hli : ¬ (k : Int) < S.parts.length := by omega
        have HC := Lib.hid (countsB_mk HA.out (fun j hj => HN.out j hj (by omega)))
        clear HN hk hlt
        go_wp2
        go_loopw [5] (fun i wr => ∃ k : Nat, i = .int .i64 k ∧ k ≤ S.parts.length ∧ Hid (∀ j (h : j < S.parts.length), j < k → chkC S.parts[j].code = 0) ∧ Hid (Box wr w.heap.size (.slice (some ⟨pb, po, none⟩) S.parts.length pc) (.slice ca S.chans.length cc) (.slice sa S.slots.length sc)) ∧ Hid (Below w.heap.size w wr)) (fun i _ => S.parts.length - (intOf i).toNat)
        case atStart => exact ⟨0, rfl, Nat.zero_le _, fun j hj h => by omega, HB, HT⟩
        case round =>
          clear HB HT hli
          obtain ⟨k, rfl, hk, HN, HB, HT⟩ := hrel
          by_cases hlt : k < S.parts.length
          · have hli : (k : Int) < S.parts.length := by omega
            obtain ⟨c, i, c0, c1, hpr⟩ := HP.out k hlt
            obtain ⟨a2, b2, rfl⟩ := hpr.code.form
            have c0 := bcl HT.out hpb c0
            have k0 := HB.out.p
            have HPR := Lib.hid hpr
            clear hpr c1
            generalize hcz : chkC S.parts[k].code = z
            have HCZ := Lib.hid hcz
            clear hcz
            go_wp2_with fail
            refine (codeRef_any S.parts[k].code (HOK.out k hlt) _ _ (HPR.out.code.up HT.out)).mono ?_
            rw [HCZ.out]
            rintro e w2 ⟨rfl, bb⟩
            have HT2 := Lib.hid (HT.out.trans (bb.mono HT.out.size))
            have HB2 := Lib.hid (HB.out.up bb)
            clear bb c0 k0 HB HT
            by_cases hz : z = 0
            · subst hz
              go_wp2
              go_roundw
              case rel => exact ⟨k + 1, by go_num, by omega, (fun j hj hjk => by
                by_cases e : j = k
                · subst e; exact HCZ.out
                · exact HN.out j hj (by omega)), HB2, HT2⟩
              case measure => simp [intOf]; omega
            · have hz' : (z != 0) = true := by simpa using hz
              have HRR := Lib.hid (chkS_code HC.out hlt HN.out HCZ.out hz)
              clear hz
              go_wp2
              go_ret
              exact ⟨ret_int (by rw [← HR.out, HRR.out]), HT2.out⟩
          · have hli : ¬ (k : Int) < S.parts.length := by omega
            have HZ : Hid (∀ j (hj : j < S.parts.length), chkC S.parts[j].code = 0) := fun j hj => HN.out j hj (by omega)
            have k1 := HB.out.c
            clear HN hk hlt
            go_wp2
            go_loopw [7] (fun i wr => ∃ k : Nat, i = .int .i64 k ∧ k ≤ S.chans.length ∧ Hid ((S.chans.take k).any kindBad = false) ∧ Hid (Box wr w.heap.size (.slice (some ⟨pb, po, none⟩) S.parts.length pc) (.slice ca S.chans.length cc) (.slice sa S.slots.length sc)) ∧ Hid (Below w.heap.size w wr)) (fun i _ => S.chans.length - (intOf i).toNat)
            case atStart => exact ⟨0, rfl, Nat.zero_le _, (show (S.chans.take 0).any kindBad = false by simp), HB, HT⟩
            case round =>
              clear HB HT hli k1
              obtain ⟨k, rfl, hk, HN, HB, HT⟩ := hrel
              have k1 := HB.out.c
              by_cases hlt : k < S.chans.length
              · have hli : (k : Int) < S.chans.length := by omega
                obtain ⟨b, off, cap', e1, hcap, hbw, hc⟩ := HS.out.c.open (by omega)
                cases e1
                obtain ⟨c0, c1, c2⟩ := chan_cells hc k hlt
                have c0 := bcl HT.out hbw c0
                clear hc c1 c2
                generalize hq : (S.chans[k].kd == 1 || S.chans[k].kd == 2) = q
                have HK : Hid (kindBad S.chans[k] = !q) := by show kindBad _ = _; unfold kindBad; rw [← hq]; simp [bne]
                have HQ := Lib.hid hq
                clear hq
                go_wp2_with fail
                refine (kindRef_any _ _).mono ?_
                rw [HQ.out]
                rintro e w2 ⟨rfl, rfl⟩
                cases q
                · have HRR := Lib.hid (chkS_kind HC.out HZ.out (any_mem hlt HK.out))
                  go_wp2
                  go_ret
                  exact ⟨ret_int (by rw [← HR.out, HRR.out]), HT.out⟩
                · have HN2 := Lib.hid (any_take hlt HN.out HK.out)
                  go_wp2
                  go_roundw
                  case rel => exact ⟨k + 1, by go_num, by omega, HN2, HB, HT⟩
                  case measure => simp [intOf]; omega
              · have hli : ¬ (k : Int) < S.chans.length := by omega
                have HKB := Lib.hid (any_all hlt HN.out)
                clear HN hk hlt
                go_wp2
                go_loopw [8] (fun i wr => ∃ k : Nat, i = .int .i64 k ∧ k ≤ S.chans.length ∧ Hid ((S.chans.take k).any (placeBad S.parts.length) = false) ∧ Hid (Box wr w.heap.size (.slice (some ⟨pb, po, none⟩) S.parts.length pc) (.slice ca S.chans.length cc) (.slice sa S.slots.length sc)) ∧ Hid (Below w.heap.size w wr)) (fun i _ => S.chans.length - (intOf i).toNat)
                case atStart => exact ⟨0, rfl, Nat.zero_le _, (show (S.chans.take 0).any (placeBad S.parts.length) = false by simp), HB, HT⟩
                case round =>
                  clear HB HT hli k1
                  obtain ⟨k, rfl, hk, HN, HB, HT⟩ := hrel
                  have k1 := HB.out.c
                  by_cases hlt : k < S.chans.length
                  · have hli : (k : Int) < S.chans.length := by omega
                    obtain ⟨b, off, cap', e1, hcap, hbw, hc⟩ := HS.out.c.open (by omega)
                    cases e1
                    obtain ⟨c0, c1, c2⟩ := chan_cells hc k hlt
                    have c0 := bcl HT.out hbw c0
                    have c1 := bcl HT.out hbw c1
                    have c2 := bcl HT.out hbw c2
                    clear hc
                    generalize h1 : withinB S.chans[k].fr 0 ((S.parts.length : Int) - 1) = q1
                    generalize h2 : withinB S.chans[k].tt 0 ((S.parts.length : Int) - 1) = q2
                    generalize h3 : (S.chans[k].fr == S.chans[k].tt) = q3
                    have HK : Hid (placeBad S.parts.length S.chans[k] = (!q1 || !q2 || q3)) := by show placeBad _ _ = _; unfold placeBad; rw [h1, h2, h3]
                    have H1 := Lib.hid h1
                    have H2 := Lib.hid h2
                    clear h1 h2
                    have HT2 : Hid (Below w.heap.size w (wr.alloc (.cells #[.int .i64 S.chans[k].kd, .int .i64 S.chans[k].fr, .int .i64 S.chans[k].tt] 55))) := HT.out.alloc HT.out.size _
                    have HB2 := Lib.hid (HB.out.up (w' := wr.alloc (.cells #[.int .i64 S.chans[k].kd, .int .i64 S.chans[k].fr, .int .i64 S.chans[k].tt] 55)) ((Below.refl _ _).alloc (Nat.le_refl _) _))
                    go_wp2_with fail
                    refine (within_any _ _ _ _).mono ?_
                    rw [H1.out]
                    rintro e w2 ⟨rfl, rfl⟩
                    cases q1
                    · have HRR := Lib.hid (chkS_places HC.out HZ.out HKB.out (placesB_no1 (any_mem hlt HK.out)))
                      go_wp2
                      go_ret
                      exact ⟨ret_int (by rw [← HR.out, HRR.out]), HT2.out⟩
                    · go_wp2_with fail
                      refine (within_any _ _ _ _).mono ?_
                      rw [H2.out]
                      rintro e w2 ⟨rfl, rfl⟩
                      cases q2
                      · have HRR := Lib.hid (chkS_places HC.out HZ.out HKB.out (placesB_no1 (any_mem hlt HK.out)))
                        go_wp2
                        go_ret
                        exact ⟨ret_int (by rw [← HR.out, HRR.out]), HT2.out⟩
                      · cases q3
                        · have HN2 := Lib.hid (any_take hlt HN.out HK.out)
                          go_wp2
                          go_roundw
                          case rel => exact ⟨k + 1, by go_num, by omega, HN2, HB2, HT2⟩
                          case measure => simp [intOf]; omega
                        · have HRR := Lib.hid (chkS_places HC.out HZ.out HKB.out (placesB_no1 (any_mem hlt HK.out)))
                          go_wp2
                          go_ret
                          exact ⟨ret_int (by rw [← HR.out, HRR.out]), HT2.out⟩
                  · have hli : ¬ (k : Int) < S.chans.length := by omega
                    have HPB := Lib.hid (any_all hlt HN.out)
                    have k2 := HB.out.s
                    clear HN hk hlt
                    go_wp2
                    go_loopw [10] (fun i wr => ∃ k : Nat, i = .int .i64 k ∧ k ≤ S.slots.length ∧ Hid ((S.slots.take k).any (slotBad S.parts.length) = false) ∧ Hid (Box wr w.heap.size (.slice (some ⟨pb, po, none⟩) S.parts.length pc) (.slice ca S.chans.length cc) (.slice sa S.slots.length sc)) ∧ Hid (Below w.heap.size w wr)) (fun i _ => S.slots.length - (intOf i).toNat)
                    case atStart => exact ⟨0, rfl, Nat.zero_le _, (show (S.slots.take 0).any (slotBad S.parts.length) = false by simp), HB, HT⟩
                    case round =>
                      clear HB HT hli k1 k2
                      obtain ⟨k, rfl, hk, HN, HB, HT⟩ := hrel
                      have k2 := HB.out.s
                      by_cases hlt : k < S.slots.length
                      · have hli : (k : Int) < S.slots.length := by omega
                        obtain ⟨b, off, cap', e1, hcap, hbw, hc⟩ := HS.out.s.open (by omega)
                        cases e1
                        obtain ⟨c0, c1⟩ := slot_cells hc k hlt
                        have c0 := bcl HT.out hbw c0
                        have c1 := bcl HT.out hbw c1
                        clear hc
                        generalize h1 : withinB S.slots[k].pt 0 ((S.parts.length : Int) - 1) = q1
                        generalize h2 : withinB S.slots[k].tk 1 8 = q2
                        have HK : Hid (slotBad S.parts.length S.slots[k] = (!q1 || !q2)) := by show slotBad _ _ = _; unfold slotBad; rw [h1, h2]
                        have H1 := Lib.hid h1
                        have H2 := Lib.hid h2
                        clear h1 h2
                        go_wp2_with fail
                        refine (within_any _ _ _ _).mono ?_
                        rw [H1.out]
                        rintro e w2 ⟨rfl, rfl⟩
                        cases q1
                        · have HRR := Lib.hid (chkS_places HC.out HZ.out HKB.out (placesB_no2 (any_mem hlt HK.out)))
                          go_wp2
                          go_ret
                          exact ⟨ret_int (by rw [← HR.out, HRR.out]), HT.out⟩
                        · go_wp2_with fail
                          refine (within_any _ _ _ _).mono ?_
                          rw [H2.out]
                          rintro e w2 ⟨rfl, rfl⟩
                          cases q2
                          · have HRR := Lib.hid (chkS_places HC.out HZ.out HKB.out (placesB_no2 (any_mem hlt HK.out)))
                            go_wp2
                            go_ret
                            exact ⟨ret_int (by rw [← HR.out, HRR.out]), HT.out⟩
                          · have HN2 := Lib.hid (any_take hlt HN.out HK.out)
                            go_wp2
                            go_roundw
                            case rel => exact ⟨k + 1, by go_num, by omega, HN2, HB, HT⟩
                            case measure => simp [intOf]; omega
                      · have hli : ¬ (k : Int) < S.slots.length := by omega
                        have HPL := Lib.hid (placesB_yes HPB.out (any_all hlt HN.out))
                        clear HN hk hlt HPB
                        go_wp2
                        go_loopw [11] (fun i wr => ∃ k : Nat, i = .int .i64 k ∧ k ≤ S.parts.length ∧ Hid (∀ j (h : j < S.parts.length), j < k → S.parts[j].code.any (insBad S.chans (j : Int)) = false) ∧ Hid (Box wr w.heap.size (.slice (some ⟨pb, po, none⟩) S.parts.length pc) (.slice ca S.chans.length cc) (.slice sa S.slots.length sc)) ∧ Hid (Below w.heap.size w wr)) (fun i _ => S.parts.length - (intOf i).toNat)
                        case atStart => exact ⟨0, rfl, Nat.zero_le _, (fun j hj h => by omega), HB, HT⟩
                        case round =>
                          clear HB HT hli k2
                          obtain ⟨k, rfl, hk, HN, HB, HT⟩ := hrel
                          by_cases hlt : k < S.parts.length
                          · have hli : (k : Int) < S.parts.length := by omega
                            obtain ⟨c, i, c0, c1, hpr⟩ := HP.out k hlt
                            obtain ⟨a2, b2, rfl⟩ := hpr.code.form
                            have HPR := Lib.hid hpr
                            have HC0 := Lib.hid c0
                            have hc20 : S.parts[k].code.length ≤ 20 := (chkC_zero (HZ.out k hlt)).2.1
                            clear hpr c1 c0
                            go_wp2
                            go_loopw [12] (fun i wr => ∃ m : Nat, i = .int .i64 m ∧ m ≤ S.parts[k].code.length ∧ Hid ((S.parts[k].code.take m).any (insBad S.chans (k : Int)) = false) ∧ Hid (Box wr w.heap.size (.slice (some ⟨pb, po, none⟩) S.parts.length pc) (.slice ca S.chans.length cc) (.slice sa S.slots.length sc)) ∧ Hid (Below w.heap.size w wr)) (fun i _ => S.parts[k].code.length - (intOf i).toNat)
                            case atStart => exact ⟨0, rfl, Nat.zero_le _, (show (S.parts[k].code.take 0).any (insBad S.chans (k : Int)) = false by simp), HB, HT⟩
                            case round =>
                              clear HB HT
                              obtain ⟨m, rfl, hm, HM, HB, HT⟩ := hrel
                              have k0 := HB.out.p
                              have k1 := HB.out.c
                              have c0 := bcl HT.out hpb HC0.out
                              by_cases hmt : m < S.parts[k].code.length
                              · have hmi : (m : Int) < S.parts[k].code.length := by omega
                                obtain ⟨cb, co, ccap, e1, hcc, hcb, hcs⟩ := HPR.out.code.open (by omega)
                                cases e1
                                obtain ⟨d0, d1, d2, d3⟩ := code_cells hcs m hmt
                                have d0 := bcl HT.out hcb d0
                                have d1 := bcl HT.out hcb d1
                                have d2 := bcl HT.out hcb d2
                                have d3 := bcl HT.out hcb d3
                                have k1' := cl_alloc (.cells #[.int .i64 S.parts[k].code[m].op, .int .i64 S.parts[k].code[m].a, .int .i64 S.parts[k].code[m].b, .int .i64 S.parts[k].code[m].n] 59) HB.out.lt k1
                                clear hcs
                                have hgl := HB.out.lt
                                by_cases ho : S.parts[k].code[m].op = 12
                                · have hne : Hid (insBad S.chans (k : Int) S.parts[k].code[m] = putBad S.chans (k : Int) S.parts[k].code[m].n) := by
                                    show insBad _ _ _ = _
                                    unfold insBad
                                    rw [ho]
                                    simp
                                  obtain ⟨n, hn, hn6⟩ : ∃ n : Nat, S.parts[k].code[m].n = n ∧ n < 6 := by
                                    have := chk_chan ((chkC_zero (HZ.out k hlt)).2.2 m hmt) (Or.inl ho)
                                    exact ⟨S.parts[k].code[m].n.toNat, by omega, by omega⟩
                                  rw [hn] at d3 hne
                                  rw [ho] at d0
                                  clear hn ho
                                  have hn0 : (0 : Int) ≤ n := by omega
                                  by_cases hnl : n < S.chans.length
                                  · have hni : (n : Int) < S.chans.length := by omega
                                    have hnd : ¬ (S.chans.length : Int) ≤ n := by omega
                                    obtain ⟨b, off, cap', e1, hcap, hbw, hc⟩ := HS.out.c.open (by omega)
                                    cases e1
                                    obtain ⟨f0, f1, f2⟩ := chan_cells hc n hnl
                                    have f1 := bcl HT.out hbw f1
                                    have f1' := cl_alloc (.cells #[.int .i64 12, .int .i64 S.parts[k].code[m].a, .int .i64 S.parts[k].code[m].b, .int .i64 (n : Int)] 59) (Nat.lt_of_lt_of_le hbw HT.out.size) f1
                                    generalize hq : (S.chans[n].fr != (k : Int)) = q
                                    have HK : Hid (insBad S.chans (k : Int) S.parts[k].code[m] = q) := by show insBad _ _ _ = q; rw [hne.out, putBad_lt hnl, hq]
                                    clear hc hne
                                    cases q
                                    · have HN2 := Lib.hid (any_take hmt HM.out HK.out)
                                      go_wp2
                                      go_roundw
                                      case rel => exact ⟨m + 1, by go_num, by omega, HN2, HB.out.up ((Below.refl _ _).alloc (Nat.le_refl _) _), HT.out.alloc HT.out.size _⟩
                                      case measure => simp [intOf]; omega
                                    · have HRR := Lib.hid (chkS_names HC.out HZ.out HKB.out HPL.out (namesB_no hlt (HZ.out k hlt) (any_mem hmt HK.out)))
                                      go_wp2
                                      go_ret
                                      exact ⟨ret_int (by rw [← HR.out, HRR.out]), HT.out.alloc HT.out.size _⟩
                                  · have hni : ¬ (n : Int) < S.chans.length := by omega
                                    have hnd : (S.chans.length : Int) ≤ n := by omega
                                    have HK : Hid (insBad S.chans (k : Int) S.parts[k].code[m] = true) := by show insBad _ _ _ = true; rw [hne.out, putBad_ge hnl]
                                    clear hne
                                    have HRR := Lib.hid (chkS_names HC.out HZ.out HKB.out HPL.out (namesB_no hlt (HZ.out k hlt) (any_mem hmt HK.out)))
                                    go_wp2
                                    go_ret
                                    exact ⟨ret_int (by rw [← HR.out, HRR.out]), HT.out.alloc HT.out.size _⟩
                                · by_cases ho2 : S.parts[k].code[m].op = 13
                                  · have hne : Hid (insBad S.chans (k : Int) S.parts[k].code[m] = getBad S.chans (k : Int) S.parts[k].code[m].n) := by
                                      show insBad _ _ _ = _
                                      unfold insBad
                                      rw [ho2]
                                      simp
                                    obtain ⟨n, hn, hn6⟩ : ∃ n : Nat, S.parts[k].code[m].n = n ∧ n < 6 := by
                                      have := chk_chan ((chkC_zero (HZ.out k hlt)).2.2 m hmt) (Or.inr ho2)
                                      exact ⟨S.parts[k].code[m].n.toNat, by omega, by omega⟩
                                    rw [hn] at d3 hne
                                    rw [ho2] at d0
                                    clear hn ho ho2
                                    have hn0 : (0 : Int) ≤ n := by omega
                                    by_cases hnl : n < S.chans.length
                                    · have hni : (n : Int) < S.chans.length := by omega
                                      have hnd : ¬ (S.chans.length : Int) ≤ n := by omega
                                      obtain ⟨b, off, cap', e1, hcap, hbw, hc⟩ := HS.out.c.open (by omega)
                                      cases e1
                                      obtain ⟨f0, f1, f2⟩ := chan_cells hc n hnl
                                      have f2 := bcl HT.out hbw f2
                                      have f2' := cl_alloc (.cells #[.int .i64 13, .int .i64 S.parts[k].code[m].a, .int .i64 S.parts[k].code[m].b, .int .i64 (n : Int)] 59) (Nat.lt_of_lt_of_le hbw HT.out.size) f2
                                      generalize hq : (S.chans[n].tt != (k : Int)) = q
                                      have HK : Hid (insBad S.chans (k : Int) S.parts[k].code[m] = q) := by show insBad _ _ _ = q; rw [hne.out, getBad_lt hnl, hq]
                                      clear hc hne
                                      cases q
                                      · have HN2 := Lib.hid (any_take hmt HM.out HK.out)
                                        go_wp2
                                        go_roundw
                                        case rel => exact ⟨m + 1, by go_num, by omega, HN2, HB.out.up ((Below.refl _ _).alloc (Nat.le_refl _) _), HT.out.alloc HT.out.size _⟩
                                        case measure => simp [intOf]; omega
                                      · have HRR := Lib.hid (chkS_names HC.out HZ.out HKB.out HPL.out (namesB_no hlt (HZ.out k hlt) (any_mem hmt HK.out)))
                                        go_wp2
                                        go_ret
                                        exact ⟨ret_int (by rw [← HR.out, HRR.out]), HT.out.alloc HT.out.size _⟩
                                    · have hni : ¬ (n : Int) < S.chans.length := by omega
                                      have hnd : (S.chans.length : Int) ≤ n := by omega
                                      have HK : Hid (insBad S.chans (k : Int) S.parts[k].code[m] = true) := by show insBad _ _ _ = true; rw [hne.out, getBad_ge hnl]
                                      clear hne
                                      have HRR := Lib.hid (chkS_names HC.out HZ.out HKB.out HPL.out (namesB_no hlt (HZ.out k hlt) (any_mem hmt HK.out)))
                                      go_wp2
                                      go_ret
                                      exact ⟨ret_int (by rw [← HR.out, HRR.out]), HT.out.alloc HT.out.size _⟩
                                  · have o1 : (S.parts[k].code[m].op == 12) = false := by simpa using ho
                                    have o2 : (S.parts[k].code[m].op == 13) = false := by simpa using ho2
                                    have HK : Hid (insBad S.chans (k : Int) S.parts[k].code[m] = false) := by show insBad _ _ _ = false; unfold insBad; rw [o1, o2]; rfl
                                    have HN2 := Lib.hid (any_take hmt HM.out HK.out)
                                    clear ho ho2
                                    go_wp2
                                    go_roundw
                                    case rel => exact ⟨m + 1, by go_num, by omega, HN2, HB.out.up ((Below.refl _ _).alloc (Nat.le_refl _) _), HT.out.alloc HT.out.size _⟩
                                    case measure => simp [intOf]; omega
                              · have hmi : ¬ (m : Int) < S.parts[k].code.length := by omega
                                have HM2 := Lib.hid (any_all hmt HM.out)
                                go_wp2
                                go_roundw
                                case rel => exact ⟨k + 1, by go_num, by omega, (fun j hj hjk => by
                                  by_cases e : j = k
                                  · subst e; exact HM2.out
                                  · exact HN.out j hj (by omega)), HB, HT⟩
                                case measure => simp [intOf]; omega
                          · have hli : ¬ (k : Int) < S.parts.length := by omega
                            have HRR := Lib.hid (chkS_ok HC.out HZ.out HKB.out HPL.out (namesB_yes HZ.out (fun j hj => HN.out j hj (by omega))))
                            go_wp2
                            go_ret
                            exact ⟨ret_int (by rw [← HR.out, HRR.out]), HT.out⟩
  · have HRR := Lib.hid (chkS_counts (countsB_no1 hA))
    generalize h1 : withinB (S.parts.length : Int) 1 4 = q1
    generalize h3 : withinB (S.slots.length : Int) 1 6 = q3
    have H1 := Lib.hid h1
    have H3 := Lib.hid h3
    have HQ : Hid (q1 = true → S.chans.length ≤ 6 → q3 = false) := by
      intro e1 e2
      subst e1
      cases q3
      · rfl
      · unfold withinB at h1 h3
        simp at h1 h3
        omega
    clear h1 h3 hA
    go_enter Tryd.func6, Tryd.ntmps6
    go_wp2_with fail
    refine (within_any _ _ _ _).mono ?_
    rw [H1.out]
    rintro e w1 ⟨rfl, rfl⟩
    cases q1
    · go_wp2
      go_ret
      exact ⟨ret_int (by rw [← HR.out, HRR.out]), (by repeat (first | exact Below.refl _ _ | assumption | refine Below.drew ?_ | refine Below.alloc ?_ (by first | (simp; done) | (simp; omega)) _ | refine Below.setCell ?_ (by first | (simp; done) | (simp; omega)) _))⟩
    · by_cases h6 : (6 : Int) < S.chans.length
      · go_wp2
        go_ret
        exact ⟨ret_int (by rw [← HR.out, HRR.out]), (by repeat (first | exact Below.refl _ _ | assumption | refine Below.drew ?_ | refine Below.alloc ?_ (by first | (simp; done) | (simp; omega)) _ | refine Below.setCell ?_ (by first | (simp; done) | (simp; omega)) _))⟩
      · have hq := HQ.out rfl (by omega)
        subst hq
        clear HQ
        go_wp2_with fail
        refine (within_any _ _ _ _).mono ?_
        rw [H3.out]
        rintro e w1 ⟨rfl, rfl⟩
        go_wp2
        go_ret
        exact ⟨ret_int (by rw [← HR.out, HRR.out]), (by repeat (first | exact Below.refl _ _ | assumption | refine Below.drew ?_ | refine Below.alloc ?_ (by first | (simp; done) | (simp; omega)) _ | refine Below.setCell ?_ (by first | (simp; done) | (simp; omega)) _))⟩
end Go.Proofs.YtbhfnkbflikliaaDoor

namespace Go.Proofs.YtbhfnkbflikliaaDoor
set_option linter.unusedSimpArgs false
set_option linter.unusedVariables false
open Go.RowKit Go.Sort
theorem chkS_zero {S : SysD} (h : chkS S = 0) : countsB S = true ∧ (∀ j (hj : j < S.parts.length), chkC S.parts[j].code = 0) ∧ S.chans.any kindBad = false ∧ placesB S = true ∧ namesB S = true := by
  unfold chkS at h
  split at h
  · omega
  · rename_i h1
    split at h
    · rename_i h2; exact absurd h h2
    · rename_i h2
      split at h
      · omega
      · rename_i h3
        split at h
        · omega
        · rename_i h4
          split at h
          · omega
          · rename_i h5
            exact ⟨by simpa using h1, firstP_zero (by simpa using h2), by simpa using h3, by simpa using h4, by simpa using h5⟩
end Go.Proofs.YtbhfnkbflikliaaDoor

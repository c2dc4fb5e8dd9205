/- image.write: how many, and each one. -/
import Derived.Test.YtbkdoohhdkahiaaGreatDoorK23
import Derived.Test.YtbkdoohhdkahiaaGreatDoorK22
import Derived.Test.YtbkdoohhdkahiaaGreatDoorK7
import Derived.Test.YtbkdoohhdkahiaaGreatDoorK21
namespace Go.Proofs.YtbkdoohhdkahiaaGreatDoor
set_option linter.unusedSimpArgs false
set_option linter.unusedVariables false
open Go.RowKit Go.Sort
theorem flat_len {α : Type} {enc : α → List UInt8} {m : Nat} : ∀ {xs : List α}, (∀ x ∈ xs, (enc x).length ≤ m) → (xs.flatMap enc).length ≤ m * xs.length
  | [], _ => by simp
  | x :: r, h => by
    have h1 := h x (by simp)
    have h2 := flat_len (xs := r) (fun y hy => h y (by simp [hy]))
    rw [List.flatMap_cons, List.length_append, List.length_cons, Nat.mul_add]
    omega
theorem flat_take {α : Type} (enc : α → List UInt8) (xs : List α) (k : Nat) (h : k < xs.length) : (xs.take (k + 1)).flatMap enc = (xs.take k).flatMap enc ++ enc xs[k] := by
  rw [List.take_add_one, List.getElem?_eq_getElem h]
  show (xs.take k ++ [xs[k]]).flatMap enc = _
  rw [List.flatMap_append, List.flatMap_cons, List.flatMap_nil, List.append_nil]
theorem cI_len (i : Ins) : (cI.enc i).length ≤ 11 := Nat.le_refl _
theorem cN_len (i : Int) : (cN.enc i).length ≤ 11 := by show 8 ≤ 11; omega
theorem cC_len (i : Chn) : (cC.enc i).length ≤ 11 := by show 3 ≤ 11; omega
theorem cT_len (i : Slt) : (cT.enc i).length ≤ 11 := by show 2 ≤ 11; omega
set_option maxRecDepth 100000 in
set_option maxHeartbeats 2000000 in
theorem writeI_any (B b : Nat) (l : List UInt8) (xs : List Ins) (v : Value) (w0 w : World) (hB : B = w0.heap.size) (h0 : Below B w0 w) (hS : Sl w0 4 v xs.length (codeC xs)) (h : Pap B b l w) (hl : l.length ≤ 700000) (hx : xs.length ≤ 1000) (hb : b < w.heap.size) :
    Calls Tryz.prog 139 #[.pointer (some ⟨b, 0, none⟩), v, .func (.func 140) #[.pointer (some ⟨b, 0, none⟩)] #[]] w fun e w' => e = .returned (.tuple #[]) ∧ Pap B b (l ++ cI.ls.enc xs) w' ∧ Wr B b w w' := by
  have hen : Enters 140 := enters Tryz.func140 (by kernel_rfl) (by kernel_rfl)
  unfold Enters at hen
  obtain ⟨ao, cap, rfl⟩ := hS.form
  have H := Lib.hid h
  have HL := Lib.hid hl
  have H0 := Lib.hid h0
  have HS := Lib.hid hS
  have HB := Lib.hid hB
  clear h hl h0 hS hB
  go_enter Tryz.func139, Tryz.ntmps139
  go_wp2_with fail
  refine (small_any B b l _ _ H.out (by have := HL.out; omega)).mono ?_
  rintro e w1 ⟨rfl, p1, b1⟩
  have P1 := Lib.hid p1
  have W1 := Lib.hid b1
  clear p1 b1
  go_wp2
  go_loopw [14] (fun i wr => ∃ k : Nat, i = .int .i64 k ∧ k ≤ xs.length ∧ Hid (Pap B b ((l ++ [by8 xs.length]) ++ (xs.take k).flatMap cI.enc) wr) ∧ Hid (Wr B b w wr)) (fun i _ => xs.length - (intOf i).toNat)
  case atStart => exact ⟨0, rfl, Nat.zero_le _, by rw [List.take_zero, List.flatMap_nil, List.append_nil]; exact P1, W1⟩
  case round =>
    obtain ⟨k, rfl, hk, HP, WD⟩ := hrel
    by_cases hlt : k < xs.length
    · have hli : (k : Int) < xs.length := by omega
      have hbz : b < wr.heap.size := Nat.lt_of_lt_of_le hb WD.out.size
      have B0 := Lib.hid (H0.out.trans WD.out.b)
      rw [HB.out] at B0
      obtain ⟨sb, off, cap', e1, hcap, hbw, hc⟩ := HS.out.open (by omega)
      cases e1
      obtain ⟨c0, c1, c2, c3⟩ := code_cells hc k hlt
      have c0 := bcl B0.out hbw c0
      have c1 := bcl B0.out hbw c1
      have c2 := bcl B0.out hbw c2
      have c3 := bcl B0.out hbw c3
      have HT := Lib.hid (flat_take cI.enc xs k hlt)
      have hfl : ((xs.take k).flatMap cI.enc).length ≤ 11 * (xs.take k).length := flat_len (fun x _ => cI_len x)
      have HFL : Hid (((l ++ [by8 xs.length]) ++ (xs.take k).flatMap cI.enc).length ≤ 800000) := Lib.hid (by have := HL.out; rw [List.length_take] at hfl; simp at hfl ⊢; omega)
      clear hc hfl
      go_wp2_with fail
      refine (pinstr_any B b ((l ++ [by8 xs.length]) ++ (xs.take k).flatMap cI.enc) xs[k] _ (HP.out.alloc _) HFL.out (by simp; omega)).mono ?_
      rintro e w2 ⟨rfl, p1, b1⟩
      have P2 := Lib.hid p1
      have W2 := Lib.hid ((WD.out.trans (Wr.up ((Below.refl _ _).alloc (Nat.le_refl _) _) HP.out.2)).trans b1)
      clear p1 b1
      go_wp2
      go_roundw
      case rel => exact ⟨k + 1, by go_num, by omega, by rw [HT.out, ← List.append_assoc]; exact P2, W2⟩
      case measure => simp [intOf]; omega
    · obtain rfl : k = xs.length := by omega
      have hli : ¬ ((xs.length : Int) < xs.length) := by omega
      have P2 : Pap B b ((l ++ [by8 xs.length]) ++ (xs.take xs.length).flatMap cI.enc) wr := HP.out
      rw [List.take_length, List.append_assoc] at P2
      have HP2 := Lib.hid P2
      clear P2
      go_wp2
      go_end0
      exact ⟨rfl, HP2.out, WD.out⟩
set_option maxRecDepth 100000 in
set_option maxHeartbeats 2000000 in
theorem writeN_any (B b : Nat) (l : List UInt8) (xs : List Int) (v : Value) (w0 w : World) (hB : B = w0.heap.size) (h0 : Below B w0 w) (hS : Sl w0 1 v xs.length (ints xs)) (h : Pap B b l w) (hl : l.length ≤ 700000) (hx : xs.length ≤ 1000) (hb : b < w.heap.size) :
    Calls Tryz.prog 141 #[.pointer (some ⟨b, 0, none⟩), v, .func (.func 142) #[.pointer (some ⟨b, 0, none⟩)] #[]] w fun e w' => e = .returned (.tuple #[]) ∧ Pap B b (l ++ cN.ls.enc xs) w' ∧ Wr B b w w' := by
  have hen : Enters 142 := enters Tryz.func142 (by kernel_rfl) (by kernel_rfl)
  unfold Enters at hen
  obtain ⟨ao, cap, rfl⟩ := hS.form
  have H := Lib.hid h
  have HL := Lib.hid hl
  have H0 := Lib.hid h0
  have HS := Lib.hid hS
  have HB := Lib.hid hB
  clear h hl h0 hS hB
  go_enter Tryz.func141, Tryz.ntmps141
  go_wp2_with fail
  refine (small_any B b l _ _ H.out (by have := HL.out; omega)).mono ?_
  rintro e w1 ⟨rfl, p1, b1⟩
  have P1 := Lib.hid p1
  have W1 := Lib.hid b1
  clear p1 b1
  go_wp2
  go_loopw [14] (fun i wr => ∃ k : Nat, i = .int .i64 k ∧ k ≤ xs.length ∧ Hid (Pap B b ((l ++ [by8 xs.length]) ++ (xs.take k).flatMap cN.enc) wr) ∧ Hid (Wr B b w wr)) (fun i _ => xs.length - (intOf i).toNat)
  case atStart => exact ⟨0, rfl, Nat.zero_le _, by rw [List.take_zero, List.flatMap_nil, List.append_nil]; exact P1, W1⟩
  case round =>
    obtain ⟨k, rfl, hk, HP, WD⟩ := hrel
    by_cases hlt : k < xs.length
    · have hli : (k : Int) < xs.length := by omega
      have hbz : b < wr.heap.size := Nat.lt_of_lt_of_le hb WD.out.size
      have B0 := Lib.hid (H0.out.trans WD.out.b)
      rw [HB.out] at B0
      obtain ⟨sb, off, cap', e1, hcap, hbw, hc⟩ := HS.out.open (by omega)
      cases e1
      have c0 := hc k _ (ints_at xs k hlt)
      have c0 := bcl B0.out hbw c0
      have HT := Lib.hid (flat_take cN.enc xs k hlt)
      have hfl : ((xs.take k).flatMap cN.enc).length ≤ 11 * (xs.take k).length := flat_len (fun x _ => cN_len x)
      have HFL : Hid (((l ++ [by8 xs.length]) ++ (xs.take k).flatMap cN.enc).length ≤ 800000) := Lib.hid (by have := HL.out; rw [List.length_take] at hfl; simp at hfl ⊢; omega)
      clear hc hfl
      go_wp2_with fail
      refine (pnumber_any B b ((l ++ [by8 xs.length]) ++ (xs.take k).flatMap cN.enc) xs[k] _ HP.out (by have := HFL.out; omega)).mono ?_
      rintro e w2 ⟨rfl, p1, b1⟩
      have P2 := Lib.hid p1
      have W2 := Lib.hid (WD.out.trans b1)
      clear p1 b1
      go_wp2
      go_roundw
      case rel => exact ⟨k + 1, by go_num, by omega, by rw [HT.out, ← List.append_assoc]; exact P2, W2⟩
      case measure => simp [intOf]; omega
    · obtain rfl : k = xs.length := by omega
      have hli : ¬ ((xs.length : Int) < xs.length) := by omega
      have P2 : Pap B b ((l ++ [by8 xs.length]) ++ (xs.take xs.length).flatMap cN.enc) wr := HP.out
      rw [List.take_length, List.append_assoc] at P2
      have HP2 := Lib.hid P2
      clear P2
      go_wp2
      go_end0
      exact ⟨rfl, HP2.out, WD.out⟩
set_option maxRecDepth 100000 in
set_option maxHeartbeats 2000000 in
theorem writeC_any (B b : Nat) (l : List UInt8) (xs : List Chn) (v : Value) (w0 w : World) (hB : B = w0.heap.size) (h0 : Below B w0 w) (hS : Sl w0 3 v xs.length (rowC chC xs)) (h : Pap B b l w) (hl : l.length ≤ 700000) (hx : xs.length ≤ 1000) (hb : b < w.heap.size) :
    Calls Tryz.prog 89 #[.pointer (some ⟨b, 0, none⟩), v, .func (.func 90) #[.pointer (some ⟨b, 0, none⟩)] #[]] w fun e w' => e = .returned (.tuple #[]) ∧ Pap B b (l ++ cC.ls.enc xs) w' ∧ Wr B b w w' := by
  have hen : Enters 90 := enters Tryz.func90 (by kernel_rfl) (by kernel_rfl)
  unfold Enters at hen
  obtain ⟨ao, cap, rfl⟩ := hS.form
  have H := Lib.hid h
  have HL := Lib.hid hl
  have H0 := Lib.hid h0
  have HS := Lib.hid hS
  have HB := Lib.hid hB
  clear h hl h0 hS hB
  go_enter Tryz.func89, Tryz.ntmps89
  go_wp2_with fail
  refine (small_any B b l _ _ H.out (by have := HL.out; omega)).mono ?_
  rintro e w1 ⟨rfl, p1, b1⟩
  have P1 := Lib.hid p1
  have W1 := Lib.hid b1
  clear p1 b1
  go_wp2
  go_loopw [14] (fun i wr => ∃ k : Nat, i = .int .i64 k ∧ k ≤ xs.length ∧ Hid (Pap B b ((l ++ [by8 xs.length]) ++ (xs.take k).flatMap cC.enc) wr) ∧ Hid (Wr B b w wr)) (fun i _ => xs.length - (intOf i).toNat)
  case atStart => exact ⟨0, rfl, Nat.zero_le _, by rw [List.take_zero, List.flatMap_nil, List.append_nil]; exact P1, W1⟩
  case round =>
    obtain ⟨k, rfl, hk, HP, WD⟩ := hrel
    by_cases hlt : k < xs.length
    · have hli : (k : Int) < xs.length := by omega
      have hbz : b < wr.heap.size := Nat.lt_of_lt_of_le hb WD.out.size
      have B0 := Lib.hid (H0.out.trans WD.out.b)
      rw [HB.out] at B0
      obtain ⟨sb, off, cap', e1, hcap, hbw, hc⟩ := HS.out.open (by omega)
      cases e1
      obtain ⟨c0, c1, c2⟩ := chan_cells hc k hlt
      have c0 := bcl B0.out hbw c0
      have c1 := bcl B0.out hbw c1
      have c2 := bcl B0.out hbw c2
      have HT := Lib.hid (flat_take cC.enc xs k hlt)
      have hfl : ((xs.take k).flatMap cC.enc).length ≤ 11 * (xs.take k).length := flat_len (fun x _ => cC_len x)
      have HFL : Hid (((l ++ [by8 xs.length]) ++ (xs.take k).flatMap cC.enc).length ≤ 800000) := Lib.hid (by have := HL.out; rw [List.length_take] at hfl; simp at hfl ⊢; omega)
      clear hc hfl
      go_wp2_with fail
      refine (pchannel_any B b ((l ++ [by8 xs.length]) ++ (xs.take k).flatMap cC.enc) xs[k] _ (HP.out.alloc _) HFL.out (by simp; omega)).mono ?_
      rintro e w2 ⟨rfl, p1, b1⟩
      have P2 := Lib.hid p1
      have W2 := Lib.hid ((WD.out.trans (Wr.up ((Below.refl _ _).alloc (Nat.le_refl _) _) HP.out.2)).trans b1)
      clear p1 b1
      go_wp2
      go_roundw
      case rel => exact ⟨k + 1, by go_num, by omega, by rw [HT.out, ← List.append_assoc]; exact P2, W2⟩
      case measure => simp [intOf]; omega
    · obtain rfl : k = xs.length := by omega
      have hli : ¬ ((xs.length : Int) < xs.length) := by omega
      have P2 : Pap B b ((l ++ [by8 xs.length]) ++ (xs.take xs.length).flatMap cC.enc) wr := HP.out
      rw [List.take_length, List.append_assoc] at P2
      have HP2 := Lib.hid P2
      clear P2
      go_wp2
      go_end0
      exact ⟨rfl, HP2.out, WD.out⟩
set_option maxRecDepth 100000 in
set_option maxHeartbeats 2000000 in
theorem writeT_any (B b : Nat) (l : List UInt8) (xs : List Slt) (v : Value) (w0 w : World) (hB : B = w0.heap.size) (h0 : Below B w0 w) (hS : Sl w0 2 v xs.length (rowC slC xs)) (h : Pap B b l w) (hl : l.length ≤ 700000) (hx : xs.length ≤ 1000) (hb : b < w.heap.size) :
    Calls Tryz.prog 91 #[.pointer (some ⟨b, 0, none⟩), v, .func (.func 92) #[.pointer (some ⟨b, 0, none⟩)] #[]] w fun e w' => e = .returned (.tuple #[]) ∧ Pap B b (l ++ cT.ls.enc xs) w' ∧ Wr B b w w' := by
  have hen : Enters 92 := enters Tryz.func92 (by kernel_rfl) (by kernel_rfl)
  unfold Enters at hen
  obtain ⟨ao, cap, rfl⟩ := hS.form
  have H := Lib.hid h
  have HL := Lib.hid hl
  have H0 := Lib.hid h0
  have HS := Lib.hid hS
  have HB := Lib.hid hB
  clear h hl h0 hS hB
  go_enter Tryz.func91, Tryz.ntmps91
  go_wp2_with fail
  refine (small_any B b l _ _ H.out (by have := HL.out; omega)).mono ?_
  rintro e w1 ⟨rfl, p1, b1⟩
  have P1 := Lib.hid p1
  have W1 := Lib.hid b1
  clear p1 b1
  go_wp2
  go_loopw [14] (fun i wr => ∃ k : Nat, i = .int .i64 k ∧ k ≤ xs.length ∧ Hid (Pap B b ((l ++ [by8 xs.length]) ++ (xs.take k).flatMap cT.enc) wr) ∧ Hid (Wr B b w wr)) (fun i _ => xs.length - (intOf i).toNat)
  case atStart => exact ⟨0, rfl, Nat.zero_le _, by rw [List.take_zero, List.flatMap_nil, List.append_nil]; exact P1, W1⟩
  case round =>
    obtain ⟨k, rfl, hk, HP, WD⟩ := hrel
    by_cases hlt : k < xs.length
    · have hli : (k : Int) < xs.length := by omega
      have hbz : b < wr.heap.size := Nat.lt_of_lt_of_le hb WD.out.size
      have B0 := Lib.hid (H0.out.trans WD.out.b)
      rw [HB.out] at B0
      obtain ⟨sb, off, cap', e1, hcap, hbw, hc⟩ := HS.out.open (by omega)
      cases e1
      obtain ⟨c0, c1⟩ := slot_cells hc k hlt
      have c0 := bcl B0.out hbw c0
      have c1 := bcl B0.out hbw c1
      have HT := Lib.hid (flat_take cT.enc xs k hlt)
      have hfl : ((xs.take k).flatMap cT.enc).length ≤ 11 * (xs.take k).length := flat_len (fun x _ => cT_len x)
      have HFL : Hid (((l ++ [by8 xs.length]) ++ (xs.take k).flatMap cT.enc).length ≤ 800000) := Lib.hid (by have := HL.out; rw [List.length_take] at hfl; simp at hfl ⊢; omega)
      clear hc hfl
      go_wp2_with fail
      refine (pslot_any B b ((l ++ [by8 xs.length]) ++ (xs.take k).flatMap cT.enc) xs[k] _ (HP.out.alloc _) HFL.out (by simp; omega)).mono ?_
      rintro e w2 ⟨rfl, p1, b1⟩
      have P2 := Lib.hid p1
      have W2 := Lib.hid ((WD.out.trans (Wr.up ((Below.refl _ _).alloc (Nat.le_refl _) _) HP.out.2)).trans b1)
      clear p1 b1
      go_wp2
      go_roundw
      case rel => exact ⟨k + 1, by go_num, by omega, by rw [HT.out, ← List.append_assoc]; exact P2, W2⟩
      case measure => simp [intOf]; omega
    · obtain rfl : k = xs.length := by omega
      have hli : ¬ ((xs.length : Int) < xs.length) := by omega
      have P2 : Pap B b ((l ++ [by8 xs.length]) ++ (xs.take xs.length).flatMap cT.enc) wr := HP.out
      rw [List.take_length, List.append_assoc] at P2
      have HP2 := Lib.hid P2
      clear P2
      go_wp2
      go_end0
      exact ⟨rfl, HP2.out, WD.out⟩
end Go.Proofs.YtbkdoohhdkahiaaGreatDoor
namespace Go.Proofs.YtbkdoohhdkahiaaGreatDoor
set_option linter.unusedSimpArgs false
set_option linter.unusedVariables false
open Go.RowKit Go.Sort
theorem liesDesk : LiesB 116 := ⟨by kernel_rfl, by decide⟩
def Dap (B b : Nat) (l : List UInt8) (w : World) : Prop := Lib.IsBuilder 116 5 B b (Lib.byteCells l) w ∧ B ≤ w.heap.size
theorem Dap.up {B b : Nat} {l : List UInt8} {w w' : World} (h : Dap B b l w) (hb : Below w.heap.size w w') : Dap B b l w' := ⟨bld_up h.1 hb, Nat.le_trans h.2 hb.size⟩
theorem Dap.alloc {B b : Nat} {l : List UInt8} {w : World} (h : Dap B b l w) (o : Obj) : Dap B b l (w.alloc o) := h.up ((Below.refl _ _).alloc (Nat.le_refl _) _)
def numW (n : Int) : List UInt8 := 32 :: Lib.itoa n
def lineW (word : List UInt8) (ns : List Int) : List UInt8 := (word ++ ns.flatMap numW) ++ [10]
theorem numW_len {n : Int} (h : in64 n) : (numW n).length ≤ 22 := by
  have := Lib.itoa_length_le n h.1 h.2
  simp [numW]
  omega
theorem nums_len : ∀ (ns : List Int), (∀ n ∈ ns, in64 n) → (ns.flatMap numW).length ≤ 22 * ns.length := fun ns h => flat_len (fun x hx => numW_len (h x hx))
theorem mem_takeD {α : Type} {l : List α} {k : Nat} {x : α} (h : x ∈ l.take k) : x ∈ l := List.mem_of_mem_take h
set_option maxRecDepth 100000 in
set_option maxHeartbeats 4000000 in
theorem dline_any (B b : Nat) (l s : List UInt8) (xs : List Int) (v : Value) (w0 w : World) (he : Env w0) (hB : B = w0.heap.size) (h0 : Below B w0 w) (hS : Sl w0 1 v xs.length (ints xs)) (h : Dap B b l w) (hl : l.length ≤ 700000) (hs : s.length ≤ 1000) (hx : xs.length ≤ 1000) (hx64 : ∀ n ∈ xs, in64 n) (hb : b < w.heap.size) :
    Calls Tryz.prog 53 #[.pointer (some ⟨b, 0, none⟩), .string ⟨s.toArray⟩, v] w fun e w' => e = .returned (.tuple #[]) ∧ Dap B b (l ++ lineW s xs) w' ∧ Wr B b w w' := by
  obtain ⟨ao, cap, rfl⟩ := hS.form
  have H := Lib.hid h
  have HL := Lib.hid hl
  have HSL := Lib.hid hs
  have H0 := Lib.hid h0
  have HS := Lib.hid hS
  have HB := Lib.hid hB
  have HE := Lib.hid he
  have HX := Lib.hid hx64
  have HXL := Lib.hid hx
  clear h hl h0 hS hB he hx64 hs
  go_enter Tryz.func53, Tryz.ntmps53
  go_wp2_with fail
  refine (writeString_any _ liesDesk B b l s _ H.out.1 (by have := HL.out; have := HSL.out; omega) H.out.2).mono ?_
  rintro e w1 ⟨rfl, p1, b1⟩
  have P1 : Hid (Dap B b (l ++ s) w1) := Lib.hid ⟨p1, Nat.le_trans H.out.2 b1.size⟩
  have W1 := Lib.hid b1
  clear p1 b1
  go_wp2
  go_loopw [15] (fun i wr => ∃ k : Nat, i = .int .i64 k ∧ k ≤ xs.length ∧ Hid (Dap B b ((l ++ s) ++ (xs.take k).flatMap numW) wr) ∧ Hid (Wr B b w wr)) (fun i _ => xs.length - (intOf i).toNat)
  case atStart => exact ⟨0, rfl, Nat.zero_le _, by rw [List.take_zero, List.flatMap_nil, List.append_nil]; exact P1, W1⟩
  case round =>
    obtain ⟨k, rfl, hk, HP, WD⟩ := hrel
    have hfl : ((xs.take k).flatMap numW).length ≤ 22 * (xs.take k).length := nums_len _ (fun n hn => HX.out n (mem_takeD hn))
    have HFL : Hid (((l ++ s) ++ (xs.take k).flatMap numW).length ≤ 800000) := Lib.hid (by have := HL.out; have := HSL.out; have := HXL.out; rw [List.length_take] at hfl; simp at hfl ⊢; omega)
    clear hfl
    by_cases hlt : k < xs.length
    · have hli : (k : Int) < xs.length := by omega
      have hbz : b < wr.heap.size := Nat.lt_of_lt_of_le hb WD.out.size
      have B0 := Lib.hid (H0.out.trans WD.out.b)
      rw [HB.out] at B0
      obtain ⟨sb, off, cap', e1, hcap, hbw, hc⟩ := HS.out.open (by omega)
      cases e1
      have c0 := hc k _ (ints_at xs k hlt)
      have c0 := bcl B0.out hbw c0
      have HT := Lib.hid (flat_take numW xs k hlt)
      have H64 := Lib.hid (HX.out xs[k] (List.getElem_mem hlt))
      have HIL : Hid ((Lib.itoa xs[k]).length ≤ 21) := Lib.hid (Lib.itoa_length_le _ H64.out.1 H64.out.2)
      obtain ⟨y, HY⟩ : ∃ y, Hid ((l ++ s) ++ (xs.take k).flatMap numW = y) := ⟨_, Lib.hid rfl⟩
      rw [HY.out] at HP HFL
      obtain ⟨n, HN⟩ : ∃ n, Hid (xs[k] = n) := ⟨_, Lib.hid rfl⟩
      rw [HN.out] at c0 HT H64 HIL
      clear hc
      go_wp2_with fail
      refine (writeByte_any _ liesDesk B b (Lib.byteCells y) 32 _ HP.out.1 (by rw [Lib.byteCells_length]; have := HFL.out; omega) HP.out.2).mono ?_
      rintro e w2 ⟨rfl, p2, b2⟩
      have P2 : Hid (Dap B b (y ++ [32]) w2) := Lib.hid ⟨by rw [byteCells_app, byteCells_one]; exact p2, Nat.le_trans HP.out.2 b2.size⟩
      have W2 := Lib.hid (WD.out.trans b2)
      have E2 : Hid (Env w2) := Lib.hid (HE.out.up (by have := H0.out.trans W2.out.b; rw [HB.out] at this; exact this))
      clear p2 b2 c0
      go_wp2
      go_region_with (first
        | (go_at_call 103; refine (itoa_any n H64.out _ (E2.out.up up0)).mono ?_; rintro e w3 ⟨rfl, b3⟩; have P3 := Lib.hid (P2.out.up (Below.trans up0 b3)); have W3 := Lib.hid (W2.out.trans (Wr.up (Below.trans up0 b3) P2.out.2)); clear b3)
        | (go_at_call 101; refine (writeString_any _ liesDesk B b (y ++ [32]) (Lib.itoa n) _ (bld_up P3.out.1 up0) (by have := HFL.out; have := HIL.out; simp; omega) P3.out.2).mono ?_; rintro e w4 ⟨rfl, p4, b4⟩; have P4 := Lib.hid p4; have W4 := Lib.hid ((W3.out.trans (Wr.up up0 P3.out.2)).trans b4); clear b4 p4))
      all_goals
        go_wp2
        go_roundw
        case rel => exact ⟨k + 1, by go_num, by omega, Lib.hid ⟨by rw [HT.out, ← List.append_assoc, HY.out]; have := P4.out; rw [List.append_assoc] at this; exact this, Nat.le_trans H.out.2 W4.out.size⟩, W4⟩
        case measure => simp [intOf]; omega
    · obtain rfl : k = xs.length := by omega
      have hli : ¬ ((xs.length : Int) < xs.length) := by omega
      have P2 : Dap B b ((l ++ s) ++ (xs.take xs.length).flatMap numW) wr := HP.out
      rw [List.take_length] at P2 HFL
      obtain ⟨y, HY⟩ : ∃ y, Hid ((l ++ s) ++ xs.flatMap numW = y) := ⟨_, Lib.hid rfl⟩
      rw [HY.out] at P2 HFL
      have HP2 := Lib.hid P2
      clear P2 HP
      go_wp2_with fail
      refine (writeByte_any _ liesDesk B b (Lib.byteCells y) 10 _ HP2.out.1 (by rw [Lib.byteCells_length]; have := HFL.out; omega) HP2.out.2).mono ?_
      rintro e w2 ⟨rfl, p2, b2⟩
      have P2 : Hid (Dap B b (y ++ [10]) w2) := Lib.hid ⟨by rw [byteCells_app, byteCells_one]; exact p2, Nat.le_trans HP2.out.2 b2.size⟩
      have W2 := Lib.hid (WD.out.trans b2)
      clear p2 b2
      go_wp2
      go_end0
      exact ⟨rfl, by have := P2.out; rw [← HY.out] at this; unfold lineW; simp only [List.append_assoc] at this ⊢; exact this, W2.out⟩
def wordW (e : Int) : List UInt8 := if e = 1 then [115, 116, 111, 112, 112, 101, 100] else if e = 2 then [102, 97, 117, 108, 116, 101, 100] else [114, 117, 110, 115]
theorem wordW_len (e : Int) : (wordW e).length ≤ 7 := by unfold wordW; split; decide; split <;> decide
set_option maxRecDepth 100000 in
set_option maxHeartbeats 1000000 in
theorem dword_any (n : Int) (w : World) : Calls Tryz.prog 54 #[.int .i64 n] w fun e w' => e = .returned (.string ⟨(wordW n).toArray⟩) ∧ w' = w := by
  by_cases h1 : n = 1
  · subst h1
    go_enter Tryz.func54, Tryz.ntmps54
    go_wp2
    go_ret
    exact ⟨rfl, rfl⟩
  · by_cases h2 : n = 2
    · subst h2
      go_enter Tryz.func54, Tryz.ntmps54
      go_wp2
      go_ret
      exact ⟨rfl, rfl⟩
    · have e : wordW n = [114, 117, 110, 115] := by unfold wordW; rw [if_neg h1, if_neg h2]
      rw [e]
      go_enter Tryz.func54, Tryz.ntmps54
      go_wp2
      go_ret
      exact ⟨rfl, rfl⟩
end Go.Proofs.YtbkdoohhdkahiaaGreatDoor
namespace Go.Proofs.YtbkdoohhdkahiaaGreatDoor
set_option linter.unusedSimpArgs false
set_option linter.unusedVariables false
open Go.RowKit Go.Sort
def cellW (d : CelD) : List UInt8 := lineW (wordW d.c.en) d.out
def headW (sound : Bool) (leak : List Int) : List UInt8 := if sound then lineW [115, 111, 117, 110, 100] [] else lineW [108, 101, 97, 107] leak
def writtenW (sound : Bool) (leak : List Int) (cs : List CelD) : List UInt8 := headW sound leak ++ cs.flatMap cellW
theorem lineW_len {s : List UInt8} {ns : List Int} (h : ∀ n ∈ ns, in64 n) : (lineW s ns).length ≤ s.length + 22 * ns.length + 1 := by
  have := nums_len ns h
  simp [lineW] at this ⊢
  omega
structure TellOK (leak : List Int) (cs : List CelD) : Prop where
  ll : leak.length ≤ 16
  l64 : ∀ n ∈ leak, in64 n
  cl : cs.length ≤ 4
  ol : ∀ d ∈ cs, d.out.length ≤ 16
  o64 : ∀ d ∈ cs, ∀ n ∈ d.out, in64 n
theorem cellW_len {d : CelD} (h : d.out.length ≤ 16) (h' : ∀ n ∈ d.out, in64 n) : (cellW d).length ≤ 400 := by
  have := lineW_len (s := wordW d.c.en) h'
  have := wordW_len d.c.en
  unfold cellW
  omega
theorem headW_len {sound : Bool} {leak : List Int} (h : leak.length ≤ 16) (h' : ∀ n ∈ leak, in64 n) : (headW sound leak).length ≤ 400 := by
  unfold headW
  cases sound
  · have := lineW_len (s := [108, 101, 97, 107]) h'
    simp at this ⊢
    omega
  · show (lineW [115, 111, 117, 110, 100] []).length ≤ 400
    decide
theorem headW_ne (sound : Bool) (leak : List Int) : headW sound leak ≠ [] := by
  unfold headW lineW
  cases sound <;> simp
set_option maxRecDepth 100000 in
set_option maxHeartbeats 4000000 in
theorem written_any (sound : Bool) (leak : List Int) (cs : List CelD) (tk : Int) (vL uc ul : Value) (w : World) (he : Env w) (hT : TellOK leak cs) (hL : Sl w 1 vL leak.length (ints leak)) (hC : CellsR w uc cs) :
    Calls Tryz.prog 18 #[.bool sound, vL, .agg #[.int .i64 tk, uc, ul]] w fun e w' => e = .returned (.string ⟨(writtenW sound leak cs).toArray⟩) ∧ Below w.heap.size w w' := by
  obtain ⟨la, lc, rfl⟩ := hL.form
  obtain ⟨ca, cc, rfl⟩ := hC.form
  have HT := Lib.hid hT
  have hcl := hT.cl
  obtain ⟨X, HX⟩ : ∃ X, Hid (w.alloc (.cells #[.int .i64 tk, .slice ca cs.length cc, ul] 61) = X) := ⟨_, Lib.hid rfl⟩
  obtain ⟨g, HG⟩ : ∃ g, Hid (w.heap.size + 1 = g) := ⟨_, Lib.hid rfl⟩
  have HXs : Hid (g = X.heap.size) := Lib.hid (by rw [← HX.out, ← HG.out]; simp)
  have bX : Below w.heap.size w X := by rw [← HX.out]; exact (Below.refl _ _).alloc (Nat.le_refl _) _
  have RX : Hid (Rw X w.heap.size 61 #[.int .i64 tk, .slice ca cs.length cc, ul]) := Lib.hid (by rw [← HX.out]; exact Rw.new w 61 _ rfl)
  have HEX := Lib.hid (he.up bX)
  have HL := Lib.hid (hL.up bX)
  have HC := Lib.hid (hC.up bX)
  have BX := Lib.hid bX
  have P0 : Hid (Dap g g [] (X.alloc (.cells #[.pointer none, .slice none 0 0] 116))) := Lib.hid ⟨by rw [HXs.out]; exact Lib.fresh_isBuilder _ _ _, by rw [HXs.out]; simp⟩
  have B0 : Hid (Below g X (X.alloc (.cells #[.pointer none, .slice none 0 0] 116))) := Lib.hid ((Below.refl _ _).alloc (by rw [HXs.out]; exact Nat.le_refl _) _)
  have hb0 : g < (X.alloc (.cells #[.pointer none, .slice none 0 0] 116)).heap.size := by rw [HXs.out]; simp
  clear he hT hL hC bX
  go_enter Tryz.func18, Tryz.ntmps18
  cases sound
  · go_wp2_with fail
    rw [HX.out, HG.out]
    refine (dline_any g g [] [108, 101, 97, 107] leak _ X _ HEX.out HXs.out B0.out HL.out P0.out (by decide) (by decide) (by have := HT.out.ll; omega) HT.out.l64 hb0).mono ?_
    rintro e w1 ⟨rfl, p1, b1⟩
    have P1 : Hid (Dap g g (headW false leak) w1) := Lib.hid p1
    have W1 := Lib.hid (B0.out.trans b1.b)
    have hz1 : g < w1.heap.size := Nat.lt_of_lt_of_le hb0 b1.size
    clear p1 b1 P0 B0 hb0
    have k1 : w1.cell? ⟨w.heap.size, 1, none⟩ = some (.slice ca cs.length cc) := bcl (by rw [← HXs.out]; exact W1.out) RX.out.lt (RX.out.cell (j := 1) (v := .slice ca cs.length cc) rfl)
    go_wp2
    go_loopw [17] (fun i wr => ∃ k : Nat, i = .int .i64 k ∧ k ≤ cs.length ∧ Hid (Dap g g (headW false leak ++ (cs.take k).flatMap cellW) wr) ∧ Hid (Below g X wr) ∧ g < wr.heap.size) (fun i _ => cs.length - (intOf i).toNat)
    case atStart => exact ⟨0, rfl, Nat.zero_le _, by rw [List.take_zero, List.flatMap_nil, List.append_nil]; exact P1, W1, hz1⟩
    case round =>
      obtain ⟨k, rfl, hk, HP, WD, hgz⟩ := hrel
      clear k1 P1 W1 hz1
      by_cases hlt : k < cs.length
      · have hli : (k : Int) < cs.length := by omega
        obtain ⟨b, off, cap, e1, hcap, hbw, hc⟩ := HC.out.open (by omega)
        cases e1
        obtain ⟨ao, oc, hra, hso⟩ := hc k hlt
        have hWX : Below X.heap.size X wr := by rw [← HXs.out]; exact WD.out
        have RA := Lib.hid (range_up hra hWX hbw)
        have HO16 := Lib.hid (HT.out.ol cs[k] (List.getElem_mem hlt))
        have HO64 := Lib.hid (HT.out.o64 cs[k] (List.getElem_mem hlt))
        have HSO := Lib.hid hso
        have HTK := Lib.hid (flat_take cellW cs k hlt)
        have hfl : ((cs.take k).flatMap cellW).length ≤ 400 * (cs.take k).length := flat_len (fun x hx => cellW_len (HT.out.ol x (mem_takeD hx)) (HT.out.o64 x (mem_takeD hx)))
        have HFL : Hid ((headW false leak ++ (cs.take k).flatMap cellW).length ≤ 4000) := Lib.hid (by have := headW_len (sound := false) HT.out.ll HT.out.l64; rw [List.length_take] at hfl; rw [List.length_append]; omega)
        obtain ⟨y, HY⟩ : ∃ y, Hid (headW false leak ++ (cs.take k).flatMap cellW = y) := ⟨_, Lib.hid rfl⟩
        rw [HY.out] at HP HFL
        generalize hd : cs[k] = d at RA HSO HTK HO16 HO64
        obtain ⟨c, out⟩ := d
        simp only at RA HSO HO16 HO64
        clear hra hso hc hd hfl hWX
        go_wp2_with (first | (refine wpList_load_midA rfl 77 (.tmp 19) rfl b (off + k * 16) rfl (c.cs (.slice ao out.length oc)) _ RA.out Tryz.underlying77 rfl sizeCell ?_) | (refine wpList_store_rowW rfl 77 (.tmp 9) (.tmp 20) rfl wr.heap.size (c.cs (.slice ao out.length oc)) rfl rfl 77 (celZ.cs (.slice none 0 0)) (by repeat (first | exact Rw.new _ _ _ (by first | rfl | (simp; done) | omega | (simp; omega)) | refine Rw.alloc ?_ _)) sizeCell rfl (Cel.cs_one _ _ rfl) ?_))
        intro W HW
        have RW : Hid (Rw W wr.heap.size 77 (c.cs (.slice ao out.length oc))) := by
          show Rw _ _ _ _
          rw [HW.out]
          exact Rw.row (cs := celZ.cs (.slice none 0 0)) (by repeat (first | exact Rw.new _ _ _ (by first | rfl | (simp; done) | omega | (simp; omega)) | refine Rw.alloc ?_ _)) _
        have b0 : Below wr.heap.size wr W := by
          rw [HW.out]
          exact below_row ((Below.refl _ _).alloc (Nat.le_refl _) _) (Nat.le_refl _) _
        have HPW := Lib.hid (HP.out.up b0)
        have WDW := Lib.hid (WD.out.trans (b0.mono (by omega)))
        have hgW : g < W.heap.size := Nat.lt_of_lt_of_le hgz b0.size
        have q14 := RW.out.cell (j := 14) (v := .slice ao out.length oc) rfl
        have q15 := RW.out.cell (j := 15) (v := .int .i64 c.en) rfl
        clear HW RA b0 HP WD hgz
        go_wp2
        go_region_with (first
          | (go_at_call 54; refine (dword_any c.en _).mono ?_; rintro e w3 ⟨rfl, rfl⟩)
          | (go_at_call 53; refine (dline_any g g y (wordW c.en) out _ X _ HEX.out HXs.out (WDW.out.trans (by exact Below.drew (Below.refl _ _))) HSO.out (HPW.out.up (Below.drew (Below.refl _ _))) (by have := HFL.out; omega) (by have := wordW_len c.en; omega) (by have := HO16.out; omega) HO64.out hgW).mono ?_; rintro e w4 ⟨rfl, p4, b4⟩; have P4 := Lib.hid p4; have B4 := Lib.hid ((WDW.out.trans (Below.drew (Below.refl _ _))).trans b4.b); have hg4 : g < w4.heap.size := Nat.lt_of_lt_of_le hgW b4.size; clear b4 p4))
        all_goals
          go_wp2
          go_roundw
          case rel => exact ⟨k + 1, by go_num, by omega, by rw [HTK.out, ← List.append_assoc, HY.out]; exact P4, B4, hg4⟩
          case measure => simp [intOf]; omega
      · obtain rfl : k = cs.length := by omega
        have hli : ¬ ((cs.length : Int) < cs.length) := by omega
        have P2 : Dap g g (headW false leak ++ (cs.take cs.length).flatMap cellW) wr := HP.out
        rw [List.take_length] at P2
        have HP2 := Lib.hid P2
        have HNE : Hid (headW false leak ++ cs.flatMap cellW ≠ []) := Lib.hid (by have := headW_ne false leak; simp [this])
        have HBW := Lib.hid (BX.out.trans (WD.out.mono (by have := HG.out; omega)))
        clear P2 HP
        go_wp2_with fail
        refine (bldString_any _ g g _ _ HP2.out.1 HNE.out).mono ?_
        rintro e w5 ⟨rfl, b5⟩
        go_wp2
        go_ret
        exact ⟨rfl, HBW.out.trans (b5.mono (by have := HG.out; omega))⟩
  · go_wp2_with fail
    rw [HX.out, HG.out]
    refine (dline_any g g [] [115, 111, 117, 110, 100] [] _ X _ HEX.out HXs.out B0.out ⟨rfl, none, 0, rfl, Nat.le_refl _, fun h => absurd h (by decide)⟩ P0.out (by decide) (by decide) (by decide) (fun n hn => nomatch hn) hb0).mono ?_
    rintro e w1 ⟨rfl, p1, b1⟩
    have P1 : Hid (Dap g g (headW true leak) w1) := Lib.hid p1
    have W1 := Lib.hid (B0.out.trans b1.b)
    have hz1 : g < w1.heap.size := Nat.lt_of_lt_of_le hb0 b1.size
    clear p1 b1 P0 B0 hb0
    have k1 : w1.cell? ⟨w.heap.size, 1, none⟩ = some (.slice ca cs.length cc) := bcl (by rw [← HXs.out]; exact W1.out) RX.out.lt (RX.out.cell (j := 1) (v := .slice ca cs.length cc) rfl)
    go_wp2
    go_loopw [17] (fun i wr => ∃ k : Nat, i = .int .i64 k ∧ k ≤ cs.length ∧ Hid (Dap g g (headW true leak ++ (cs.take k).flatMap cellW) wr) ∧ Hid (Below g X wr) ∧ g < wr.heap.size) (fun i _ => cs.length - (intOf i).toNat)
    case atStart => exact ⟨0, rfl, Nat.zero_le _, by rw [List.take_zero, List.flatMap_nil, List.append_nil]; exact P1, W1, hz1⟩
    case round =>
      obtain ⟨k, rfl, hk, HP, WD, hgz⟩ := hrel
      clear k1 P1 W1 hz1
      by_cases hlt : k < cs.length
      · have hli : (k : Int) < cs.length := by omega
        obtain ⟨b, off, cap, e1, hcap, hbw, hc⟩ := HC.out.open (by omega)
        cases e1
        obtain ⟨ao, oc, hra, hso⟩ := hc k hlt
        have hWX : Below X.heap.size X wr := by rw [← HXs.out]; exact WD.out
        have RA := Lib.hid (range_up hra hWX hbw)
        have HO16 := Lib.hid (HT.out.ol cs[k] (List.getElem_mem hlt))
        have HO64 := Lib.hid (HT.out.o64 cs[k] (List.getElem_mem hlt))
        have HSO := Lib.hid hso
        have HTK := Lib.hid (flat_take cellW cs k hlt)
        have hfl : ((cs.take k).flatMap cellW).length ≤ 400 * (cs.take k).length := flat_len (fun x hx => cellW_len (HT.out.ol x (mem_takeD hx)) (HT.out.o64 x (mem_takeD hx)))
        have HFL : Hid ((headW true leak ++ (cs.take k).flatMap cellW).length ≤ 4000) := Lib.hid (by have := headW_len (sound := true) HT.out.ll HT.out.l64; rw [List.length_take] at hfl; rw [List.length_append]; omega)
        obtain ⟨y, HY⟩ : ∃ y, Hid (headW true leak ++ (cs.take k).flatMap cellW = y) := ⟨_, Lib.hid rfl⟩
        rw [HY.out] at HP HFL
        generalize hd : cs[k] = d at RA HSO HTK HO16 HO64
        obtain ⟨c, out⟩ := d
        simp only at RA HSO HO16 HO64
        clear hra hso hc hd hfl hWX
        go_wp2_with (first | (refine wpList_load_midA rfl 77 (.tmp 19) rfl b (off + k * 16) rfl (c.cs (.slice ao out.length oc)) _ RA.out Tryz.underlying77 rfl sizeCell ?_) | (refine wpList_store_rowW rfl 77 (.tmp 9) (.tmp 20) rfl wr.heap.size (c.cs (.slice ao out.length oc)) rfl rfl 77 (celZ.cs (.slice none 0 0)) (by repeat (first | exact Rw.new _ _ _ (by first | rfl | (simp; done) | omega | (simp; omega)) | refine Rw.alloc ?_ _)) sizeCell rfl (Cel.cs_one _ _ rfl) ?_))
        intro W HW
        have RW : Hid (Rw W wr.heap.size 77 (c.cs (.slice ao out.length oc))) := by
          show Rw _ _ _ _
          rw [HW.out]
          exact Rw.row (cs := celZ.cs (.slice none 0 0)) (by repeat (first | exact Rw.new _ _ _ (by first | rfl | (simp; done) | omega | (simp; omega)) | refine Rw.alloc ?_ _)) _
        have b0 : Below wr.heap.size wr W := by
          rw [HW.out]
          exact below_row ((Below.refl _ _).alloc (Nat.le_refl _) _) (Nat.le_refl _) _
        have HPW := Lib.hid (HP.out.up b0)
        have WDW := Lib.hid (WD.out.trans (b0.mono (by omega)))
        have hgW : g < W.heap.size := Nat.lt_of_lt_of_le hgz b0.size
        have q14 := RW.out.cell (j := 14) (v := .slice ao out.length oc) rfl
        have q15 := RW.out.cell (j := 15) (v := .int .i64 c.en) rfl
        clear HW RA b0 HP WD hgz
        go_wp2
        go_region_with (first
          | (go_at_call 54; refine (dword_any c.en _).mono ?_; rintro e w3 ⟨rfl, rfl⟩)
          | (go_at_call 53; refine (dline_any g g y (wordW c.en) out _ X _ HEX.out HXs.out (WDW.out.trans (by exact Below.drew (Below.refl _ _))) HSO.out (HPW.out.up (Below.drew (Below.refl _ _))) (by have := HFL.out; omega) (by have := wordW_len c.en; omega) (by have := HO16.out; omega) HO64.out hgW).mono ?_; rintro e w4 ⟨rfl, p4, b4⟩; have P4 := Lib.hid p4; have B4 := Lib.hid ((WDW.out.trans (Below.drew (Below.refl _ _))).trans b4.b); have hg4 : g < w4.heap.size := Nat.lt_of_lt_of_le hgW b4.size; clear b4 p4))
        all_goals
          go_wp2
          go_roundw
          case rel => exact ⟨k + 1, by go_num, by omega, by rw [HTK.out, ← List.append_assoc, HY.out]; exact P4, B4, hg4⟩
          case measure => simp [intOf]; omega
      · obtain rfl : k = cs.length := by omega
        have hli : ¬ ((cs.length : Int) < cs.length) := by omega
        have P2 : Dap g g (headW true leak ++ (cs.take cs.length).flatMap cellW) wr := HP.out
        rw [List.take_length] at P2
        have HP2 := Lib.hid P2
        have HNE : Hid (headW true leak ++ cs.flatMap cellW ≠ []) := Lib.hid (by have := headW_ne true leak; simp [this])
        have HBW := Lib.hid (BX.out.trans (WD.out.mono (by have := HG.out; omega)))
        clear P2 HP
        go_wp2_with fail
        refine (bldString_any _ g g _ _ HP2.out.1 HNE.out).mono ?_
        rintro e w5 ⟨rfl, b5⟩
        go_wp2
        go_ret
        exact ⟨rfl, HBW.out.trans (b5.mono (by have := HG.out; omega))⟩
end Go.Proofs.YtbkdoohhdkahiaaGreatDoor
namespace Go.Proofs.YtbkdoohhdkahiaaGreatDoor
set_option linter.unusedSimpArgs false
set_option linter.unusedVariables false
open Go.RowKit Go.Sort Go.Shelf Go.Lib Go.Maps
theorem ent_wide : Enters 33 := enters Tryz.func33 (by kernel_rfl) (by kernel_rfl)
def wideL : List Edg := [⟨0, 1⟩, ⟨0, 2⟩, ⟨1, 0⟩, ⟨1, 2⟩]
def certW : List (List Int) := [[0, 1], [0, 1], [0, 1, 2], [3]]
set_option maxHeartbeats 1000000 in
theorem wide_any (w : World) : Calls Tryz.prog 33 #[] w fun e w' => ∃ v, e = .returned (.agg #[v]) ∧ Sl w' 2 v wideL.length (rowC Edg.cells wideL) ∧ RowKit.Below w.heap.size w w' := by
  go_enter Tryz.func33, Tryz.ntmps33
  go_wp2
  refine bodyPost_ret (v := .agg #[.slice (some ⟨w.heap.size + 1, 0, none⟩) 4 4]) (by simp [results, Tryz.f33, go_sem]) rfl ⟨_, rfl, ?_, up0⟩
  first
    | exact lit_sl _ (rowC Edg.cells wideL) _ _ 4 2 (by simp) rfl
    | exact (lit_sl _ (rowC Edg.cells wideL) _ _ 4 2 (by simp) rfl).set _ (by simp [Value.ownBlock])
theorem getD_at {α : Type} {l : List α} {j : Nat} {d : α} (h : j < l.length) : l.getD j d = l[j] := by simp [List.getD, h]
def polC (n : Nat) (L : List Edg) : Bool := (List.range L.length).all fun j => withinB (L.getD j ⟨0, 0⟩).fr 0 ((n : Int) - 1) && withinB (L.getD j ⟨0, 0⟩).tt 0 ((n : Int) - 1) && !((L.getD j ⟨0, 0⟩).fr == (L.getD j ⟨0, 0⟩).tt) && (j == 0 || ltEB (L.getD (j - 1) ⟨0, 0⟩) (L.getD j ⟨0, 0⟩))
theorem polC_up {n : Nat} {L : List Edg} (h : polC n L = true) : PolUp n L L.length := by
  intro j hj _
  have := List.all_eq_true.1 h j (List.mem_range.2 hj)
  simp only [getD_at hj, getD_at (show j - 1 < L.length by omega), Bool.and_eq_true, Bool.not_eq_true', Bool.or_eq_true, beq_iff_eq, beq_eq_false_iff_ne] at this
  exact ⟨⟨this.1.1.1, this.1.1.2, this.1.2⟩, fun h0 => this.2.resolve_left (by omega)⟩
def setC (n : Nat) (l : List Int) : Bool := (List.range l.length).all fun j => withinB (l.getD j 0) 0 ((n : Int) - 1) && (j == 0 || decide (l.getD (j - 1) 0 < l.getD j 0))
theorem pol_w : polE relayS wideL = 0 := polE_zero relay_chk (polB_true (polC_up (by decide +kernel)))
theorem leak_w : leakL relayS wideL = [] := by decide +kernel
theorem cert_w : certO relayS wideL = ⟨certW, [], true⟩ := by
  unfold certO certG
  rw [if_pos pol_w, leak_w]
  have : certS relayS = certW := by decide +kernel
  show (⟨certS relayS, [], true⟩ : CertOut) = _
  rw [this]
end Go.Proofs.YtbkdoohhdkahiaaGreatDoor
namespace Go.Proofs.YtbkdoohhdkahiaaGreatDoor
set_option linter.unusedSimpArgs false
set_option linter.unusedVariables false
open Go.RowKit Go.Sort Go.Shelf Go.Lib Go.Maps
theorem pol_len {S : SysD} {L : List Edg} (h : polE S L = 0) : S.parts.length ≤ 4 ∧ S.chans.length ≤ 6 ∧ L.length ≤ 16 := by
  obtain ⟨hch, hpu⟩ := polE_is h
  obtain ⟨h4, _, hcl, _⟩ := chk_flow hch
  exact ⟨h4, hcl, polUp_len h4 hpu (Nat.le_refl _)⟩
end Go.Proofs.YtbkdoohhdkahiaaGreatDoor
namespace Go.Proofs.YtbkdoohhdkahiaaGreatDoor
set_option linter.unusedSimpArgs false
set_option linter.unusedVariables false
open Go.RowKit Go.Sort Go.Shelf Go.Lib Go.Maps
end Go.Proofs.YtbkdoohhdkahiaaGreatDoor
namespace Go.Proofs.YtbkdoohhdkahiaaGreatDoor
set_option linter.unusedSimpArgs false
set_option linter.unusedVariables false
open Go.RowKit Go.Sort Go.Shelf Go.Lib Go.Maps
def TabI (w : World) (B : Nat) (v : Value) (f : Nat → List Int) (k : Nat) : Prop :=
  ∃ vs : List Value, vs.length = k ∧ w.ownsRow B 41 1 v k vs ∧ ∀ a (h : a < vs.length), Sl w 1 vs[a] (f a).length (ints (f a)) ∧ ∀ b, vs[a].ownBlock = some b → B ≤ b ∧ v.ownBlock ≠ some b ∧ b < w.heap.size
theorem TabI.up {w w' : World} {B : Nat} {v : Value} {f : Nat → List Int} {k : Nat} (h : TabI w B v f k) (hb : RowKit.Below w.heap.size w w') : TabI w' B v f k := by
  obtain ⟨vs, h1, h2, h3⟩ := h
  exact ⟨vs, h1, own_upF h2 hb, fun a ha => ⟨(h3 a ha).1.up hb, fun b e => ⟨((h3 a ha).2 b e).1, ((h3 a ha).2 b e).2.1, Nat.lt_of_lt_of_le ((h3 a ha).2 b e).2.2 hb.size⟩⟩⟩
theorem TabI.set {w : World} {B : Nat} {v : Value} {f : Nat → List Int} {k c j : Nat} (h : TabI w B v f k) (hc : c < B) (u : Value) : TabI (w.setCell ⟨c, j, none⟩ u) B v f k := by
  obtain ⟨vs, h1, h2, h3⟩ := h
  refine ⟨vs, h1, own_set h2 u (fun e => by have := own_block h2 c e; omega), fun a ha => ⟨(h3 a ha).1.set u (fun e => by have := ((h3 a ha).2 c e).1; omega), fun b e => ⟨((h3 a ha).2 b e).1, ((h3 a ha).2 b e).2.1, by rw [size_set]; exact ((h3 a ha).2 b e).2.2⟩⟩⟩
theorem TabI.add {w w' : World} {B : Nat} {v : Value} {f : Nat → List Int} {k g cap : Nat} {x : Value} {vs : List Value} (h1 : vs.length = k) (h3 : ∀ a (h : a < vs.length), Sl w 1 vs[a] (f a).length (ints (f a)) ∧ ∀ b, vs[a].ownBlock = some b → B ≤ b ∧ v.ownBlock ≠ some b ∧ b < w.heap.size)
    (ho : w'.ownsRow B 41 1 (.slice (some ⟨g, 0, none⟩) (k + 1) cap) (k + 1) (vs ++ [x])) (hg : w.grownBy w' v.ownBlock) (hat : v.ownBlock = some g ∨ g = w.heap.size) (hx : Sl w 1 x (f k).length (ints (f k))) (hxb : ∀ b, x.ownBlock = some b → B ≤ b ∧ v.ownBlock ≠ some b ∧ b < w.heap.size) :
    TabI w' B (.slice (some ⟨g, 0, none⟩) (k + 1) cap) f (k + 1) := by
  have far : ∀ b, B ≤ b ∧ v.ownBlock ≠ some b ∧ b < w.heap.size → B ≤ b ∧ (Value.slice (some ⟨g, 0, none⟩) (k + 1) cap).ownBlock ≠ some b ∧ b < w'.heap.size := fun b ⟨e0, e1, e2⟩ => ⟨e0, fun e => by
    simp [Value.ownBlock] at e
    subst e
    rcases hat with hat | hat
    · exact e1 hat
    · omega, Nat.lt_of_lt_of_le e2 hg.size⟩
  refine ⟨vs ++ [x], by simp [h1], ho, fun a ha => ?_⟩
  by_cases hak : a < vs.length
  · rw [List.getElem_append_left hak]
    exact ⟨flSl_grown (h3 a hak).1 hg (fun b e => ((h3 a hak).2 b e).2.1), fun b e => far b ((h3 a hak).2 b e)⟩
  · have : a = k := by simp at ha; omega
    subst this
    rw [List.getElem_append_right (by omega)]
    simp only [h1, Nat.sub_self, List.getElem_cons_zero]
    exact ⟨flSl_grown hx hg (fun b e => (hxb b e).2.1), fun b e => far b (hxb b e)⟩
theorem TabI.f {w : World} {B C : Nat} {v : Value} {f : Nat → List Int} {k : Nat} (h : TabI w B v f k) (hc : C ≤ B) : SetsF C w v ((List.range k).map f) := by
  obtain ⟨vs, h1, h2, h3⟩ := h
  refine ⟨vs, by simp [h1], by simpa using own_sl h2, fun b e => Nat.le_trans hc (own_block h2 b e), fun a ha ha' => ?_⟩
  have := (h3 a ha).1
  exact ⟨by simpa using this, fun b e => Nat.le_trans hc ((h3 a ha).2 b e).1⟩
theorem TabI.form {w : World} {B : Nat} {v : Value} {f : Nat → List Int} {k : Nat} (h : TabI w B v f k) : ∃ ao cap, v = .slice ao k cap := let ⟨_, _, h2, _⟩ := h; own_form h2
theorem TabI.lt {w : World} {B : Nat} {v : Value} {f : Nat → List Int} {k b : Nat} (h : TabI w B v f k) (e : v.ownBlock = some b) : b < w.heap.size := let ⟨_, _, h2, _⟩ := h; (h2.lt b e).2
end Go.Proofs.YtbkdoohhdkahiaaGreatDoor
namespace Go.Proofs.YtbkdoohhdkahiaaGreatDoor
set_option linter.unusedSimpArgs false
set_option linter.unusedVariables false
open Go.RowKit Go.Sort Go.Shelf Go.Lib Go.Maps
theorem pathL_len {S : SysD} {a b : Int} : (pathL S a b).length ≤ S.parts.length + 1 := by
  have hf : ∀ n x, (fwd S b n x).length ≤ n + 1 := by
    intro n
    induction n with
    | zero => intro x; simp [fwd]
    | succ n ih =>
      intro x
      rw [fwd]
      split
      · rename_i c _
        have := ih c
        simp
        omega
      · simp
  unfold pathL
  split
  · rename_i n hn
    have := hf n a
    unfold pathN at hn
    have := List.mem_range.1 (List.mem_of_find?_eq_some hn)
    omega
  · simp
end Go.Proofs.YtbkdoohhdkahiaaGreatDoor

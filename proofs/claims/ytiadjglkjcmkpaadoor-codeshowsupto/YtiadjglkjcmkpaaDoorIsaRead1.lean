/- A part of the proofs over this seat's laws: what a function of the program, or of the reference, answers and leaves, told by its theorems below. -/
import Derived.Test.YtiadjglkjcmkpaaDoorIsaText
namespace Go.Proofs.YtiadjglkjcmkpaaDoor
set_option linter.unusedSimpArgs false
set_option linter.unusedVariables false
open Go.RowKit Go.Sort

/-- A text by its letters. -/
def S (l : List UInt8) : Value := .string ⟨l.toArray⟩

theorem cut_len (l sep : List UInt8) : (Lib.cut l sep).1.length ≤ l.length ∧ (Lib.cut l sep).2.1.length ≤ l.length := by
  unfold Lib.cut
  split
  · exact ⟨List.length_take_le' _ _, by simp⟩
  · exact ⟨Nat.le_refl _, Nat.zero_le _⟩

theorem cutL (l sep : List UInt8) (w : World) (he : Env w) (hs : l.length < 4294967281) : Calls Tryd.prog 43 #[.string ⟨l.toArray⟩, .string ⟨sep.toArray⟩] w fun e w' => e = .returned (.tuple #[.string ⟨(Lib.cut l sep).1.toArray⟩, .string ⟨(Lib.cut l sep).2.1.toArray⟩, .bool (Lib.cut l sep).2.2]) ∧ Below w.heap.size w w' :=
  cut_any ⟨l.toArray⟩ ⟨sep.toArray⟩ w he (by simpa [ByteArray.size] using hs)

theorem number_any (l : List UInt8) (w : World) (he : Env w) (hs : l.length < 4294967281) : Calls Tryd.prog 46 #[.string ⟨l.toArray⟩] w fun e w' => e = .returned (.tuple #[.int .i64 (numOf (Lib.cut l [32]).1), .string ⟨(Lib.cut l [32]).2.1.toArray⟩]) ∧ Below w.heap.size w w' := by
  have hl := (cut_len l [32]).1
  go_enter Tryd.func46, Tryd.ntmps46
  go_wp2_with fail
  refine (cutL l [32] _ he hs).mono ?_
  rintro e w1 ⟨rfl, hb1⟩
  have he1 := he.up hb1
  go_wp2_with fail
  refine (atoi_any ⟨(Lib.cut l [32]).1.toArray⟩ _ he1 (by simp [ByteArray.size]; omega)).mono ?_
  rintro e w2 ⟨h, hb2⟩
  rcases h with ⟨v, hv, rfl⟩ | ⟨hv, z, p, rfl⟩
  · have hv' : numOf (Lib.cut l [32]).1 = v := by unfold numOf; rw [show Lib.atoiAll (Lib.cut l [32]).1 = _ from hv]
    have HV := Lib.hid hv'
    clear hv hv'
    go_wp2
    go_ret2
    exact ⟨by rw [HV.out]; rfl, hb1.trans (hb2.mono hb1.size)⟩
  · have hv' : numOf (Lib.cut l [32]).1 = 0 := hv
    have HV := Lib.hid hv'
    clear hv hv'
    go_wp2
    go_ret2
    exact ⟨by rw [HV.out]; rfl, hb1.trans (hb2.mono hb1.size)⟩

/-- The operation of a word, 0 if there is none. -/
def namedF (l : List UInt8) : Nat := ((List.range 16).find? fun k => 1 ≤ k && rowW k == l).getD 0

theorem namedF_at (l : List UInt8) (k : Nat) (h1 : 1 ≤ k) (hk : k < 16) (hno : ∀ j, 1 ≤ j → j < k → rowW j ≠ l) (h : rowW k = l) : namedF l = k := by
  unfold namedF
  have : (List.range 16).find? (fun k => 1 ≤ k && rowW k == l) = some k := by
    rw [List.find?_range_eq_some]
    refine ⟨by simp [h, h1], by simp; omega, ?_⟩
    intro j hj
    by_cases h0 : 1 ≤ j
    · simp [hno j h0 hj]
    · simp; omega
  rw [this]; rfl

theorem namedF_none (l : List UInt8) (hno : ∀ j, 1 ≤ j → j < 16 → rowW j ≠ l) : namedF l = 0 := by
  unfold namedF
  have : (List.range 16).find? (fun k => 1 ≤ k && rowW k == l) = none := by
    rw [List.find?_range_eq_none]
    intro j hj
    by_cases h0 : 1 ≤ j
    · simp [hno j h0 hj]
    · simp; omega
  rw [this]; rfl

set_option maxHeartbeats 1000000 in
theorem named_any (l : List UInt8) (w : World) (hs : Shp w) : Calls Tryd.prog 45 #[.string ⟨l.toArray⟩] w fun e w' => e = .returned (.int .i64 (namedF l)) ∧ w' = w := by
  have hz := hs.size
  go_enter Tryd.func45, Tryd.ntmps45
  go_wp2
  go_loop [3] (fun i => ∃ k : Nat, 1 ≤ k ∧ k ≤ 16 ∧ i = .int .i64 k ∧ ∀ j, 1 ≤ j → j < k → rowW j ≠ l) (fun i => 16 - (intOf i).toNat)
  case atStart => exact ⟨1, by omega, by omega, rfl, fun j h1 h2 => by omega⟩
  case round =>
    obtain ⟨k, hk1, hk2, rfl, hno⟩ := hrel
    have HN := Lib.hid hno
    clear hno
    by_cases hlt : k < 16
    · have q0 := hs.c0 k hlt
      by_cases hq : rowW k = l
      · have hq' : (rowW k == l) = true := by simp [hq]
        have HF := Lib.hid (namedF_at l k hk1 hlt HN.out hq)
        clear hq
        go_wp2
        go_ret
        exact ⟨by rw [HF.out]; rfl, rfl⟩
      · have hq' : (rowW k == l) = false := by simp [hq]
        have HQ := Lib.hid hq
        clear hq
        go_wp2
        go_round
        case rel => exact ⟨k + 1, by omega, by omega, by go_num, fun j h1 h2 => by
          by_cases e : j = k
          · subst e; exact HQ.out
          · exact HN.out j h1 (by omega)⟩
        case measure => simp [intOf]; omega
    · obtain rfl : k = 16 := by omega
      have HF := Lib.hid (namedF_none l HN.out)
      go_wp2
      go_ret
      exact ⟨by rw [HF.out]; rfl, rfl⟩

/- A part of the proofs over this seat's laws: what a function of the program, or of the reference, answers and leaves, told by its theorems below. -/
import Derived.Test.YtiadjglkjcmkpaaDoorIsaDig
import Derived.Deep.RegionWith
import Derived.Deep.DrawnRows
namespace Go.Proofs.YtiadjglkjcmkpaaDoor
set_option linter.unusedSimpArgs false
set_option linter.unusedVariables false
open Go.RowKit Go.Sort

theorem words_any (w : World) : Calls Tryd.prog 32 #[] w fun e w' => e = .returned (.slice (some ⟨w.heap.size, 0, none⟩) 16 16) ∧ (∀ k, k < 16 → w'.cell? ⟨w.heap.size, k, none⟩ = some (.string ⟨(rowW k).toArray⟩)) ∧ w.heap.size < w'.heap.size ∧ Below w.heap.size w w' := by
  go_enter Tryd.func32, Tryd.ntmps32
  go_wp2
  go_ret
  refine ⟨rfl, ?_, by simp, (by repeat (first | exact Below.refl _ _ | assumption | refine Below.drew ?_ | refine Below.alloc ?_ (by simp) _ | refine Below.setCell ?_ (by simp) _))⟩
  intro k hk
  have : ∀ k, k < 16 → (#[Value.string ⟨(rowW 0).toArray⟩, .string ⟨(rowW 1).toArray⟩, .string ⟨(rowW 2).toArray⟩, .string ⟨(rowW 3).toArray⟩, .string ⟨(rowW 4).toArray⟩, .string ⟨(rowW 5).toArray⟩, .string ⟨(rowW 6).toArray⟩, .string ⟨(rowW 7).toArray⟩, .string ⟨(rowW 8).toArray⟩, .string ⟨(rowW 9).toArray⟩, .string ⟨(rowW 10).toArray⟩, .string ⟨(rowW 11).toArray⟩, .string ⟨(rowW 12).toArray⟩, .string ⟨(rowW 13).toArray⟩, .string ⟨(rowW 14).toArray⟩, .string ⟨(rowW 15).toArray⟩])[k]? = some (Value.string ⟨(rowW k).toArray⟩) := by
    intro k hk
    match k, hk with
    | 0, _ => rfl
    | 1, _ => rfl
    | 2, _ => rfl
    | 3, _ => rfl
    | 4, _ => rfl
    | 5, _ => rfl
    | 6, _ => rfl
    | 7, _ => rfl
    | 8, _ => rfl
    | 9, _ => rfl
    | 10, _ => rfl
    | 11, _ => rfl
    | 12, _ => rfl
    | 13, _ => rfl
    | 14, _ => rfl
    | 15, _ => rfl
    | k + 16, h => omega
  rw [World.cell?_alloc_new]
  exact this k hk

theorem ba_app2 (c : UInt8) (m : List UInt8) : (⟨m.toArray⟩ : ByteArray) ++ ⟨#[c]⟩ = ⟨(m ++ [c]).toArray⟩ := by
  apply ByteArray.ext; simp

set_option maxHeartbeats 2000000 in
set_option maxRecDepth 100000 in
theorem text_any (k : Nat) (hk1 : 1 ≤ k) (hk : k < 16) (a b n : Int) (ha : in64 a) (hb : in64 b) (hn : in64 n) (w : World) : Calls Tryd.prog 11 #[.agg #[.int .i64 k, .int .i64 a, .int .i64 b, .int .i64 n]] w fun e w' => e = .returned (.string ⟨(txt k a b n).toArray⟩) ∧ Below w.heap.size w w' := by
  have hlw : (rowW k).length ≤ 4 := rowW_le k hk
  have hla := Lib.itoa_length_le a ha.1 ha.2
  have hlb := Lib.itoa_length_le b hb.1 hb.2
  have hln := Lib.itoa_length_le n hn.1 hn.2
  have i1 : (0 : Int) ≤ k := by omega
  have i2 : (k : Int) < 16 := by omega
  go_enter Tryd.func11, Tryd.ntmps11
  go_wp2_with fail
  go_region_with (first | (go_at_call 32; refine (words_any _).mono ?_; rintro e w1 ⟨rfl, hcs, hsz, hb0⟩; have hc0 : w1.cell? ⟨w.heap.size + 1, k, none⟩ = some (.string ⟨(rowW k).toArray⟩) := (by have := hcs k hk; simpa using this); have hp0 : w1.cell? ⟨w.heap.size, 0, none⟩ = some (.int .i64 k) := (hb0.cell (by simp)).trans (by simp)))
  all_goals
    have r1 : w1.cell? ⟨w.heap.size, 1, none⟩ = some (.int .i64 a) := (hb0.cell (by simp)).trans (by simp)
    have r2 : w1.cell? ⟨w.heap.size, 2, none⟩ = some (.int .i64 b) := (hb0.cell (by simp)).trans (by simp)
    have r3 : w1.cell? ⟨w.heap.size, 3, none⟩ = some (.int .i64 n) := (hb0.cell (by simp)).trans (by simp)
    have hup : Below w.heap.size w w1 := by refine Below.trans ?_ (hb0.mono (by simp)); exact (by repeat (first | exact Below.refl _ _ | assumption | refine Below.drew ?_ | refine Below.alloc ?_ (by simp) _ | refine Below.setCell ?_ (by simp) _))
    have hz : w.heap.size < w1.heap.size := by have := hb0.size; simp at this; omega
    clear hb0 hcs hsz
    go_wp2_with (first | (go_at_call 30; refine (has_any _ _).mono ?_; rw [Int.toNat_natCast]; rintro e w' ⟨rfl, rfl⟩) | (go_at_call 33; refine (digits_any _ ?_ _).mono ?_; (first | exact ha | exact hb | exact hn); rintro e w2 ⟨rfl, hb2⟩; refine Hid.out ?_))
  all_goals try (go_ret; refine ⟨?_, hup⟩; (simp [txt, ba_app, ba_app1, ba_app2, *]; done))
  all_goals
    have r2 := (hb2.cell (p := ⟨w.heap.size, 2, none⟩) hz).trans r2
    have r3 := (hb2.cell (p := ⟨w.heap.size, 3, none⟩) hz).trans r3
    have hup : Below w.heap.size w w2 := hup.trans (hb2.mono (Nat.le_of_lt hz))
    have hz : w.heap.size < w2.heap.size := Nat.lt_of_lt_of_le hz hb2.size
    refine Lib.hid ?_
    go_wp2_with (first | (go_at_call 30; refine (has_any _ _).mono ?_; rw [Int.toNat_natCast]; rintro e w' ⟨rfl, rfl⟩) | (go_at_call 33; refine (digits_any _ ?_ _).mono ?_; (first | exact ha | exact hb | exact hn); rintro e w2 ⟨rfl, hb2⟩; refine Hid.out ?_))
  all_goals try (go_ret; refine ⟨?_, hup⟩; (simp [txt, ba_app, ba_app1, ba_app2, *]; done))
  all_goals
    have r2 := (hb2.cell (p := ⟨w.heap.size, 2, none⟩) hz).trans r2
    have r3 := (hb2.cell (p := ⟨w.heap.size, 3, none⟩) hz).trans r3
    have hup : Below w.heap.size w w2 := hup.trans (hb2.mono (Nat.le_of_lt hz))
    have hz : w.heap.size < w2.heap.size := Nat.lt_of_lt_of_le hz hb2.size
    refine Lib.hid ?_
    go_wp2_with (first | (go_at_call 30; refine (has_any _ _).mono ?_; rw [Int.toNat_natCast]; rintro e w' ⟨rfl, rfl⟩) | (go_at_call 33; refine (digits_any _ ?_ _).mono ?_; (first | exact ha | exact hb | exact hn); rintro e w2 ⟨rfl, hb2⟩; refine Hid.out ?_))
  all_goals try (go_ret; refine ⟨?_, hup⟩; (simp [txt, ba_app, ba_app1, ba_app2, *]; done))
  all_goals
    have r2 := (hb2.cell (p := ⟨w.heap.size, 2, none⟩) hz).trans r2
    have r3 := (hb2.cell (p := ⟨w.heap.size, 3, none⟩) hz).trans r3
    have hup : Below w.heap.size w w2 := hup.trans (hb2.mono (Nat.le_of_lt hz))
    have hz : w.heap.size < w2.heap.size := Nat.lt_of_lt_of_le hz hb2.size
    refine Lib.hid ?_
    go_wp2_with (first | (go_at_call 30; refine (has_any _ _).mono ?_; rw [Int.toNat_natCast]; rintro e w' ⟨rfl, rfl⟩) | (go_at_call 33; refine (digits_any _ ?_ _).mono ?_; (first | exact ha | exact hb | exact hn); rintro e w2 ⟨rfl, hb2⟩; refine Hid.out ?_))
  all_goals (go_ret; refine ⟨?_, hup⟩; simp [txt, ba_app, ba_app1, ba_app2, *])

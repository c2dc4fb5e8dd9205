/- A part of the proofs over this seat's laws: what a function of the program, or of the reference, answers and leaves, told by its theorems below. -/
import Derived.Test.YtiadjglkjcmkpaaDoorIsaEnv
import Derived.Lib.ItoaLen
namespace Go.Proofs.YtiadjglkjcmkpaaDoor
set_option linter.unusedSimpArgs false
set_option linter.unusedVariables false
open Go.RowKit Go.Sort

/-- A right instruction's text. -/
def txt (k : Nat) (a b n : Int) : List UInt8 :=
  ((rowW k ++ (if rowA k then 32 :: Lib.itoa a else [])) ++ (if rowB k then 32 :: Lib.itoa b else [])) ++ (if rowN k then 32 :: Lib.itoa n else [])

theorem ba_app (l m : List UInt8) : (⟨l.toArray⟩ : ByteArray) ++ ⟨m.toArray⟩ = ⟨(l ++ m).toArray⟩ := by
  apply ByteArray.ext; simp
theorem ba_app1 (c : UInt8) (m : List UInt8) : (⟨#[c]⟩ : ByteArray) ++ ⟨m.toArray⟩ = ⟨(c :: m).toArray⟩ := by
  apply ByteArray.ext; simp

theorem rowW_le (k : Nat) (h : k < 16) : (rowW k).length ≤ 4 := by
  have : ∀ k, k < 16 → (rowW k).length ≤ 4 := by decide
  exact this k h

theorem show_no (op a b n : Int) (w : World) (he : Env w) (hc : chkI op a b n ≠ 0) : Calls Tryd.prog 9 #[.agg #[.int .i64 op, .int .i64 a, .int .i64 b, .int .i64 n]] w fun e w' => e = .returned (.tuple #[.string ⟨#[]⟩, .int .i64 (chkI op a b n)]) ∧ Below w.heap.size w w' := by
  have hc' : (chkI op a b n != 0) = true := by simpa using hc
  clear hc
  go_enter Tryd.func9, Tryd.ntmps9
  go_wp2_with (go_at_call 13; refine (chk_any _ _ _ _ _ ?_).mono ?_; (exact he.shp.up (by repeat (first | exact Below.refl _ _ | assumption | refine Below.drew ?_ | refine Below.alloc ?_ (by simp) _ | refine Below.setCell ?_ (by simp) _))); rintro e w1 ⟨rfl, hb1⟩)
  go_ret2
  exact ⟨rfl, ((Below.refl _ _).alloc (Nat.le_refl _) _).trans (hb1.mono (by simp))⟩

set_option maxHeartbeats 2000000 in
theorem show_yes (k : Nat) (hk1 : 1 ≤ k) (hk : k < 16) (a b n : Int) (ha : in64 a) (hb : in64 b) (hn : in64 n) (w : World) (he : Env w) (hc : chkI k a b n = 0) : Calls Tryd.prog 9 #[.agg #[.int .i64 k, .int .i64 a, .int .i64 b, .int .i64 n]] w fun e w' => e = .returned (.tuple #[.string ⟨(txt k a b n).toArray⟩, .int .i64 0]) ∧ Below w.heap.size w w' := by
  go_enter Tryd.func9, Tryd.ntmps9
  go_wp2_with (go_at_call 13; refine (chk_any _ _ _ _ _ ?_).mono ?_; (exact he.shp.up (by repeat (first | exact Below.refl _ _ | assumption | refine Below.drew ?_ | refine Below.alloc ?_ (by simp) _ | refine Below.setCell ?_ (by simp) _))); rintro e w1 ⟨rfl, hb1⟩; refine Hid.out ?_)
  have he1 : Env w1 := (he.up ((Below.refl _ _).alloc (Nat.le_refl _) _)).up hb1
  have p1 : w1.cell? ⟨w.heap.size, 1, none⟩ = some (.int .i64 a) := (hb1.cell (by simp)).trans (by simp)
  have p2 : w1.cell? ⟨w.heap.size, 2, none⟩ = some (.int .i64 b) := (hb1.cell (by simp)).trans (by simp)
  have p3 : w1.cell? ⟨w.heap.size, 3, none⟩ = some (.int .i64 n) := (hb1.cell (by simp)).trans (by simp)
  have p0 : w1.cell? ⟨w.heap.size, 0, none⟩ = some (.int .i64 k) := (hb1.cell (by simp)).trans (by simp)
  have hz1 : w.heap.size < w1.heap.size := by have := hb1.size; simp at this; omega
  have hz0 := he1.shp.size
  have q0 := he1.shp.c0 k hk
  have q1 := he1.shp.c1 k hk
  have q2 := he1.shp.c2 k hk
  have q3 := he1.shp.c3 k hk
  have q4 := he1.shp.c4 k hk
  have q5 := he1.shp.c5 k hk
  have hlw : (rowW k).length ≤ 4 := rowW_le k hk
  have hla := Lib.itoa_length_le a ha.1 ha.2
  have hlb := Lib.itoa_length_le b hb.1 hb.2
  have hln := Lib.itoa_length_le n hn.1 hn.2
  have hup1 : Below w.heap.size w w1 := ((Below.refl _ _).alloc (Nat.le_refl _) _).trans (hb1.mono (by simp))
  clear hb1 hc
  refine Lib.hid ?_
  go_wp2_with (go_at_call 28; refine (itoa_any _ ?_ _ ?_).mono ?_; (first | exact ha | exact hb | exact hn); (first | exact he1.up (Below.alloc (Below.refl _ _) (Nat.le_refl _) _) | exact he2); rintro e w2 ⟨rfl, hb2⟩; refine Hid.out ?_)
  all_goals try (go_ret2; refine ⟨?_, by first | exact hup2 | exact hup1.alloc (Nat.le_of_lt hz1) _⟩; (simp [txt, ba_app, ba_app1, *]; done))
  all_goals
    have hz2 : w1.heap.size < w2.heap.size := by have := hb2.size; (first | omega | (simp at this; omega))
    have hup2 : Below w.heap.size w w2 := by first | (refine hup2.trans (hb2.mono ?_); omega) | (refine (hup1.alloc (Nat.le_of_lt hz1) _).trans (hb2.mono ?_); simp; omega)
    have r2 : w2.cell? ⟨w.heap.size, 2, none⟩ = some (.int .i64 b) := by rw [hb2.cell (p := ⟨w.heap.size, 2, none⟩) (by first | (show w.heap.size < _; omega) | (simp; done) | (simp; omega))]; first | assumption | (simp [World.cell?_alloc_past, *]; done)
    have r3 : w2.cell? ⟨w.heap.size, 3, none⟩ = some (.int .i64 n) := by rw [hb2.cell (p := ⟨w.heap.size, 3, none⟩) (by first | (show w.heap.size < _; omega) | (simp; done) | (simp; omega))]; first | assumption | (simp [World.cell?_alloc_past, *]; done)
    have t2 : w2.cell? ⟨w1.heap.size, 2, none⟩ = some (.bool (rowB k)) := by rw [hb2.cell (p := ⟨w1.heap.size, 2, none⟩) (by first | (show w1.heap.size < _; omega) | (simp; done) | (simp; omega))]; first | assumption | (simp [World.cell?_alloc_past, *]; done)
    have t3 : w2.cell? ⟨w1.heap.size, 3, none⟩ = some (.bool (rowN k)) := by rw [hb2.cell (p := ⟨w1.heap.size, 3, none⟩) (by first | (show w1.heap.size < _; omega) | (simp; done) | (simp; omega))]; first | assumption | (simp [World.cell?_alloc_past, *]; done)
    have he2 : Env w2 := he.up hup2
    refine Lib.hid ?_
    go_wp2_with (go_at_call 28; refine (itoa_any _ ?_ _ ?_).mono ?_; (first | exact ha | exact hb | exact hn); (first | exact he1.up (Below.alloc (Below.refl _ _) (Nat.le_refl _) _) | exact he2); rintro e w2 ⟨rfl, hb2⟩; refine Hid.out ?_)
  all_goals try (go_ret2; refine ⟨?_, by first | exact hup2 | exact hup1.alloc (Nat.le_of_lt hz1) _⟩; (simp [txt, ba_app, ba_app1, *]; done))
  all_goals
    have hz2 : w1.heap.size < w2.heap.size := by have := hb2.size; (first | omega | (simp at this; omega))
    have hup2 : Below w.heap.size w w2 := by first | (refine hup2.trans (hb2.mono ?_); omega) | (refine (hup1.alloc (Nat.le_of_lt hz1) _).trans (hb2.mono ?_); simp; omega)
    have r2 : w2.cell? ⟨w.heap.size, 2, none⟩ = some (.int .i64 b) := by rw [hb2.cell (p := ⟨w.heap.size, 2, none⟩) (by first | (show w.heap.size < _; omega) | (simp; done) | (simp; omega))]; first | assumption | (simp [World.cell?_alloc_past, *]; done)
    have r3 : w2.cell? ⟨w.heap.size, 3, none⟩ = some (.int .i64 n) := by rw [hb2.cell (p := ⟨w.heap.size, 3, none⟩) (by first | (show w.heap.size < _; omega) | (simp; done) | (simp; omega))]; first | assumption | (simp [World.cell?_alloc_past, *]; done)
    have t2 : w2.cell? ⟨w1.heap.size, 2, none⟩ = some (.bool (rowB k)) := by rw [hb2.cell (p := ⟨w1.heap.size, 2, none⟩) (by first | (show w1.heap.size < _; omega) | (simp; done) | (simp; omega))]; first | assumption | (simp [World.cell?_alloc_past, *]; done)
    have t3 : w2.cell? ⟨w1.heap.size, 3, none⟩ = some (.bool (rowN k)) := by rw [hb2.cell (p := ⟨w1.heap.size, 3, none⟩) (by first | (show w1.heap.size < _; omega) | (simp; done) | (simp; omega))]; first | assumption | (simp [World.cell?_alloc_past, *]; done)
    have he2 : Env w2 := he.up hup2
    refine Lib.hid ?_
    go_wp2_with (go_at_call 28; refine (itoa_any _ ?_ _ ?_).mono ?_; (first | exact ha | exact hb | exact hn); (first | exact he1.up (Below.alloc (Below.refl _ _) (Nat.le_refl _) _) | exact he2); rintro e w2 ⟨rfl, hb2⟩; refine Hid.out ?_)
  all_goals try (go_ret2; refine ⟨?_, by first | exact hup2 | exact hup1.alloc (Nat.le_of_lt hz1) _⟩; (simp [txt, ba_app, ba_app1, *]; done))
  all_goals
    have hz2 : w1.heap.size < w2.heap.size := by have := hb2.size; (first | omega | (simp at this; omega))
    have hup2 : Below w.heap.size w w2 := by first | (refine hup2.trans (hb2.mono ?_); omega) | (refine (hup1.alloc (Nat.le_of_lt hz1) _).trans (hb2.mono ?_); simp; omega)
    have r2 : w2.cell? ⟨w.heap.size, 2, none⟩ = some (.int .i64 b) := by rw [hb2.cell (p := ⟨w.heap.size, 2, none⟩) (by first | (show w.heap.size < _; omega) | (simp; done) | (simp; omega))]; first | assumption | (simp [World.cell?_alloc_past, *]; done)
    have r3 : w2.cell? ⟨w.heap.size, 3, none⟩ = some (.int .i64 n) := by rw [hb2.cell (p := ⟨w.heap.size, 3, none⟩) (by first | (show w.heap.size < _; omega) | (simp; done) | (simp; omega))]; first | assumption | (simp [World.cell?_alloc_past, *]; done)
    have t2 : w2.cell? ⟨w1.heap.size, 2, none⟩ = some (.bool (rowB k)) := by rw [hb2.cell (p := ⟨w1.heap.size, 2, none⟩) (by first | (show w1.heap.size < _; omega) | (simp; done) | (simp; omega))]; first | assumption | (simp [World.cell?_alloc_past, *]; done)
    have t3 : w2.cell? ⟨w1.heap.size, 3, none⟩ = some (.bool (rowN k)) := by rw [hb2.cell (p := ⟨w1.heap.size, 3, none⟩) (by first | (show w1.heap.size < _; omega) | (simp; done) | (simp; omega))]; first | assumption | (simp [World.cell?_alloc_past, *]; done)
    have he2 : Env w2 := he.up hup2
    refine Lib.hid ?_
    go_wp2_with (go_at_call 28; refine (itoa_any _ ?_ _ ?_).mono ?_; (first | exact ha | exact hb | exact hn); (first | exact he1.up (Below.alloc (Below.refl _ _) (Nat.le_refl _) _) | exact he2); rintro e w2 ⟨rfl, hb2⟩; refine Hid.out ?_)
  all_goals (go_ret2; refine ⟨?_, hup2⟩; simp [txt, ba_app, ba_app1, *])

def Right (op a b n : Int) : Prop := chkI op a b n = 0

/-- isa.Show: the text of a right instruction; else nothing, and why. -/
theorem show_any (op a b n : Int) (ha : in64 a) (hb : in64 b) (hn : in64 n) (w : World) (he : Env w) : Calls Tryd.prog 9 #[.agg #[.int .i64 op, .int .i64 a, .int .i64 b, .int .i64 n]] w fun e w' =>
    e = .returned (.tuple #[.string ⟨(if chkI op a b n = 0 then txt op.toNat a b n else []).toArray⟩, .int .i64 (chkI op a b n)]) ∧ Below w.heap.size w w' := by
  by_cases hc : chkI op a b n = 0
  · have ho : ¬ (op < 1 ∨ 15 < op) := fun h => by unfold chkI at hc; rw [if_pos h] at hc; omega
    obtain ⟨k, rfl⟩ := Int.eq_ofNat_of_zero_le (show 0 ≤ op by omega)
    rw [if_pos hc, hc, Int.toNat_natCast]
    exact show_yes k (by omega) (by omega) a b n ha hb hn w he hc
  · rw [if_neg hc]
    exact show_no op a b n w he hc

/- A part of the proofs over this seat's laws: what a function of the program, or of the reference, answers and leaves, told by its theorems below. -/
import Derived.Test.YtiadjglkjcmkpaaDoorIsaW2
import Derived.Test.YtiadjglkjcmkpaaDoorShelf
import Derived.WalkSmall
namespace Go.Proofs.YtiadjglkjcmkpaaDoor
set_option linter.unusedSimpArgs false
set_option linter.unusedVariables false
open Go.RowKit Go.Sort

theorem bcell {W w1 : World} (hb : Below W.heap.size W w1) : (∀ b o, b < W.heap.size → w1.cell? ⟨b, o, none⟩ = W.cell? ⟨b, o, none⟩) ∧ (∀ b o, b < W.heap.size → w1.frozen? ⟨b, o, none⟩ = W.frozen? ⟨b, o, none⟩) :=
  ⟨fun b o h => hb.cell (p := ⟨b, o, none⟩) h, fun b o h => hb.frozen (p := ⟨b, o, none⟩) h⟩

/-- What the package-level variables hold that the program's text lays, and what stands below all that a call makes. -/
structure Env (w : World) : Prop where
  shp : Shp w
  tab : Lib.TabIs Tryd.prog w "internal/strconv.uint64pow10" .u64 Lib.pow10Tab
  syn : ∃ tp p, w.cell? ⟨3, 0, none⟩ = some (.iface tp p)
  rng : ∃ tp p, w.cell? ⟨4, 0, none⟩ = some (.iface tp p)
  max : ∃ m, w.cell? ⟨1, 0, none⟩ = some (.int .i64 m)
  size : 7 ≤ w.heap.size

theorem gPow : Tryd.prog.globalNamed "internal/strconv.uint64pow10" = some 2 := by kernel_rfl

theorem Env.up {w w' : World} (h : Env w) (hb : Below w.heap.size w w') : Env w' := by
  have hz := h.size
  obtain ⟨tp, p, e1⟩ := h.syn
  obtain ⟨tq, q, e2⟩ := h.rng
  obtain ⟨m, e3⟩ := h.max
  exact ⟨h.shp.up hb, var?_below hb gPow (by omega) h.tab, ⟨tp, p, (hb.cell (p := ⟨3, 0, none⟩) (by simp; omega)).trans e1⟩, ⟨tq, q, (hb.cell (p := ⟨4, 0, none⟩) (by simp; omega)).trans e2⟩,
    ⟨m, (hb.cell (p := ⟨1, 0, none⟩) (by simp; omega)).trans e3⟩, Nat.le_trans hz hb.size⟩

def in64 (n : Int) : Prop := -9223372036854775808 ≤ n ∧ n ≤ 9223372036854775807

theorem below_grow (w : World) (k : Nat) (os : Array Obj) : Below w.heap.size w (grow (w.drewN k) os) := by
  refine (below_drewN (Below.refl _ w) k).trans ⟨rfl, rfl, rfl, ?_, fun i hi => ?_⟩
  · simp [grow]
  · simp only [grow]
    exact Array.getElem?_append_left hi

theorem itoa_any (n : Int) (h : in64 n) (w : World) (he : Env w) : Calls Tryd.prog 28 #[.int .i64 n] w fun e w' => e = .returned (.string ⟨(Lib.itoa n).toArray⟩) ∧ Below w.heap.size w w' := by
  refine (Tryd.strconv_Itoa n h.1 h.2 w he.tab).mono ?_
  rintro e w' ⟨rfl, k, os, rfl⟩
  exact ⟨rfl, below_grow w k os⟩

theorem cut_any (s sep : ByteArray) (w : World) (he : Env w) (hs : s.size < 4294967281) : Calls Tryd.prog 43 #[.string s, .string sep] w fun e w' => e = .returned (.tuple #[.string ⟨(Lib.cut s.data.toList sep.data.toList).1.toArray⟩, .string ⟨(Lib.cut s.data.toList sep.data.toList).2.1.toArray⟩, .bool (Lib.cut s.data.toList sep.data.toList).2.2]) ∧ Below w.heap.size w w' := by
  obtain ⟨m, hm⟩ := he.max
  refine (Tryd.strings_Cut s sep m w hs hm).mono ?_
  rintro e w' ⟨rfl, n, rfl⟩
  exact ⟨rfl, below_drewN (Below.refl _ w) n⟩

/-- The number that a text spells, 0 where it spells none. -/
def numOf (l : List UInt8) : Int := match Lib.atoiAll l with
  | .ok v => v
  | _ => 0

/-- strconv.Atoi: the number and no error where the text spells one; else some error. -/
theorem atoi_any (s : ByteArray) (w : World) (he : Env w) (hs : s.size < 4294967281) : Calls Tryd.prog 50 #[.string s] w fun e w' =>
    ((∃ v, Lib.atoiAll s.data.toList = .ok v ∧ e = .returned (.tuple #[.int .i64 v, .nilIface])) ∨
     (numOf s.data.toList = 0 ∧ ∃ z p, e = .returned (.tuple #[.int .i64 z, .iface 107 p]))) ∧ Below w.heap.size w w' := by
  obtain ⟨t1, p1, e1⟩ := he.syn
  obtain ⟨t2, p2, e2⟩ := he.rng
  cases h : Lib.atoiAll s.data.toList with
  | ok v =>
    refine (Any.strconv_Atoi_ok Tryd.laysC172 s (by omega) v h w).mono ?_
    rintro e w' ⟨rfl, hw⟩
    refine ⟨Or.inl ⟨v, rfl, rfl⟩, ?_⟩
    rcases hw with rfl | ⟨t, rfl⟩
    · exact Below.refl _ _
    · exact Lib.bytesWorld_below _ _ _
  | _ =>
    first
    | (refine (Any.strconv_Atoi_syntax Tryd.laysC172 s (by omega) h _ w e1 (Or.inr ⟨t1, p1, rfl⟩)).mono ?_
       rintro e w' ⟨N, rfl, _, _, hb⟩
       exact ⟨Or.inr ⟨by simp [numOf, h], _, _, rfl⟩, hb⟩)
    | (refine (Any.strconv_Atoi_range Tryd.laysC172 s (by omega) h _ w e2 (Or.inr ⟨t2, p2, rfl⟩)).mono ?_
       rintro e w' ⟨N, rfl, _, _, hb⟩
       exact ⟨Or.inr ⟨by simp [numOf, h], _, _, rfl⟩, hb⟩)

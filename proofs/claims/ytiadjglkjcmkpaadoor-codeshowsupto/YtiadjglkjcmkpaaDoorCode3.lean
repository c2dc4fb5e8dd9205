/- A part of the proofs over this seat's laws: what a function of the program, or of the reference, answers and leaves, told by its theorems below. -/
import Derived.Test.YtiadjglkjcmkpaaDoorCode2
import Derived.Test.YtiadjglkjcmkpaaDoorShelfB
import Derived.Test.YtiadjglkjcmkpaaDoorShelfS
import Derived.Test.YtiadjglkjcmkpaaDoorIsaBack
import Derived.Lib.AppendIntMem
namespace Go.Proofs.YtiadjglkjcmkpaaDoor
set_option linter.unusedSimpArgs false
set_option linter.unusedVariables false
open Go.RowKit Go.Sort

theorem own_up {w w' : World} {base : Nat} {e : TypeId} {size : Nat} {v : Value} {n : Nat} {xs : List Value} (h : w.ownsRow base e size v n xs) (hb : Below w.heap.size w w') : w'.ownsRow base e size v n xs := by
  refine ⟨h.1, ?_⟩
  rcases h.2 with h | ⟨g, cap, cur, h1, h2, h3, r⟩
  · exact Or.inl h
  · refine Or.inr ⟨g, cap, cur, h1, h2, ?_, r⟩
    have hlt : g < w.heap.size := by
      rcases Nat.lt_or_ge g w.heap.size with hlt | hge
      · exact hlt
      · rw [Array.getElem?_eq_none hge] at h3; cases h3
    rw [hb.block g hlt]; exact h3
theorem bld_up {w w' : World} {T e : TypeId} {B b : Nat} {bs : List Value} (h : Lib.IsBuilder T e B b bs w) (hb : Below w.heap.size w w') : Lib.IsBuilder T e B b bs w' := by
  rcases h with h | h
  · obtain ⟨h1, v, h2, h3, h4⟩ := h
    have hlt := Lib.BuilderAt.lt ⟨h1, v, h2, h3, h4⟩
    exact Or.inl ⟨h1, v, by rw [hb.block b hlt]; exact h2, own_up h3 hb, h4⟩
  · obtain ⟨h1, v, h2, h3, h4⟩ := h
    have hlt := Lib.BuilderAt.lt ⟨h1, v, h2, h3, h4⟩
    exact Or.inr ⟨h1, v, by rw [hb.block b hlt]; exact h2, own_up h3 hb, h4⟩

/-- A program's text, a line for each instruction. -/
def textC : List Ins → List UInt8
  | [] => []
  | i :: r => (i.txt ++ [10]) ++ textC r
theorem textC_snoc : ∀ (l : List Ins) (i : Ins), textC (l ++ [i]) = (textC l ++ i.txt) ++ [10]
  | [], i => by simp [textC]
  | j :: r, i => by rw [List.cons_append, textC, textC, textC_snoc r i]; simp
theorem byteCells_app (a b : List UInt8) : Lib.byteCells (a ++ b) = Lib.byteCells a ++ Lib.byteCells b := by simp [Lib.byteCells]
theorem ins_len {i : Ins} (h : i.ok) (hc : i.chk = 0) : i.txt.length ≤ 70 := by
  obtain ⟨k, e, _, hk, _⟩ := right_of hc
  unfold Ins.txt
  rw [e, Int.toNat_natCast]
  exact txt_len k hk _ _ _ h.2.1 h.2.2.1 h.2.2.2
theorem textC_len : ∀ l : List Ins, (∀ j (hj : j < l.length), l[j].ok ∧ l[j].chk = 0) → (textC l).length ≤ 71 * l.length
  | [], _ => by simp [textC]
  | i :: r, h => by
    have h1 := ins_len (h 0 (by simp)).1 (h 0 (by simp)).2
    have h2 := textC_len r (fun j hj => h (j + 1) (by simpa using hj))
    rw [textC]
    simp at h1 ⊢
    omega
theorem all_take {l : List Ins} {k : Nat} {p : Ins → Prop} (h : ∀ j (hj : j < l.length), p l[j]) : ∀ j (hj : j < (l.take k).length), p (l.take k)[j] := by
  intro j hj
  rw [List.getElem_take]
  exact h j (by simp at hj; omega)

theorem showC_no (l : List Ins) (v : Value) (w : World) (he : Env w) (hS : Sl w 4 v l.length (codeC l)) (c : Int) (hc : chkC l = c) (hc0 : c ≠ 0) :
    Calls Tryd.prog 23 #[v] w fun e w' => e = .returned (.tuple #[.string ⟨#[]⟩, .int .i64 c]) ∧ Below w.heap.size w w' := by
  have hc' : (c != 0) = true := by simpa using hc0
  have HS := Lib.hid hS
  have HC := Lib.hid hc
  clear hS hc hc0
  go_enter Tryd.func23, Tryd.ntmps23
  go_wp2_with (go_at_call 21; refine (codeCheck_any l _ _ he HS.out).mono ?_; rw [HC.out]; rintro e w1 ⟨rfl, hb1⟩)
  go_ret2
  exact ⟨rfl, hb1⟩

set_option maxRecDepth 100000 in
set_option maxHeartbeats 2000000 in
theorem showC_yes (l : List Ins) (hok : ∀ j (hj : j < l.length), l[j].ok) (v : Value) (w : World) (he : Env w) (hS : Sl w 4 v l.length (codeC l)) (hc0 : chkC l = 0) :
    Calls Tryd.prog 23 #[v] w fun e w' => e = .returned (.tuple #[.string ⟨(textC l).toArray⟩, .int .i64 0]) ∧ Below w.heap.size w w' := by
  obtain ⟨hl1, hl20, hz⟩ := chkC_zero hc0
  obtain ⟨b, off, cap, rfl, hcap, hbw, hc⟩ := hS.open (by omega)
  have HS := Lib.hid hS
  have HC := Lib.hid hc
  have HZ := Lib.hid hz
  have H0 := Lib.hid hc0
  have HO := Lib.hid hok
  clear hS hc hz hc0 hok
  go_enter Tryd.func23, Tryd.ntmps23
  go_wp2_with (go_at_call 21; refine (codeCheck_any l _ _ he HS.out).mono ?_; rw [H0.out]; rintro e w1 ⟨rfl, hb1⟩; refine Hid.out ?_)
  have hbw1 : b < w1.heap.size := Nat.lt_of_lt_of_le hbw hb1.size
  have HC1 : Hid (∀ j u, (codeC l)[j]? = some u → w1.cell? ⟨b, off + j, none⟩ = some u) := fun j u hj => bcl hb1 hbw (HC.out j u hj)
  have HB0 := Lib.hid (Lib.fresh_isBuilder 72 5 w1)
  have HUP := Lib.hid hb1
  have he1 := he.up hb1
  clear hb1
  refine Lib.hid ?_
  go_wp2
  go_loopw [17] (fun i wr => ∃ k : Nat, i = .int .i64 k ∧ k ≤ l.length ∧ Hid (Lib.IsBuilder 72 5 w1.heap.size w1.heap.size (Lib.byteCells (textC (l.take k))) wr) ∧ Below w1.heap.size w1 wr) (fun i _ => l.length - (intOf i).toNat)
  case atStart => exact ⟨0, rfl, Nat.zero_le _, HB0, Below.alloc (Below.refl _ _) (Nat.le_refl _) _⟩
  case round =>
    obtain ⟨k, rfl, hk, HB, hbel⟩ := hrel
    have htl := textC_len (l.take k) (fun j hj => by
      rw [List.getElem_take]
      exact ⟨HO.out j (by simp at hj; omega), HZ.out j (by simp at hj; omega)⟩)
    have htl2 : (textC (l.take k)).length ≤ 1420 := by
      have : (l.take k).length ≤ 20 := by simp; omega
      omega
    clear htl
    by_cases hlt : k < l.length
    · obtain ⟨c0, c1, c2, c3⟩ := code_cells HC1.out k hlt
      have c0 := bcl hbel hbw1 c0
      have c1 := bcl hbel hbw1 c1
      have c2 := bcl hbel hbw1 c2
      have c3 := bcl hbel hbw1 c3
      have hbr : b < wr.heap.size := Nat.lt_of_lt_of_le hbw1 hbel.size
      have i1 : (k : Int) < l.length := by omega
      have HT := Lib.hid (take_snoc' l k hlt)
      have her := he1.up hbel
      obtain ⟨_, oa, ob, on⟩ := HO.out k hlt
      have hil := ins_len (HO.out k hlt) (HZ.out k hlt)
      have HCK : Hid (chkI l[k].op l[k].a l[k].b l[k].n = 0) := HZ.out k hlt
      go_wp2_with fail
      refine (show_right l[k].op l[k].a l[k].b l[k].n l[k].txt oa ob on HCK.out rfl _ (her.up (by repeat (first | exact Below.refl _ _ | assumption | refine Below.drew ?_ | refine Below.alloc ?_ (by simp) _ | refine Below.setCell ?_ (by simp) _)))).mono ?_
      rintro e w2 ⟨rfl, hb2⟩
      have hbel2 : Below w1.heap.size w1 w2 := (hbel.alloc hbel.size _).trans (hb2.mono (by simp; have := hbel.size; omega))
      have HB2 := Lib.hid (bld_up (bld_up HB.out (Below.alloc (Below.refl _ _) (Nat.le_refl _) _)) hb2)
      clear hb2 hbel HB c0 c1 c2 c3
      go_wp2_with fail
      refine (Any.Builder_WriteString Tryd.blays166 Tryd.bextra w1.heap.size w1.heap.size _ ⟨l[k].txt.toArray⟩ _ HB2.out (by rw [Lib.byteCells_length]; simp [ByteArray.size]; omega) hbel2.size).mono ?_
      rintro e w3 ⟨rfl, hI3, hb3⟩
      have hI3' : Lib.IsBuilder 72 5 w1.heap.size w1.heap.size (Lib.byteCells (textC (l.take k) ++ l[k].txt)) w3 := by
        rw [byteCells_app]; exact Or.inr hI3
      have HB3 := Lib.hid hI3'
      have hbel3 : Below w1.heap.size w1 w3 := hbel2.trans hb3
      clear hI3 hI3' hb3 hbel2 HB2
      go_wp2_with fail
      refine (Any.Builder_WriteByte Tryd.blays167 Tryd.bextra w1.heap.size w1.heap.size _ 10 _ HB3.out (by rw [Lib.byteCells_length]; simp; omega) hbel3.size).mono ?_
      rintro e w4 ⟨rfl, hI4, hb4⟩
      have hI4' : Lib.IsBuilder 72 5 w1.heap.size w1.heap.size (Lib.byteCells (textC (l.take (k + 1)))) w4 := by
        rw [HT.out, textC_snoc, byteCells_app]; exact Or.inr hI4
      have HB4 := Lib.hid hI4'
      have hbel4 : Below w1.heap.size w1 w4 := hbel3.trans hb4
      clear hI4 hI4' hb4 hbel3 HB3
      go_wp2
      go_roundw
      case rel => exact ⟨k + 1, by go_num, by omega, HB4, hbel4⟩
      case measure => simp [intOf]; omega
    · obtain rfl : k = l.length := by omega
      have hB := HB.out
      rw [List.take_length] at hB
      have HB := Lib.hid hB
      clear hB
      have i1 : ¬ ((l.length : Int) < l.length) := by omega
      go_wp2_with fail
      refine (Tryd.Builder_String_any w1.heap.size w1.heap.size (textC l) _ HB.out hbel.size).mono ?_
      rintro e w2 ⟨rfl, hb2⟩
      go_wp2
      go_ret2
      exact ⟨rfl, HUP.out.trans ((hbel.trans hb2).mono HUP.out.size)⟩

/- What a step makes of a cell: plain mathematics. -/
import Derived.Test.YtjhjaafoikadgaaDoorCell12
namespace Go.Proofs.YtjhjaafoikadgaaDoor
set_option linter.unusedSimpArgs false
set_option linter.unusedVariables false
open Go.RowKit Go.Sort

theorem setReg_at (c : Cel) (k v : Int) : (c.setReg k v).at_ = c.at_ := by unfold Cel.setReg; split <;> (try split) <;> (try split) <;> rfl
theorem setReg_read (c : Cel) (k v : Int) : (c.setReg k v).read = c.read := by unfold Cel.setReg; split <;> (try split) <;> (try split) <;> rfl
theorem setReg_en (c : Cel) (k v : Int) : (c.setReg k v).en = c.en := by unfold Cel.setReg; split <;> (try split) <;> (try split) <;> rfl
theorem setMem_read (c : Cel) (k v : Int) : (c.setMem k v).read = c.read := by unfold Cel.setMem; repeat' (first | rfl | split)
theorem setMem_en (c : Cel) (k v : Int) : (c.setMem k v).en = c.en := by unfold Cel.setMem; repeat' (first | rfl | split)
theorem tellL_take (xs : List Int) (n : Int) : (tellL xs n).take xs.length = xs ∧ xs.length ≤ (tellL xs n).length ∧ (xs.length ≤ 16 → (tellL xs n).length ≤ 16) := by
  unfold tellL
  split
  · simp; omega
  · simp
/-- What holds of a step of a right cell. -/
structure Goes (inn xs : List Int) (c c' : Cel) (ys : List Int) : Prop where
  at0 : 0 ≤ c'.at_
  at1 : c'.at_ ≤ 20
  en0 : 0 ≤ c'.en
  en1 : c'.en ≤ 2
  rd0 : c.read ≤ c'.read
  rd1 : c'.read ≤ c.read + 1
  rd2 : c'.read ≤ inn.length
  out : ys.take xs.length = xs
  len : xs.length ≤ ys.length
  len2 : ys.length ≤ 16
theorem takeC_read (c : Cel) (n : Nat) (h : c.read ≤ n) : c.read ≤ (takeC c n).read ∧ (takeC c n).read ≤ c.read + 1 ∧ (takeC c n).read ≤ n := by
  unfold takeC
  split
  · simp; omega
  · omega
theorem takeC_en (c : Cel) (n : Nat) : (takeC c n).en = c.en := by unfold takeC; split <;> rfl
theorem doC_goes {i : Ins} (hi : i.chk = 0) {inn xs ys : List Int} {c c' : Cel} {x x' : Wnt} (h : doC i inn xs c x = some (c', ys, x')) (h0 : 0 ≤ c.at_) (h1 : c.at_ < 20) (h2 : 0 ≤ c.en) (h3 : c.en ≤ 2) (h4 : c.read ≤ inn.length) (h5 : xs.length ≤ 16) : Goes inn xs c c' ys := by
  obtain ⟨hop, ⟨ha0, ha1⟩, ⟨hb0, hb1⟩, hj, hch⟩ := chk0 (op := i.op) (a := i.a) (b := i.b) (n := i.n) hi
  have ht := tellL_take xs (c.reg i.a)
  have hk := takeC_read c inn.length h4
  have hx : xs.take xs.length = xs := List.take_of_length_le (Nat.le_refl _)
  unfold doC at h
  by_cases o1 : i.op = 1
  · rw [if_pos o1] at h; injection h with h; injection h with ha h; injection h with hb hc; subst ha hb hc
    exact ⟨by simp only []; omega, by simp only []; omega, by simp only [setReg_en, setMem_en, takeC_en]; omega, by simp only [setReg_en, setMem_en, takeC_en]; omega, by simp only [setReg_read, setMem_read]; omega, by simp only [setReg_read, setMem_read]; omega, by simp only [setReg_read, setMem_read]; omega, hx, Nat.le_refl _, h5⟩
  rw [if_neg o1] at h
  by_cases o2 : i.op = 2
  · rw [if_pos o2] at h; injection h with h; injection h with ha h; injection h with hb hc; subst ha hb hc
    exact ⟨by simp only []; omega, by simp only []; omega, by simp only [setReg_en, setMem_en, takeC_en]; omega, by simp only [setReg_en, setMem_en, takeC_en]; omega, by simp only [setReg_read, setMem_read]; omega, by simp only [setReg_read, setMem_read]; omega, by simp only [setReg_read, setMem_read]; omega, hx, Nat.le_refl _, h5⟩
  rw [if_neg o2] at h
  by_cases o3 : i.op = 3
  · rw [if_pos o3] at h; injection h with h; injection h with ha h; injection h with hb hc; subst ha hb hc
    exact ⟨by simp only []; omega, by simp only []; omega, by simp only [setReg_en, setMem_en, takeC_en]; omega, by simp only [setReg_en, setMem_en, takeC_en]; omega, by simp only [setReg_read, setMem_read]; omega, by simp only [setReg_read, setMem_read]; omega, by simp only [setReg_read, setMem_read]; omega, hx, Nat.le_refl _, h5⟩
  rw [if_neg o3] at h
  by_cases o4 : i.op = 4
  · rw [if_pos o4] at h; injection h with h; injection h with ha h; injection h with hb hc; subst ha hb hc
    exact ⟨by simp only []; omega, by simp only []; omega, by simp only [setReg_en, setMem_en, takeC_en]; omega, by simp only [setReg_en, setMem_en, takeC_en]; omega, by simp only [setReg_read, setMem_read]; omega, by simp only [setReg_read, setMem_read]; omega, by simp only [setReg_read, setMem_read]; omega, hx, Nat.le_refl _, h5⟩
  rw [if_neg o4] at h
  by_cases o5 : i.op = 5
  · rw [if_pos o5] at h; injection h with h; injection h with ha h; injection h with hb hc; subst ha hb hc
    exact ⟨by simp only []; omega, by simp only []; omega, by simp only [setReg_en, setMem_en, takeC_en]; omega, by simp only [setReg_en, setMem_en, takeC_en]; omega, by simp only [setReg_read, setMem_read]; omega, by simp only [setReg_read, setMem_read]; omega, by simp only [setReg_read, setMem_read]; omega, hx, Nat.le_refl _, h5⟩
  rw [if_neg o5] at h
  by_cases o6 : i.op = 6
  · rw [if_pos o6] at h
    by_cases hm : c.reg i.b < 0 ∨ 8 ≤ c.reg i.b
    · rw [if_pos hm] at h; cases h
    · rw [if_neg hm] at h; injection h with h; injection h with ha h; injection h with hb hc; subst ha hb hc
      exact ⟨by simp only []; omega, by simp only []; omega, by simp only [setReg_en, setMem_en, takeC_en]; omega, by simp only [setReg_en, setMem_en, takeC_en]; omega, by simp only [setReg_read, setMem_read]; omega, by simp only [setReg_read, setMem_read]; omega, by simp only [setReg_read, setMem_read]; omega, hx, Nat.le_refl _, h5⟩
  rw [if_neg o6] at h
  by_cases o7 : i.op = 7
  · rw [if_pos o7] at h
    by_cases hm : c.reg i.b < 0 ∨ 8 ≤ c.reg i.b
    · rw [if_pos hm] at h; cases h
    · rw [if_neg hm] at h; injection h with h; injection h with ha h; injection h with hb hc; subst ha hb hc
      exact ⟨by simp only []; omega, by simp only []; omega, by simp only [setReg_en, setMem_en, takeC_en]; omega, by simp only [setReg_en, setMem_en, takeC_en]; omega, by simp only [setReg_read, setMem_read]; omega, by simp only [setReg_read, setMem_read]; omega, by simp only [setReg_read, setMem_read]; omega, hx, Nat.le_refl _, h5⟩
  rw [if_neg o7] at h
  by_cases o8 : i.op = 8
  · rw [if_pos o8] at h; injection h with h; injection h with ha h; injection h with hb hc; subst ha hb hc
    have := hj (.inl o8)
    exact ⟨by simp only []; omega, by simp only []; omega, by simp only [setReg_en, setMem_en, takeC_en]; omega, by simp only [setReg_en, setMem_en, takeC_en]; omega, by simp only [setReg_read, setMem_read]; omega, by simp only [setReg_read, setMem_read]; omega, by simp only [setReg_read, setMem_read]; omega, hx, Nat.le_refl _, h5⟩
  rw [if_neg o8] at h
  by_cases o9 : i.op = 9
  · rw [if_pos o9] at h; injection h with h; injection h with ha h; injection h with hb hc; subst ha hb hc
    have := hj (.inr o9)
    by_cases hz : c.reg i.a = 0
    · exact ⟨by simp only [hz, if_true]; omega, by simp only [hz, if_true]; omega, by simp only []; omega, by simp only []; omega, by simp only []; omega, by simp only []; omega, by simp only []; omega, hx, Nat.le_refl _, h5⟩
    · exact ⟨by simp only [hz, if_false]; omega, by simp only [hz, if_false]; omega, by simp only []; omega, by simp only []; omega, by simp only []; omega, by simp only []; omega, by simp only []; omega, hx, Nat.le_refl _, h5⟩
  rw [if_neg o9] at h
  by_cases o10 : i.op = 10
  · rw [if_pos o10] at h; injection h with h; injection h with ha h; injection h with hb hc; subst ha hb hc
    exact ⟨by simp only []; omega, by simp only []; omega, by simp only [setReg_en, setMem_en, takeC_en]; omega, by simp only [setReg_en, setMem_en, takeC_en]; omega, by simp only [setReg_read, setMem_read]; omega, by simp only [setReg_read, setMem_read]; omega, by simp only [setReg_read, setMem_read]; omega, hx, Nat.le_refl _, h5⟩
  rw [if_neg o10] at h
  by_cases o11 : i.op = 11
  · rw [if_pos o11] at h; injection h with h; injection h with ha h; injection h with hb hc; subst ha hb hc
    exact ⟨by simp only []; omega, by simp only []; omega, by simp only [setReg_en, setMem_en, takeC_en]; omega, by simp only [setReg_en, setMem_en, takeC_en]; omega, by simp only [setReg_read, setMem_read]; omega, by simp only [setReg_read, setMem_read]; omega, by simp only [setReg_read, setMem_read]; omega, ht.1, ht.2.1, ht.2.2 h5⟩
  rw [if_neg o11] at h
  by_cases o12 : i.op = 12
  · rw [if_pos o12] at h; injection h with h; injection h with ha h; injection h with hb hc; subst ha hb hc
    exact ⟨by simp only []; omega, by simp only []; omega, by simp only [setReg_en, setMem_en, takeC_en]; omega, by simp only [setReg_en, setMem_en, takeC_en]; omega, by simp only [setReg_read, setMem_read]; omega, by simp only [setReg_read, setMem_read]; omega, by simp only [setReg_read, setMem_read]; omega, hx, Nat.le_refl _, h5⟩
  rw [if_neg o12] at h
  by_cases o13 : i.op = 13
  · rw [if_pos o13] at h; injection h with h; injection h with ha h; injection h with hb hc; subst ha hb hc
    exact ⟨by simp only []; omega, by simp only []; omega, by simp only [setReg_en, setMem_en, takeC_en]; omega, by simp only [setReg_en, setMem_en, takeC_en]; omega, by simp only [setReg_read, setMem_read]; omega, by simp only [setReg_read, setMem_read]; omega, by simp only [setReg_read, setMem_read]; omega, hx, Nat.le_refl _, h5⟩
  rw [if_neg o13] at h
  by_cases o14 : i.op = 14
  · rw [if_pos o14] at h; injection h with h; injection h with ha h; injection h with hb hc; subst ha hb hc
    exact ⟨by simp only []; omega, by simp only []; omega, by simp only [setReg_en, setMem_en, takeC_en]; omega, by simp only [setReg_en, setMem_en, takeC_en]; omega, by simp only [setReg_read, setMem_read]; omega, by simp only [setReg_read, setMem_read]; omega, by simp only [setReg_read, setMem_read]; omega, hx, Nat.le_refl _, h5⟩
  rw [if_neg o14] at h
  injection h with h; injection h with ha h; injection h with hb hc; subst ha hb hc
  exact ⟨by simp only []; omega, by simp only []; omega, by simp only [setReg_en, setMem_en, takeC_en]; omega, by simp only [setReg_en, setMem_en, takeC_en]; omega, by simp only [setReg_read, setMem_read]; omega, by simp only [setReg_read, setMem_read]; omega, by simp only [setReg_read, setMem_read]; omega, hx, Nat.le_refl _, h5⟩
theorem stepC_goes {l : List Ins} (hl : chkC l = 0) {inn xs : List Int} {c : Cel} (hf : c.fine xs.length = true) (hr : c.read ≤ inn.length) : Goes inn xs c (stepC l inn xs c).1 (stepC l inn xs c).2.1 := by
  obtain ⟨f0, f1, f2, f3, f4, f5, f6⟩ := (fine_iff c _).1 hf
  have hx : xs.take xs.length = xs := List.take_of_length_le (Nat.le_refl _)
  have hn : l.length ≤ 20 ∧ firstE l = 0 := by
    unfold chkC at hl
    split at hl
    · omega
    · exact ⟨by omega, hl⟩
  unfold stepC
  split
  · unfold runC
    split
    · exact ⟨f0, f1, (show (0 : Int) ≤ 2 by decide), (show (2 : Int) ≤ 2 by decide), Int.le_refl _, by simp only []; omega, hr, hx, Nat.le_refl _, f6⟩
    · rename_i i hi
      have hlt : c.at_.toNat < l.length := (List.getElem?_eq_some_iff.1 hi).1
      have hck : i.chk = 0 := by
        have := firstE_zero hn.2 _ hlt
        rw [(List.getElem?_eq_some_iff.1 hi).2] at this
        exact this
      cases h : doC i inn xs c wntZ with
      | none => exact ⟨f0, f1, (show (0 : Int) ≤ 2 by decide), (show (2 : Int) ≤ 2 by decide), Int.le_refl _, by simp only [Option.getD_none]; omega, hr, hx, Nat.le_refl _, f6⟩
      | some r =>
        obtain ⟨c', ys, x'⟩ := r
        exact doC_goes hck h f0 (by omega) f4 f5 hr f6
  · exact ⟨f0, f1, f4, f5, Int.le_refl _, by simp only []; omega, hr, hx, Nat.le_refl _, f6⟩
theorem Goes.fine {inn xs : List Int} {c c' : Cel} {ys : List Int} (h : Goes inn xs c c' ys) (h0 : 0 ≤ c.read) (hi : inn.length ≤ 12) : c'.fine ys.length = true :=
  (fine_iff _ _).2 ⟨h.at0, h.at1, by have := h.rd0; omega, by have := h.rd2; omega, h.en0, h.en1, h.len2⟩
theorem take_more (inn : List Int) (n r : Int) (h : r < inn.length) (h0 : 0 ≤ r) : takeI (inn ++ [n]) r = takeI inn r := by
  unfold takeI
  rw [if_pos (by simp; omega), if_pos h]
  obtain ⟨k, rfl⟩ := Int.eq_ofNat_of_zero_le h0
  have hk : k < inn.length := by omega
  simp [List.getElem?_append_left hk]
theorem takeC_more (c : Cel) (m : Nat) (h : c.read < m) : takeC c (m + 1) = takeC c m := by
  unfold takeC
  rw [if_pos (by omega), if_pos h]
theorem doC_more (i : Ins) (inn xs : List Int) (c : Cel) (x : Wnt) (n : Int) (h : c.read < inn.length) (h0 : 0 ≤ c.read) : doC i (inn ++ [n]) xs c x = doC i inn xs c x := by
  unfold doC
  rw [take_more inn n _ h h0, List.length_append, List.length_cons, List.length_nil, takeC_more c _ h]
theorem stepC_more (l : List Ins) (inn xs : List Int) (c : Cel) (n : Int) (h : c.read < inn.length) (h0 : 0 ≤ c.read) : stepC l (inn ++ [n]) xs c = stepC l inn xs c := by
  unfold stepC runC
  simp only [doC_more _ inn xs c _ n h h0]
end Go.Proofs.YtjhjaafoikadgaaDoor

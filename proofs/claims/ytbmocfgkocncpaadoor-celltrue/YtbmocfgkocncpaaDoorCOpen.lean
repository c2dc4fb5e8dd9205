/- Cells, wants, partitions and truths that came in, opened. -/
import Derived.Test.YtbmocfgkocncpaaDoorEOpen
import Derived.Test.YtbmocfgkocncpaaDoorCell3
import Derived.Laws.IdiomArrays
namespace Go.Proofs.YtbmocfgkocncpaaDoor
set_option linter.unusedSimpArgs false
set_option linter.unusedVariables false
open Go.ChangeShapes Go.WideShapes Go.ChangeAt Go.RowKit Go.Joins Go.Deep

theorem at_one {cs : List Value} {o : Nat} {v : Value} (h : (cs.drop o).take 1 = [v]) : cs[o]? = some v := by
  have := congrArg (·[0]?) h
  simpa [List.getElem?_take, List.getElem?_drop] using this
theorem at_arr {cs : List Value} {a m i : Nat} {v : Value} (h : (((cs.drop a).take m).drop i).take 1 = [v]) (hi : i < m) : cs[a + i]? = some v := by
  have := at_one h
  rw [List.getElem?_take, if_pos hi, List.getElem?_drop] at this
  exact this
theorem cellsRegs : Tryd.prog.cellsOf 26 = 4 := by kernel_rfl
theorem cellsMem : Tryd.prog.cellsOf 27 = 8 := by kernel_rfl
theorem arr_of {H : Type} {enc : TypeId × Value → H} {W : World} {base : Nat} {sp : Nat → Bool} {held : Bool} {fuel : Nat} {cs : List Value} {a m : Nat} {t : TypeId} {x : DataW H × List MemPlace} (ht : Tryd.prog.underlying t = some (.array m 3))
    (hf : DataW.trod enc Tryd.prog W base sp held fuel t ((cs.drop a).take m) = some x) : ∀ i, i < m → ∃ n : Int, cs[a + i]? = some (.int .i64 n) ∧ in64 n := by
  obtain ⟨xs, k, _, _, _, hlen, h⟩ := DataW.trod_array ht hf
  intro i hi
  have h1 := h i hi
  rw [cellsInt, Nat.mul_one] at h1
  cases hy : xs[i]? with
  | none => rw [List.getElem?_eq_none_iff] at hy; omega
  | some y =>
    rw [hy] at h1
    obtain ⟨n, e, -, w0⟩ := DataW.trod_int Tryd.underlying3 h1
    exact ⟨n, at_arr e hi, in64_of w0⟩
theorem list16 {cs : List Value} {a0 a1 a2 a3 a4 a5 a6 a7 a8 a9 a10 a11 a12 a13 a14 a15 : Value} (hl : cs.length = 16) (h0 : cs[0]? = some a0) (h1 : cs[1]? = some a1) (h2 : cs[2]? = some a2) (h3 : cs[3]? = some a3) (h4 : cs[4]? = some a4) (h5 : cs[5]? = some a5) (h6 : cs[6]? = some a6) (h7 : cs[7]? = some a7)
    (h8 : cs[8]? = some a8) (h9 : cs[9]? = some a9) (h10 : cs[10]? = some a10) (h11 : cs[11]? = some a11) (h12 : cs[12]? = some a12) (h13 : cs[13]? = some a13) (h14 : cs[14]? = some a14) (h15 : cs[15]? = some a15) : cs = [a0, a1, a2, a3, a4, a5, a6, a7, a8, a9, a10, a11, a12, a13, a14, a15] := by
  match cs, hl with
  | [b0, b1, b2, b3, b4, b5, b6, b7, b8, b9, b10, b11, b12, b13, b14, b15], _ =>
    simp at h0 h1 h2 h3 h4 h5 h6 h7 h8 h9 h10 h11 h12 h13 h14 h15
    simp [h0, h1, h2, h3, h4, h5, h6, h7, h8, h9, h10, h11, h12, h13, h14, h15]
set_option maxRecDepth 100000 in
/-- A cell's sixteen places. -/
theorem cell_of {H : Type} {enc : TypeId × Value → H} {W : World} {base : Nat} {sp : Nat → Bool} {held : Bool} {fuel : Nat} {cs : List Value} {x : DataW H × List MemPlace} (hl : cs.length = 16) (hf : DataW.trod enc Tryd.prog W base sp held fuel 29 cs = some x) :
    ∃ (c : Cel) (o : Value) (xs : List Int), cs = (c.cs o).toList ∧ Sl W 1 o xs.length (ints xs) := by
  obtain ⟨ys, n, _, _, _, hlen, h⟩ := DataW.trod_struct Tryd.underlying29 hf
  have f0 := h 0 _ rfl
  have f1 := h 1 _ rfl
  have f2 := h 2 _ rfl
  have f3 := h 3 _ rfl
  have f4 := h 4 _ rfl
  have f5 := h 5 _ rfl
  match ys, hlen with
  | [y0, y1, y2, y3, y4, y5], _ =>
    obtain ⟨at_, e0, -, -⟩ := DataW.trod_int Tryd.underlying3 f0
    obtain ⟨rd, e3, -, -⟩ := DataW.trod_int Tryd.underlying3 f3
    obtain ⟨en, e5, -, -⟩ := DataW.trod_int Tryd.underlying3 f5
    change (cs.drop 0).take (Tryd.prog.cellsOf 3) = _ at e0
    change (cs.drop 13).take (Tryd.prog.cellsOf 3) = _ at e3
    change (cs.drop 15).take (Tryd.prog.cellsOf 3) = _ at e5
    change DataW.trod enc Tryd.prog W base sp held n 26 ((cs.drop 1).take (Tryd.prog.cellsOf 26)) = some y1 at f1
    change DataW.trod enc Tryd.prog W base sp held n 27 ((cs.drop 5).take (Tryd.prog.cellsOf 27)) = some y2 at f2
    change DataW.trod enc Tryd.prog W base sp held n 23 ((cs.drop 14).take (Tryd.prog.cellsOf 23)) = some y4 at f4
    rw [cellsInt] at e0 e3 e5
    rw [cellsRegs] at f1
    rw [cellsMem] at f2
    rw [cellsInts] at f4
    obtain ⟨o, ho⟩ : ∃ o, cs[14]? = some o := ⟨cs[14], List.getElem?_eq_getElem (by omega)⟩
    have ho4 : (cs.drop 14).take 1 = [o] := by
      rw [List.take_one, List.head?_drop, ho]
      rfl
    rw [ho4] at f4
    obtain ⟨xs, hS, -⟩ := ints_of f4
    have R := arr_of Tryd.underlying26 f1
    have M := arr_of Tryd.underlying27 f2
    obtain ⟨r0, hr0, -⟩ := R 0 (by decide)
    obtain ⟨r1, hr1, -⟩ := R 1 (by decide)
    obtain ⟨r2, hr2, -⟩ := R 2 (by decide)
    obtain ⟨r3, hr3, -⟩ := R 3 (by decide)
    obtain ⟨m0, hm0, -⟩ := M 0 (by decide)
    obtain ⟨m1, hm1, -⟩ := M 1 (by decide)
    obtain ⟨m2, hm2, -⟩ := M 2 (by decide)
    obtain ⟨m3, hm3, -⟩ := M 3 (by decide)
    obtain ⟨m4, hm4, -⟩ := M 4 (by decide)
    obtain ⟨m5, hm5, -⟩ := M 5 (by decide)
    obtain ⟨m6, hm6, -⟩ := M 6 (by decide)
    obtain ⟨m7, hm7, -⟩ := M 7 (by decide)
    exact ⟨⟨at_, r0, r1, r2, r3, m0, m1, m2, m3, m4, m5, m6, m7, rd, en⟩, o, xs, list16 hl (at_one e0) hr0 hr1 hr2 hr3 hm0 hm1 hm2 hm3 hm4 hm5 hm6 hm7 (at_one e3) ho (at_one e5), hS⟩
set_option maxRecDepth 100000 in
theorem open_cell {H : Type} {enc : TypeId × Value → H} {W : World} {r : Reach} {b0 base : Nat} {sp : Nat → Bool} {held : Bool} {v : Value} {d : DataW H} {p : List MemPlace} (hv : Value.okWide Tryd.prog W r b0 29 v) (h : DataW.Trod enc Tryd.prog W base sp held 29 v d p) :
    ∃ (c : Cel) (o : Value) (xs : List Int), v = c.v o ∧ Sl W 1 o xs.length (ints xs) := by
  obtain ⟨cs, rfl, hsz⟩ := okWide_struct Tryd.underlying29 hv
  obtain ⟨fuel, hf⟩ := h
  have h16 : Tryd.prog.cellsOf 29 = 16 := by kernel_rfl
  obtain ⟨c, o, xs, e, hS⟩ := cell_of (by simpa [Value.cells] using hsz.trans h16) hf
  refine ⟨c, o, xs, ?_, hS⟩
  rw [Cel.v_cs]
  congr 1
  exact Array.toList_inj.1 e
set_option maxRecDepth 100000 in
theorem open_want {H : Type} {enc : TypeId × Value → H} {W : World} {r : Reach} {b0 base : Nat} {sp : Nat → Bool} {held : Bool} {v : Value} {d : DataW H} {p : List MemPlace} (hv : Value.okWide Tryd.prog W r b0 31 v) (h : DataW.Trod enc Tryd.prog W base sp held 31 v d p) :
    ∃ k ch reg flag val : Int, v = wantV k ch reg flag val := by
  obtain ⟨cs, rfl, hsz⟩ := okWide_struct Tryd.underlying31 hv
  obtain ⟨fuel, hf⟩ := h
  have h5 : Tryd.prog.cellsOf 31 = 5 := by kernel_rfl
  have hl : cs.toList.length = 5 := by simpa using hsz.trans h5
  obtain ⟨ys, n, _, _, _, hlen, h⟩ := DataW.trod_struct Tryd.underlying31 hf
  have f0 := h 0 _ rfl
  have f1 := h 1 _ rfl
  have f2 := h 2 _ rfl
  have f3 := h 3 _ rfl
  have f4 := h 4 _ rfl
  match ys, hlen with
  | [y0, y1, y2, y3, y4], _ =>
    obtain ⟨a0, e0, -, -⟩ := DataW.trod_int Tryd.underlying3 f0
    obtain ⟨a1, e1, -, -⟩ := DataW.trod_int Tryd.underlying3 f1
    obtain ⟨a2, e2, -, -⟩ := DataW.trod_int Tryd.underlying3 f2
    obtain ⟨a3, e3, -, -⟩ := DataW.trod_int Tryd.underlying3 f3
    obtain ⟨a4, e4, -, -⟩ := DataW.trod_int Tryd.underlying3 f4
    change (cs.toList.drop 0).take (Tryd.prog.cellsOf 3) = _ at e0
    change (cs.toList.drop 1).take (Tryd.prog.cellsOf 3) = _ at e1
    change (cs.toList.drop 2).take (Tryd.prog.cellsOf 3) = _ at e2
    change (cs.toList.drop 3).take (Tryd.prog.cellsOf 3) = _ at e3
    change (cs.toList.drop 4).take (Tryd.prog.cellsOf 3) = _ at e4
    rw [cellsInt] at e0 e1 e2 e3 e4
    have g0 := at_one e0
    have g1 := at_one e1
    have g2 := at_one e2
    have g3 := at_one e3
    have g4 := at_one e4
    refine ⟨a0, a1, a2, a3, a4, ?_⟩
    unfold wantV
    congr 1
    refine Array.toList_inj.1 ?_
    generalize cs.toList = l at hl g0 g1 g2 g3 g4
    match l, hl with
    | [b0, b1, b2, b3, b4], _ =>
      simp at g0 g1 g2 g3 g4
      simp [g0, g1, g2, g3, g4]
theorem open_truth {H : Type} {enc : TypeId × Value → H} {W : World} {r : Reach} {b0 base : Nat} {sp : Nat → Bool} {held : Bool} {v : Value} {d : DataW H} {p : List MemPlace} (hv : Value.okWide Tryd.prog W r b0 4 v) (h : DataW.Trod enc Tryd.prog W base sp held 4 v d p) : ∃ b : Bool, v = .bool b := by
  obtain ⟨b, e, _⟩ := Go.RowKit.open_bool Tryd.underlying4 hv h
  exact ⟨b, e⟩
set_option maxRecDepth 100000 in
theorem open_part {H : Type} {enc : TypeId × Value → H} {W : World} {r : Reach} {b0 base : Nat} {sp : Nat → Bool} {held : Bool} {v : Value} {d : DataW H} {p : List MemPlace} (hv : Value.okWide Tryd.prog W r b0 25 v) (h : DataW.Trod enc Tryd.prog W base sp held 25 v d p) :
    ∃ (cv iv : Value) (l : List Ins) (inn : List Int), v = partV cv iv ∧ Sl W 4 cv l.length (codeC l) ∧ Sl W 1 iv inn.length (ints inn) ∧ ∀ j (hj : j < l.length), l[j].ok := by
  obtain ⟨c0, c1, y0, y1, m, rfl, rfl, rfl, h0, h1⟩ := open_agg2 Tryd.underlying25 (by kernel_rfl) (by kernel_rfl) hv h
  obtain ⟨l, hl, hlo⟩ := code_of h0
  obtain ⟨inn, hi, -⟩ := ints_of h1
  exact ⟨c0, c1, l, inn, rfl, hl, hi, hlo⟩
end Go.Proofs.YtbmocfgkocncpaaDoor

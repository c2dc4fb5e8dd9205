/- What the list of package-level variables gives: the table isa.shapes lies as its initialiser lays it. -/
import Derived.Test.YtbkdoohhdkahiaaGreatDoorK2
import Derived.Test.YtbkdoohhdkahiaaGreatDoorRows
import Derived.ProofKit
import Derived.Lib.LaidTab
import Derived.Stop.LaidErr
import Derived.Shelf.LaysM
import Derived.OpenShut
import Derived.LaidLaws
import Derived.WideWitness
import Derived.KernelRfl
namespace Go.Proofs.YtbkdoohhdkahiaaGreatDoor
set_option linter.unusedSimpArgs false
set_option linter.unusedVariables false
open Go.RowKit Go.Sort
theorem gER : Tryz.prog.globalNamed "strconv.ErrRange" = some 3 := by kernel_rfl
theorem gERType : (Tryz.prog.globals[3]?).map (·.type) = some 178 := by kernel_rfl
theorem gES : Tryz.prog.globalNamed "strconv.ErrSyntax" = some 2 := by kernel_rfl
theorem gESType : (Tryz.prog.globals[2]?).map (·.type) = some 178 := by kernel_rfl
theorem gPowType : (Tryz.prog.globals[4]?).map (·.type) = some 295 := by kernel_rfl
theorem gDb : Tryz.prog.globalNamed "math/bits.deBruijn64tab" = some 6 := by kernel_rfl
theorem star : "*" ++ "errors.errorString" = "*errors.errorString" := by decide
theorem rowErr (u : TypeId) (h : Tryz.prog.typeName? 3 u = some "*errors.errorString") : u = 299 :=
  typeName_ptr_named (nm := "errors.errorString") (by rw [star]; kernel_rfl) (by kernel_rfl) (by decide) u (by rw [star]; exact h)
theorem cellsErr : Tryz.prog.cellsOf 301 = 1 := by kernel_rfl
theorem cellsU64 : Tryz.prog.cellsOf 277 = 1 := by kernel_rfl
theorem cellsTab : Tryz.prog.cellsOf 295 = 20 := by kernel_rfl
theorem gShp : Tryz.prog.globalNamed "lychgate/isa.shapes" = some 1 := by kernel_rfl
theorem gShpType : (Tryz.prog.globals[1]?).map (·.type) = some 241 := by kernel_rfl
theorem cells9 : Tryz.prog.cellsOf 9 = 1 := by kernel_rfl
theorem cells55 : Tryz.prog.cellsOf 240 = 6 := by kernel_rfl
theorem cells4 : Tryz.prog.cellsOf 4 = 1 := by kernel_rfl
theorem cells3 : Tryz.prog.cellsOf 3 = 1 := by kernel_rfl
def rowD {H : Type} (k : Nat) : DataW H := .agg [.lit (.string (rowW k)), .lit (.bool (rowA k)), .lit (.bool (rowB k)), .lit (.bool (rowN k)), .lit (.int .i64 (rowLo k)), .lit (.int .i64 (rowHi k))]
theorem laid_rows {H : Type} : (Rows.laid_lychgate_isa_shapes : DataW H) = .agg ((List.range 16).map rowD) := rfl
theorem at_of {cs : List Value} {o : Nat} {v : Value} (h : (cs.drop o).take 1 = [v]) : cs[o]? = some v := by
  have := congrArg (·[0]?) h
  simpa [List.getElem?_take, List.getElem?_drop] using this
theorem at_in {cs : List Value} {a o : Nat} {v : Value} (h : ((cs.drop a).take 6)[o]? = some v) (ho : o < 6) : cs[a + o]? = some v := by
  rw [List.getElem?_take, if_pos ho, List.getElem?_drop] at h; exact h
theorem row_cells {H : Type} {enc : TypeId × Value → H} {W : World} {base : Nat} {sp : Nat → Bool} {held : Bool} {fuel : Nat} {cs : List Value} {k : Nat} {p : List MemPlace}
    (h : DataW.trod enc Tryz.prog W base sp held fuel 240 cs = some (rowD k, p)) :
    cs[0]? = some (.string ⟨(rowW k).toArray⟩) ∧ cs[1]? = some (.bool (rowA k)) ∧ cs[2]? = some (.bool (rowB k)) ∧ cs[3]? = some (.bool (rowN k)) ∧ cs[4]? = some (.int .i64 (rowLo k)) ∧ cs[5]? = some (.int .i64 (rowHi k)) := by
  obtain ⟨xs, n, _, hx, hl, hlen, hf⟩ := DataW.trod_struct Tryz.underlying240 h
  have f0 := hf 0 _ rfl
  have f1 := hf 1 _ rfl
  have f2 := hf 2 _ rfl
  have f3 := hf 3 _ rfl
  have f4 := hf 4 _ rfl
  have f5 := hf 5 _ rfl
  match xs, hlen with
  | [y0, y1, y2, y3, y4, y5], _ =>
    simp only [rowD, Prod.mk.injEq, DataW.agg.injEq, List.map_cons, List.map_nil, List.cons.injEq, and_true] at hx
    obtain ⟨⟨e0, e1, e2, e3, e4, e5⟩, _⟩ := hx
    obtain ⟨s, c0, d0, _⟩ := DataW.trod_string Tryz.underlying9 f0
    obtain ⟨b1, c1, d1⟩ := DataW.trod_bool Tryz.underlying4 f1
    obtain ⟨b2, c2, d2⟩ := DataW.trod_bool Tryz.underlying4 f2
    obtain ⟨b3, c3, d3⟩ := DataW.trod_bool Tryz.underlying4 f3
    obtain ⟨n4, c4, d4, _⟩ := DataW.trod_int Tryz.underlying3 f4
    obtain ⟨n5, c5, d5, _⟩ := DataW.trod_int Tryz.underlying3 f5
    subst d0 d1 d2 d3 d4 d5
    simp only [DataW.lit.injEq, Lit.string.injEq, Lit.bool.injEq, Lit.int.injEq, true_and] at e0 e1 e2 e3 e4 e5
    subst e1 e2 e3 e4 e5
    change (cs.drop 0).take (Tryz.prog.cellsOf 9) = _ at c0
    change (cs.drop 1).take (Tryz.prog.cellsOf 4) = _ at c1
    change (cs.drop 2).take (Tryz.prog.cellsOf 4) = _ at c2
    change (cs.drop 3).take (Tryz.prog.cellsOf 4) = _ at c3
    change (cs.drop 4).take (Tryz.prog.cellsOf 3) = _ at c4
    change (cs.drop 5).take (Tryz.prog.cellsOf 3) = _ at c5
    rw [cells9] at c0
    rw [cells4] at c1 c2 c3
    rw [cells3] at c4 c5
    have es : s = ⟨(rowW k).toArray⟩ := by
      apply ByteArray.ext
      rw [e0]
    exact ⟨es ▸ at_of c0, at_of c1, at_of c2, at_of c3, at_of c4, at_of c5⟩
theorem shp_of {W : World} {r : List (String × DataW Unit)} (h : laidMet Tryz.prog (("lychgate/isa.shapes", Rows.laid_lychgate_isa_shapes) :: r) W) : Shp W := by
  obtain ⟨ps, ⟨g', t', cs, fuel, p, q, hg', ht', hvar, hd, _, _⟩, _⟩ := h
  obtain rfl := Option.some.inj (gShp.symm.trans hg')
  obtain rfl := Option.some.inj (gShpType.symm.trans ht')
  obtain ⟨xs, m, _, hx, hl, hlen, hf⟩ := DataW.trod_array Tryz.underlying241 hd
  have hrow : ∀ k, k < 16 → ∃ p', DataW.trod (fun _ => ()) Tryz.prog W 0 (fun _ => true) false m 240 ((cs.toList.drop (k * 6)).take 6) = some (rowD k, p') := by
    intro k hk
    have h1 := hf k hk
    rw [cells55] at h1
    have h2 : xs.map (·.1) = (List.range 16).map rowD := by
      have := congrArg Prod.fst hx
      simp only [laid_rows, DataW.agg.injEq] at this
      exact this.symm
    have h3 := congrArg (·[k]?) h2
    simp only [List.getElem?_map, List.getElem?_range hk, Option.map_some] at h3
    cases hy : xs[k]? with
    | none => rw [hy] at h3; cases h3
    | some y =>
      rw [hy] at h3
      simp only [Option.map_some, Option.some.injEq] at h3
      refine ⟨y.2, ?_⟩
      rw [h1, hy, ← h3]
  have cell : ∀ i, W.cell? ⟨1, i, none⟩ = cs[i]? := fun i => World.var?_cell gShp hvar i
  have key : ∀ k, k < 16 → ∀ j v, j < 6 → ((cs.toList.drop (k * 6)).take 6)[j]? = some v → W.cell? ⟨1, k * 6 + j, none⟩ = some v := by
    intro k hk j v hj h
    have := at_in h hj
    rw [cell, ← Array.getElem?_toList]
    exact this
  refine ⟨?_, fun k hk => ?_, fun k hk => ?_, fun k hk => ?_, fun k hk => ?_, fun k hk => ?_, fun k hk => ?_⟩
  · have h0 : W.var? Tryz.prog "lychgate/isa.shapes" = some cs := hvar
    unfold World.var? at h0
    rw [gShp] at h0
    simp only [Option.bind_some] at h0
    rcases Nat.lt_or_ge 1 W.heap.size with h' | h'
    · exact h'
    · simp [Array.getElem?_eq_none h'] at h0
  all_goals obtain ⟨p', hp⟩ := hrow k hk
  all_goals obtain ⟨r0, r1, r2, r3, r4, r5⟩ := row_cells hp
  · exact key k hk 0 _ (by decide) r0
  · exact key k hk 1 _ (by decide) r1
  · exact key k hk 2 _ (by decide) r2
  · exact key k hk 3 _ (by decide) r3
  · exact key k hk 4 _ (by decide) r4
  · exact key k hk 5 _ (by decide) r5
theorem var_lt {W : World} {n : String} {g : Nat} {cs : Array Value} (hg : Tryz.prog.globalNamed n = some g) (h : W.var? Tryz.prog n = some cs) : g < W.heap.size := by
  unfold World.var? at h
  rw [hg] at h
  simp only [Option.bind_some] at h
  rcases Nat.lt_or_ge g W.heap.size with h' | h'
  · exact h'
  · simp [Array.getElem?_eq_none h'] at h
theorem max_of (w : World) (h : w.ShapedOpen Tryz.prog) : ∃ m, w.cell? ⟨0, 0, none⟩ = some (.int .i64 m) :=
  Go.Proofs.cell_of_shapedOpen_int (zero := #[.int .i64 0]) (t := 3) h (of_decide_eq_true (by kernel_rfl)) (by kernel_rfl) rfl (by kernel_rfl) (by kernel_rfl) Tryz.underlying3
theorem pow10_eq : Lib.pow10Tab = [1, 10, 100, 1000, 10000, 100000, 1000000, 10000000, 100000000, 1000000000, 10000000000, 100000000000, 1000000000000, 10000000000000, 100000000000000, 1000000000000000, 10000000000000000, 100000000000000000, 1000000000000000000, 10000000000000000000] := by decide +kernel
theorem env_of {W : World} (h : laidMetH Tryz.prog Rows.deskJudgesRow.laid W) (hs : W.ShapedOpen Tryz.prog) : Env W := by
  have h0 : laidMet Tryz.prog Rows.deskJudgesRow.laid W := h
  have h2 : laidMet Tryz.prog _ W := h0.tail
  have h3 : laidMet Tryz.prog _ W := h2.tail
  have h4 : laidMet Tryz.prog _ W := h3.tail
  have h5 : laidMet Tryz.prog _ W := h4.tail
  have h6 : laidMet Tryz.prog _ W := h5.tail
  obtain ⟨a0, s0, hv0, -, -, -⟩ := laid_sentinel h4 gER gERType Tryz.underlying178 rowErr Tryz.underlying299 Tryz.underlying301 rfl rfl Tryz.underlying9 cellsErr cells9
  obtain ⟨a1, s1, hv1, -, -, -⟩ := laid_sentinel h5 gES gESType Tryz.underlying178 rowErr Tryz.underlying299 Tryz.underlying301 rfl rfl Tryz.underlying9 cellsErr cells9
  have ht := Lib.tabIs_of_head (zs := [1, 10, 100, 1000, 10000, 100000, 1000000, 10000000, 100000000, 1000000000, 10000000000, 100000000000, 1000000000000, 10000000000000, 100000000000000, 1000000000000000, 10000000000000000, 100000000000000000, 1000000000000000000, 10000000000000000000]) gPow gPowType Tryz.underlying295 Tryz.underlying277 cellsU64 cellsTab h3
  refine ⟨shp_of h6, by rw [pow10_eq]; exact ht, ⟨_, _, by have h0 := World.var?_cell gES hv1 0; simpa using h0⟩, ⟨_, _, by have h0 := World.var?_cell gER hv0 0; simpa using h0⟩, max_of W hs, ?_⟩
  obtain ⟨ps, ⟨g', t', cs, fuel, p, q, hg', ht', hvar, hd, _, _⟩, _⟩ := h2
  exact var_lt gDb hvar
end Go.Proofs.YtbkdoohhdkahiaaGreatDoor
namespace Go.Proofs.YtbkdoohhdkahiaaGreatDoor
set_option linter.unusedSimpArgs false
set_option linter.unusedVariables false
def laidW (P : Program) (os : Os) : World :=
  let low := (World.holding P default ⟨#[], #[], []⟩).heap.size
  let w0 := World.holding P os ⟨#[.cells #[.string ⟨#[105, 110, 118, 97, 108, 105, 100, 32, 115, 121, 110, 116, 97, 120]⟩] 301, .cells #[.string ⟨#[118, 97, 108, 117, 101, 32, 111, 117, 116, 32, 111, 102, 32, 114, 97, 110, 103, 101]⟩] 301], #[], []⟩
  let put := fun (h : Array Obj) (g : Nat) (cs : Array Value) => h.modify g fun
      | .cells _ t frozen => .cells cs t frozen
      | o => o
  { w0 with heap := put (put (put (put (put (put w0.heap 1 #[.string ⟨#[]⟩, .bool false, .bool false, .bool false, .int .i64 0, .int .i64 0, .string ⟨#[115, 101, 116]⟩, .bool true, .bool false, .bool true, .int .i64 (-9223372036854775808), .int .i64 9223372036854775807, .string ⟨#[99, 111, 112, 121]⟩, .bool true, .bool true, .bool false, .int .i64 0, .int .i64 0, .string ⟨#[97, 100, 100]⟩, .bool true, .bool true, .bool false, .int .i64 0, .int .i64 0, .string ⟨#[115, 117, 98]⟩, .bool true, .bool true, .bool false, .int .i64 0, .int .i64 0, .string ⟨#[108, 101, 115, 115]⟩, .bool true, .bool true, .bool false, .int .i64 0, .int .i64 0, .string ⟨#[108, 111, 97, 100]⟩, .bool true, .bool true, .bool false, .int .i64 0, .int .i64 0, .string ⟨#[115, 97, 118, 101]⟩, .bool true, .bool true, .bool false, .int .i64 0, .int .i64 0, .string ⟨#[106, 117, 109, 112]⟩, .bool false, .bool false, .bool true, .int .i64 0, .int .i64 19, .string ⟨#[122, 101, 114, 111]⟩, .bool true, .bool false, .bool true, .int .i64 0, .int .i64 19, .string ⟨#[105, 110]⟩, .bool true, .bool false, .bool false, .int .i64 0, .int .i64 0, .string ⟨#[111, 117, 116]⟩, .bool true, .bool false, .bool false, .int .i64 0, .int .i64 0, .string ⟨#[112, 117, 116]⟩, .bool true, .bool false, .bool true, .int .i64 0, .int .i64 5, .string ⟨#[103, 101, 116]⟩, .bool true, .bool true, .bool true, .int .i64 0, .int .i64 5, .string ⟨#[114, 101, 115, 116]⟩, .bool false, .bool false, .bool false, .int .i64 0, .int .i64 0, .string ⟨#[115, 116, 111, 112]⟩, .bool false, .bool false, .bool false, .int .i64 0, .int .i64 0]) 4 #[.int .u64 1, .int .u64 10, .int .u64 100, .int .u64 1000, .int .u64 10000, .int .u64 100000, .int .u64 1000000, .int .u64 10000000, .int .u64 100000000, .int .u64 1000000000, .int .u64 10000000000, .int .u64 100000000000, .int .u64 1000000000000, .int .u64 10000000000000, .int .u64 100000000000000, .int .u64 1000000000000000, .int .u64 10000000000000000, .int .u64 100000000000000000, .int .u64 1000000000000000000, .int .u64 10000000000000000000]) 2 #[.iface 299 (.pointer (some ⟨low, 0, none⟩))]) 3 #[.iface 299 (.pointer (some ⟨low + 1, 0, none⟩))]) 5 #[.int .u8 0, .int .u8 1, .int .u8 28, .int .u8 2, .int .u8 29, .int .u8 14, .int .u8 24, .int .u8 3, .int .u8 30, .int .u8 22, .int .u8 20, .int .u8 15, .int .u8 25, .int .u8 17, .int .u8 4, .int .u8 8, .int .u8 31, .int .u8 27, .int .u8 13, .int .u8 23, .int .u8 21, .int .u8 19, .int .u8 16, .int .u8 7, .int .u8 26, .int .u8 12, .int .u8 18, .int .u8 6, .int .u8 11, .int .u8 5, .int .u8 10, .int .u8 9]) 6 #[.int .u8 0, .int .u8 1, .int .u8 56, .int .u8 2, .int .u8 57, .int .u8 49, .int .u8 28, .int .u8 3, .int .u8 61, .int .u8 58, .int .u8 42, .int .u8 50, .int .u8 38, .int .u8 29, .int .u8 17, .int .u8 4, .int .u8 62, .int .u8 47, .int .u8 59, .int .u8 36, .int .u8 45, .int .u8 43, .int .u8 51, .int .u8 22, .int .u8 53, .int .u8 39, .int .u8 33, .int .u8 30, .int .u8 24, .int .u8 18, .int .u8 12, .int .u8 5, .int .u8 63, .int .u8 55, .int .u8 48, .int .u8 27, .int .u8 60, .int .u8 41, .int .u8 37, .int .u8 16, .int .u8 46, .int .u8 35, .int .u8 44, .int .u8 21, .int .u8 52, .int .u8 32, .int .u8 23, .int .u8 11, .int .u8 54, .int .u8 26, .int .u8 40, .int .u8 15, .int .u8 34, .int .u8 20, .int .u8 31, .int .u8 10, .int .u8 25, .int .u8 14, .int .u8 19, .int .u8 9, .int .u8 13, .int .u8 8, .int .u8 7, .int .u8 6] }
end Go.Proofs.YtbkdoohhdkahiaaGreatDoor

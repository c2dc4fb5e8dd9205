/- What a law's row asks behind a call that answers true and keeps what was there: of whatever parameters. -/
import Derived.WalkKit
import Derived.ProofKit
import Derived.OpenShut
import Derived.Carry
import Derived.Test.YthpljbbhpbijgaaDoorRows
import Derived.Test.YthpljbbhpbijgaaDoorJg
import Derived.Test.YthpljbbhpbijgaaDoorJb
import Derived.WideWitness
import Derived.LaidLaws
import Derived.Lib.SmallJoins
import Derived.Deep.DeepHandedRow
import Derived.Deep.Slices
import Derived.Deep.Strs
namespace Go.Proofs.YthpljbbhpbijgaaDoor
set_option linter.unusedSimpArgs false
set_option linter.unusedVariables false
open Go.ChangeShapes Go.WideShapes Go.ChangeAt Go.RowKit

theorem trodAll_below {H : Type} {enc : TypeId × Value → H} {P : Program} (hl : laidOutB P = true) {W W' : World} (hb : Below W.heap.size W W') :
    ∀ (ts : List TypeId) (vs : List Value) (ds : List (DataW H)) (ps : List MemPlace), (∀ t ∈ ts, P.readableRec t = true ∧ t < P.types.size) → DataW.TrodAll enc P W 0 (fun _ => true) true ts vs ds ps → (∀ x ∈ ps, x.block < W.heap.size) →
      DataW.TrodAll enc P W' 0 (fun b => decide (b < W.heap.size)) true ts vs ds ps
  | [], [], [], _, _, h, _ => h
  | t :: ts, v :: vs, d :: ds, ps, hr, h, hlt => by
    obtain ⟨p, q, h1, h2, rfl⟩ := h
    exact ⟨p, q, Below.trod hl (hr t (by simp)).1 (hr t (by simp)).2 h1 hb (fun x hx => hlt x (by simp [hx])), trodAll_below hl hb ts vs ds q (fun t ht => hr t (by simp [ht])) h2 (fun x hx => hlt x (by simp [hx])), rfl⟩
  | [], _ :: _, _, _, _, h, _ => by cases h
  | [], [], _ :: _, _, _, h, _ => by cases h
  | _ :: _, [], _, _, _, h, _ => by cases h
  | _ :: _, _ :: _, [], _, _, h, _ => by cases h

theorem law_post {H : Type} {enc : TypeId × Value → H} {P : Program} {fn : Func} {s : ChangeSpec} {W W' : World} {args : Array Value} {ds gs : List (DataW H)} {before : List MemPlace} {tb : TypeId}
    (hl : laidOutB P = true) (hp : ∀ t ∈ fn.params.toList, P.readableRec t = true ∧ t < P.types.size) (hvars : s.vars = []) (hres : fn.resultTypes = #[tb]) (hbool : P.underlying tb = some .bool)
    (hW : DataW.Whole enc P fn.params.toList s.vars false W args.toList ds gs before)
    (hfn : gs = [] → (s.fn H (ds ++ gs)).results = [.lit (.bool true)] ∧ (s.fn H (ds ++ gs)).args = ds ∧ (s.fn H (ds ++ gs)).vars = [])
    (hb : Below W.heap.size W W') : s.post enc P fn false true false false W args (.bool true) W' := by
  have hW' := hW
  have hlt := hW.lt
  obtain ⟨p, q, hA, hV, rfl, hfz, hnd⟩ := hW
  rw [hvars] at hV
  obtain ⟨rfl, rfl⟩ := trodVars_none hV
  obtain ⟨e1, e2, e3⟩ := hfn rfl
  refine ⟨ds, [], p ++ [], [], p, [], hW', ?_, ?_, ?_, hb.frame _, fun h => by cases h⟩
  · rw [e1, hres]
    exact trodAll_cons_mk (shut_bool hbool _) trodAll_mk0
  · rw [e2]
    exact trodAll_below hl hb _ _ _ _ hp hA (fun x hx => hlt x (by simp [hx]))
  · rw [e3, hvars]
    rfl
end Go.Proofs.YthpljbbhpbijgaaDoor

namespace Go.Proofs.YthpljbbhpbijgaaDoor
set_option linter.unusedSimpArgs false
set_option linter.unusedVariables false
open Go.ChangeShapes Go.WideShapes Go.ChangeAt Go.RowKit Go.Joins Go.Deep

theorem own : ownKnob Tryd.prog.godebug = none := by kernel_rfl
theorem laidOut : laidOutB Tryd.prog = true := by kernel_rfl
theorem in64_of {n : Int} (h : (Lit.int .i64 n).wf = true) : in64 n := by
  have := bounds_i64 h
  exact ⟨this.1, this.2⟩

set_option maxRecDepth 100000 in
/-- A slice of flat things. -/
theorem sl_of {H : Type} {enc : TypeId × Value → H} {P : Program} {W : World} {base : Nat} {sp : Nat → Bool} {held : Bool} {t e : TypeId} {size : Nat} {α : Type} [Inhabited α] (f : α → List Value) (Q : α → Prop)
    (ht : P.underlying t = some (.slice e)) (hc : P.cellsOf e = size) (hs0 : 0 < size) (hfl : ∀ x, (f x).length = size)
    (elem : ∀ (n : Nat) (cs : List Value) (y : DataW H × List MemPlace), cs.length = size → DataW.trod enc P W base sp held n e cs = some y → ∃ q, cs = f q ∧ Q q)
    {v : Value} {fuel : Nat} {x : DataW H × List MemPlace} (hf : DataW.trod enc P W base sp held fuel t [v] = some x) : ∃ l : List α, Sl W size v l.length (rowC f l) ∧ ∀ j (hj : j < l.length), Q l[j] := by
  rcases open_slice ht hf with ⟨h1, _⟩ | ⟨a, len, cap, m, n, D, Pl, e1, hb, hl, hm, hmm, _, hx⟩
  · obtain rfl : v = .slice none 0 0 := by simpa using h1
    exact ⟨[], Sl.nil W size, fun j hj => absurd hj (by simp)⟩
  · obtain rfl : v = .slice (some a) len cap := by simpa using e1
    have hlm : len ≤ m := by rw [hmm]; split <;> omega
    have each : ∀ i, i < len → ∃ q : α, (∀ k, k < size → W.cell? (a.add (i * size + k)) = (f q)[k]?) ∧ Q q := by
      intro i hi
      obtain ⟨cs', h1, h2⟩ := hx i (by omega)
      rw [hc] at h1
      obtain ⟨_, hlen, hcell⟩ := World.cells?_some h1
      obtain ⟨q, rfl, hq⟩ := elem _ _ _ hlen h2
      refine ⟨q, fun k hk => ?_, hq⟩
      have := hcell k hk
      rwa [add_add] at this
    obtain ⟨q, hq⟩ := choose_lt each
    refine ⟨(List.range len).map q, ?_, fun j hj => by simpa using (hq j (by simpa using hj)).2⟩
    have hlen : ((List.range len).map q).length = len := by simp
    refine ⟨rowC_len hfl _, some a, cap, by rw [hlen], by omega, fun hpos => ?_⟩
    have h00 := (hq 0 (by omega)).1 0 hs0
    obtain ⟨v0, hv0⟩ : ∃ v0, (f (q 0))[0]? = some v0 := ⟨(f (q 0))[0]'(by rw [hfl]; exact hs0), List.getElem?_eq_getElem _⟩
    rw [hv0, Nat.zero_mul] at h00
    have hs : a.spot = none := by
      have := World.cell?_spot h00
      simpa [Addr.add] using this
    obtain ⟨b, off, s⟩ := a
    simp only at hs
    subst hs
    refine ⟨b, off, rfl, ?_, fun j u hj => ?_⟩
    · simp only [Addr.add, if_true] at h00
      unfold World.cell? at h00
      by_cases hlt : b < W.heap.size
      · exact hlt
      · simp [Array.getElem?_eq_none (Nat.le_of_not_lt hlt)] at h00
    · have hjl : j < len * size := by
        have := (List.getElem?_eq_some_iff.1 hj).1
        rw [rowC_len hfl, hlen] at this
        exact this
      have hdm : j / size * size + j % size = j := by rw [Nat.mul_comm]; exact Nat.div_add_mod j size
      have hdl : j / size < len := Nat.div_lt_of_lt_mul (by rw [Nat.mul_comm]; exact hjl)
      have hml : j % size < size := Nat.mod_lt _ hs0
      rw [← hdm, rowC_at hfl _ _ _ (by rw [hlen]; exact hdl) hml] at hj
      simp only [List.getElem_map, List.getElem_range] at hj
      have key : ∀ x : Nat, (⟨b, off + x, none⟩ : Addr) = (⟨b, off, none⟩ : Addr).add x := fun x => by
        unfold Addr.add
        by_cases h0 : x = 0 <;> simp [h0]
      rw [key, ← hdm, (hq (j / size) hdl).1 _ hml]
      exact hj

theorem codeC_row : ∀ l : List Ins, codeC l = rowC Ins.cells l
  | [] => rfl
  | i :: r => by rw [codeC, codeC_row r]; rfl
theorem ints_row (l : List Int) : ints l = rowC (fun z : Int => [Value.int .i64 z]) l := by
  unfold ints rowC
  induction l with
  | nil => rfl
  | cons z r ih => rw [List.map_cons, List.flatMap_cons, ih]; rfl
instance : Inhabited Ins := ⟨⟨0, 0, 0, 0⟩⟩
theorem cellsInt : Tryd.prog.cellsOf 3 = 1 := by kernel_rfl
theorem cellsCode : Tryd.prog.cellsOf 70 = 1 := by kernel_rfl
theorem cellsInts : Tryd.prog.cellsOf 42 = 1 := by kernel_rfl

set_option maxRecDepth 100000 in
theorem code_of {H : Type} {enc : TypeId × Value → H} {W : World} {base : Nat} {sp : Nat → Bool} {held : Bool} {v : Value} {fuel : Nat} {x : DataW H × List MemPlace} (hf : DataW.trod enc Tryd.prog W base sp held fuel 70 [v] = some x) :
    ∃ l : List Ins, Sl W 4 v l.length (codeC l) ∧ ∀ j (hj : j < l.length), l[j].ok := by
  obtain ⟨l, h1, h2⟩ := sl_of (size := 4) Ins.cells Ins.ok Tryd.underlying70 (by kernel_rfl) (by decide) (fun _ => rfl) (fun n cs y hl h => by
    obtain ⟨y0, y1, y2, y3, k, hxy, _, g0, g1, g2, g3⟩ := trod_struct4 Tryd.underlying79 h
    match cs, hl with
    | [v0, v1, v2, v3], _ =>
      obtain ⟨op, e0, -, w0⟩ := DataW.trod_int Tryd.underlying3 g0
      obtain ⟨a', e1, -, w1⟩ := DataW.trod_int Tryd.underlying3 g1
      obtain ⟨b, e2, -, w2⟩ := DataW.trod_int Tryd.underlying3 g2
      obtain ⟨n', e3, -, w3⟩ := DataW.trod_int Tryd.underlying3 g3
      simp [cellsInt] at e0 e1 e2 e3
      subst e0 e1 e2 e3
      exact ⟨⟨op, a', b, n'⟩, rfl, in64_of w0, in64_of w1, in64_of w2, in64_of w3⟩) hf
  exact ⟨l, by rw [codeC_row]; exact h1, h2⟩
set_option maxRecDepth 100000 in
theorem ints_of {H : Type} {enc : TypeId × Value → H} {W : World} {base : Nat} {sp : Nat → Bool} {held : Bool} {v : Value} {fuel : Nat} {x : DataW H × List MemPlace} (hf : DataW.trod enc Tryd.prog W base sp held fuel 42 [v] = some x) :
    ∃ l : List Int, Sl W 1 v l.length (ints l) ∧ ∀ j (hj : j < l.length), in64 l[j] := by
  obtain ⟨l, h1, h2⟩ := sl_of (fun z : Int => [Value.int .i64 z]) in64 Tryd.underlying42 (by kernel_rfl) (by decide) (fun _ => rfl) (fun n cs y hl h => by
    obtain ⟨q, e0, -, w0⟩ := DataW.trod_int Tryd.underlying3 h
    exact ⟨q, e0, in64_of w0⟩) hf
  exact ⟨l, by rw [ints_row]; exact h1, h2⟩
set_option maxRecDepth 100000 in
theorem open_int {H : Type} {enc : TypeId × Value → H} {W : World} {r : Reach} {b0 base : Nat} {sp : Nat → Bool} {held : Bool} {v : Value} {d : DataW H} {p : List MemPlace} (hv : Value.okWide Tryd.prog W r b0 3 v) (h : DataW.Trod enc Tryd.prog W base sp held 3 v d p) :
    ∃ n : Int, v = .int .i64 n ∧ in64 n := by
  obtain ⟨fuel, hf⟩ := h
  obtain ⟨n, e, -, w0⟩ := DataW.trod_int Tryd.underlying3 hf
  obtain ⟨m, rfl⟩ := okWide_int Tryd.underlying3 hv
  obtain rfl : m = n := by simpa [Value.cells] using e
  exact ⟨m, rfl, in64_of w0⟩
end Go.Proofs.YthpljbbhpbijgaaDoor

namespace Go.Proofs.YthpljbbhpbijgaaDoor
set_option linter.unusedSimpArgs false
set_option linter.unusedVariables false
open Go.ChangeShapes Go.WideShapes Go.ChangeAt Go.RowKit Go.Joins Go.Deep

instance : Inhabited Chn := ⟨⟨0, 0, 0⟩⟩
instance : Inhabited Slt := ⟨⟨0, 0⟩⟩
instance : Inhabited Prt := ⟨⟨[], []⟩⟩
set_option maxRecDepth 100000 in
theorem chans_of {H : Type} {enc : TypeId × Value → H} {W : World} {base : Nat} {sp : Nat → Bool} {held : Bool} {v : Value} {fuel : Nat} {x : DataW H × List MemPlace} (hf : DataW.trod enc Tryd.prog W base sp held fuel 23 [v] = some x) :
    ∃ l : List Chn, Sl W 3 v l.length (rowC chC l) ∧ ∀ j (hj : j < l.length), in64 l[j].kd ∧ in64 l[j].fr ∧ in64 l[j].tt :=
  sl_of chC (fun c => in64 c.kd ∧ in64 c.fr ∧ in64 c.tt) Tryd.underlying23 (by kernel_rfl) (by decide) (fun _ => rfl) (fun n cs y hl h => by
    obtain ⟨y0, y1, y2, k, hxy, _, g0, g1, g2⟩ := trod_struct3 Tryd.underlying75 h
    match cs, hl with
    | [v0, v1, v2], _ =>
      obtain ⟨a, e0, -, w0⟩ := DataW.trod_int Tryd.underlying3 g0
      obtain ⟨b, e1, -, w1⟩ := DataW.trod_int Tryd.underlying3 g1
      obtain ⟨c, e2, -, w2⟩ := DataW.trod_int Tryd.underlying3 g2
      simp [cellsInt] at e0 e1 e2
      subst e0 e1 e2
      exact ⟨⟨a, b, c⟩, rfl, in64_of w0, in64_of w1, in64_of w2⟩) hf
set_option maxRecDepth 100000 in
theorem slots_of {H : Type} {enc : TypeId × Value → H} {W : World} {base : Nat} {sp : Nat → Bool} {held : Bool} {v : Value} {fuel : Nat} {x : DataW H × List MemPlace} (hf : DataW.trod enc Tryd.prog W base sp held fuel 24 [v] = some x) :
    ∃ l : List Slt, Sl W 2 v l.length (rowC slC l) ∧ ∀ j (hj : j < l.length), in64 l[j].pt ∧ in64 l[j].tk :=
  sl_of slC (fun c => in64 c.pt ∧ in64 c.tk) Tryd.underlying24 (by kernel_rfl) (by decide) (fun _ => rfl) (fun n cs y hl h => by
    obtain ⟨y0, y1, k, hxy, _, g0, g1⟩ := trod_struct2 Tryd.underlying77 h
    match cs, hl with
    | [v0, v1], _ =>
      obtain ⟨a, e0, -, w0⟩ := DataW.trod_int Tryd.underlying3 g0
      obtain ⟨b, e1, -, w1⟩ := DataW.trod_int Tryd.underlying3 g1
      simp [cellsInt] at e0 e1
      subst e0 e1
      exact ⟨⟨a, b⟩, rfl, in64_of w0, in64_of w1⟩) hf
def Prt.ok (p : Prt) : Prop := (∀ j (hj : j < p.code.length), p.code[j].ok) ∧ ∀ j (hj : j < p.inn.length), in64 p.inn[j]
set_option maxRecDepth 100000 in
theorem parts_of {H : Type} {enc : TypeId × Value → H} {W : World} {base : Nat} {sp : Nat → Bool} {held : Bool} {v : Value} {fuel : Nat} {x : DataW H × List MemPlace} (hf : DataW.trod enc Tryd.prog W base sp held fuel 22 [v] = some x) :
    ∃ ps : List Prt, PartsR W v ps ∧ ∀ p ∈ ps, p.ok := by
  obtain ⟨l, h1, h2⟩ := sl_of (size := 2) prC (fun q => ∃ p : Prt, PrtR W q.1 q.2 p ∧ p.ok) Tryd.underlying22 (by kernel_rfl) (by decide) (fun _ => rfl) (fun n cs y hl h => by
    obtain ⟨y0, y1, k, hxy, _, g0, g1⟩ := trod_struct2 Tryd.underlying72 h
    match cs, hl with
    | [v0, v1], _ =>
      simp only [List.drop, cellsCode, List.take] at g0
      simp only [List.drop, cellsInts, List.take] at g1
      obtain ⟨c, hc, hc2⟩ := code_of g0
      obtain ⟨i, hi, hi2⟩ := ints_of g1
      exact ⟨(v0, v1), rfl, ⟨c, i⟩, ⟨hc, hi⟩, hc2, hi2⟩) hf
  obtain ⟨g, hg⟩ := choose_lt (n := l.length) (p := fun j p => ∀ hj : j < l.length, PrtR W l[j].1 l[j].2 p ∧ p.ok) (fun j hj => by
    obtain ⟨p, hp⟩ := h2 j hj
    exact ⟨p, fun _ => hp⟩)
  refine ⟨(List.range l.length).map g, ⟨l, by simp, by simpa using h1, fun k hk hk' => ?_⟩, fun p hp => ?_⟩
  · have := (hg k hk' hk').1
    simpa using this
  · obtain ⟨j, hj, rfl⟩ := List.mem_map.1 hp
    have hj : j < l.length := by simpa using hj
    exact (hg j hj hj).2

set_option maxRecDepth 100000 in
/-- A system that came in, opened. -/
theorem open_system {H : Type} {enc : TypeId × Value → H} {W : World} {r : Reach} {b0 base : Nat} {sp : Nat → Bool} {held : Bool} {v : Value} {d : DataW H} {p : List MemPlace} (hv : Value.okWide Tryd.prog W r b0 26 v) (h : DataW.Trod enc Tryd.prog W base sp held 26 v d p) :
    ∃ (vp vc vs : Value) (S : SysD), v = .agg #[vp, vc, vs] ∧ Sys W vp vc vs S ∧ S.ok := by
  obtain ⟨c0, c1, c2, y0, y1, y2, m, rfl, rfl, rfl, h0, h1, h2⟩ := open_agg3 Tryd.underlying26 (by kernel_rfl) (by kernel_rfl) hv h
  obtain ⟨ps, hp, hpo⟩ := parts_of h0
  obtain ⟨cs, hc, hco⟩ := chans_of h1
  obtain ⟨ss, hs, hso⟩ := slots_of h2
  exact ⟨c0, c1, c2, ⟨ps, cs, ss⟩, rfl, ⟨hp, hc, hs⟩, fun p hp' => (hpo p hp').1⟩
end Go.Proofs.YthpljbbhpbijgaaDoor

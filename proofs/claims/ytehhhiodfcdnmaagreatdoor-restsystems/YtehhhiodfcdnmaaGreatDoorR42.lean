/- What a law's row asks behind a call that answers true and keeps what was there: of whatever parameters. -/
import Derived.WalkKit
import Derived.ProofKit
import Derived.OpenShut
import Derived.Carry
import Derived.Test.YtehhhiodfcdnmaaGreatDoorRows
import Derived.Test.YtehhhiodfcdnmaaGreatDoorR2
import Derived.Test.YtehhhiodfcdnmaaGreatDoorR1
import Derived.WideWitness
import Derived.LaidLaws
import Derived.Lib.SmallJoins
import Derived.Deep.DeepHandedRow
import Derived.Deep.Slices
import Derived.Deep.Strs
import Derived.Test.YtehhhiodfcdnmaaGreatDoorR6
import Derived.Laws.IdiomArrays
import Derived.KernelRfl
namespace Go.Proofs.YtehhhiodfcdnmaaGreatDoor
set_option linter.unusedSimpArgs false
set_option linter.unusedVariables false
set_option maxRecDepth 100000
open Go.ChangeShapes Go.WideShapes Go.ChangeAt Go.RowKit
theorem trodAll_below {H : Type} {enc : TypeId × Value → H} {P : Program} (hl : laidOutB P = true) {W W' : World} (hb : Below W.heap.size W W') :
  ∀ (ts : List TypeId) (vs : List Value) (ds : List (DataW H)) (ps : List MemPlace), (∀ t ∈ ts, P.readableRec t = true ∧ t < P.types.size) → DataW.TrodAll enc P W 0 (fun _ => true) true ts vs ds ps → (∀ x ∈ ps, x.block < W.heap.size) →
   DataW.TrodAll enc P W' 0 (fun b => decide (b < W.heap.size)) true ts vs ds ps
 | [], [], [], _, _, h, _ => h
 | t :: ts, v :: vs, d :: ds, ps, hr, h, hlt => by
  obtain ⟨p, q, h1, h2, rfl⟩ := h
  exact ⟨p, q, Below.trod hl (hr t (by simp)).1 (hr t (by simp)).2 h1 hb (fun x hx => hlt x (by simp [hx])), trodAll_below hl hb ts vs ds q (fun t ht => hr t (by simp [ht])) h2 (fun x hx => hlt x (by simp [hx])), rfl⟩
 | [], _ :: _, _, _, _, h, _ => by cases h
 | [], [], _ :: _, _, _, h, _ => by cases h
 | _ :: _, [], _, _, _, h, _ => by cases h
 | _ :: _, _ :: _, [], _, _, h, _ => by cases h
theorem law_post {H : Type} {enc : TypeId × Value → H} {P : Program} {fn : Func} {s : ChangeSpec} {W W' : World} {args : Array Value} {ds gs : List (DataW H)} {before : List MemPlace} {tb : TypeId}
  (hl : laidOutB P = true) (hp : ∀ t ∈ fn.params.toList, P.readableRec t = true ∧ t < P.types.size) (hvars : s.vars = []) (hres : fn.resultTypes = #[tb]) (hbool : P.underlying tb = some .bool)
  (hW : DataW.Whole enc P fn.params.toList s.vars false W args.toList ds gs before)
  (hfn : gs = [] → (s.fn H (ds ++ gs)).results = [.lit (.bool true)] ∧ (s.fn H (ds ++ gs)).args = ds ∧ (s.fn H (ds ++ gs)).vars = [])
  (hb : Below W.heap.size W W') : s.post enc P fn false true false false W args (.bool true) W' := by
 have hW' := hW
 have hlt := hW.lt
 obtain ⟨p, q, hA, hV, rfl, hfz, hnd⟩ := hW
 rw [hvars] at hV
 obtain ⟨rfl, rfl⟩ := trodVars_none hV
 obtain ⟨e1, e2, e3⟩ := hfn rfl
 refine ⟨ds, [], p ++ [], [], p, [], hW', ?_, ?_, ?_, hb.frame _, fun h => by cases h⟩
 ·rw [e1, hres]
  exact trodAll_cons_mk (shut_bool hbool _) trodAll_mk0
 ·rw [e2]
  exact trodAll_below hl hb _ _ _ _ hp hA (fun x hx => hlt x (by simp [hx]))
 ·rw [e3, hvars]
  rfl
open Go.ChangeShapes Go.WideShapes Go.ChangeAt Go.RowKit Go.Joins Go.Deep
theorem own : ownKnob Tryz.prog.godebug = none := by kernel_rfl
theorem laidOut : laidOutB Tryz.prog = true := by kernel_rfl
theorem in64_of {n : Int} (h : (Lit.int .i64 n).wf = true) : in64 n := by
 have := bounds_i64 h
 exact ⟨this.1, this.2⟩
theorem nf_left {W : World} {p q : List MemPlace} (h : W.noneFrozen (p ++ q)) : W.noneFrozen p := fun b o hm => h b o (List.mem_append_left _ hm)
theorem nf_right {W : World} {p q : List MemPlace} (h : W.noneFrozen (p ++ q)) : W.noneFrozen q := fun b o hm => h b o (List.mem_append_right _ hm)
theorem sl_of {H : Type} {enc : TypeId × Value → H} {P : Program} {W : World} {base : Nat} {sp : Nat → Bool} {held : Bool} {t e : TypeId} {size : Nat} {α : Type} [Inhabited α] (f : α → List Value) (Q : α → Prop)
  (ht : P.underlying t = some (.slice e)) (hc : P.cellsOf e = size) (hs0 : 0 < size) (hfl : ∀ x, (f x).length = size)
  (elem : ∀ (n : Nat) (cs : List Value) (y : DataW H × List MemPlace), cs.length = size → DataW.trod enc P W base sp held n e cs = some y → W.noneFrozen y.2 → ∃ q, cs = f q ∧ Q q)
  {v : Value} {fuel : Nat} {x : DataW H × List MemPlace} (hf : DataW.trod enc P W base sp held fuel t [v] = some x) (hz : W.noneFrozen x.2) : ∃ l : List α, Sl W size v l.length (rowC f l) ∧ ∀ j (hj : j < l.length), Q l[j] := by
 rcases open_slice ht hf with ⟨h1, _⟩ | ⟨a, len, cap, m, n, D, Pl, e1, hb, hl, hm, hmm, hxe, hx⟩
 ·obtain rfl : v = .slice none 0 0 := by simpa using h1
  exact ⟨[], Sl.nil W size, fun j hj => absurd hj (by simp)⟩
 ·obtain rfl : v = .slice (some a) len cap := by simpa using e1
  have hlm : len ≤ m := by rw [hmm]; split <;> omega
  rw [hxe] at hz
  have hz1 := nf_left hz
  have hz2 := nf_right hz
  have each : ∀ i, i < len → ∃ q : α, (∀ k, k < size → W.cell? (a.add (i * size + k)) = (f q)[k]?) ∧ Q q := by
   intro i hi
   obtain ⟨cs', h1, h2⟩ := hx i om
   rw [hc] at h1
   obtain ⟨_, hlen, hcell⟩ := World.cells?_some h1
   obtain ⟨q, rfl, hq⟩ := elem _ _ _ hlen h2 (fun b o hmem => hz2 b o (List.mem_flatMap.2 ⟨i, List.mem_range.2 om, hmem⟩))
   refine ⟨q, fun k hk => ?_, hq⟩
   have := hcell k hk
   rwa [add_add] at this
  obtain ⟨q, hq⟩ := choose_lt each
  refine ⟨(List.range len).map q, ?_, fun j hj => by simpa using (hq j (by simpa using hj)).2⟩
  have hlen : ((List.range len).map q).length = len := by simp
  refine ⟨rowC_len hfl _, some a, cap, by rw [hlen], by omega, fun hpos => ?_⟩
  have h00 := (hq 0 om).1 0 hs0
  obtain ⟨v0, hv0⟩ : ∃ v0, (f (q 0))[0]? = some v0 := ⟨(f (q 0))[0]'(by rw [hfl]; exact hs0), List.getElem?_eq_getElem _⟩
  rw [hv0, Nat.zero_mul] at h00
  have hs : a.spot = none := by
   have := World.cell?_spot h00
   simpa [Addr.add] using this
  obtain ⟨b, off, s⟩ := a
  simp only at hs
  subst hs
  refine ⟨b, off, rfl, ?_, fun j u hj => ?_, fun j hj => hz1 b (off + j) (List.mem_map.2 ⟨j, List.mem_range.2 ?_, rfl⟩)⟩
  ·simp only [Addr.add, if_true] at h00
   unfold World.cell? at h00
   by_cases hlt : b < W.heap.size
   ·exact hlt
   ·simp [Array.getElem?_eq_none (Nat.le_of_not_lt hlt)] at h00
  ·have hjl : j < len * size := by
    have := (List.getElem?_eq_some_iff.1 hj).1
    rw [rowC_len hfl, hlen] at this
    exact this
   have hdm : j / size * size + j % size = j := by rw [Nat.mul_comm]; exact Nat.div_add_mod j size
   have hdl : j / size < len := Nat.div_lt_of_lt_mul (by rw [Nat.mul_comm]; exact hjl)
   have hml : j % size < size := Nat.mod_lt _ hs0
   rw [← hdm, rowC_at hfl _ _ _ (by rw [hlen]; exact hdl) hml] at hj
   simp only [List.getElem_map, List.getElem_range] at hj
   have key : ∀ x : Nat, (⟨b, off + x, none⟩ : Addr) = (⟨b, off, none⟩ : Addr).add x := fun x => by
    unfold Addr.add
    by_cases h0 : x = 0 <;> simp [h0]
   rw [key, ← hdm, (hq (j / size) hdl).1 _ hml]
   exact hj
  ·rw [rowC_len hfl, hlen] at hj
   rw [hc]
   exact Nat.lt_of_lt_of_le hj (Nat.mul_le_mul_right _ hlm)
theorem codeC_row : ∀ l : List Ins, codeC l = rowC Ins.cells l
 | [] => rfl
 | i :: r => by rw [codeC, codeC_row r]; rfl
theorem ints_row (l : List Int) : ints l = rowC (fun z : Int => [Value.int .i64 z]) l := by
 unfold ints rowC
 induction l with
 | nil => rfl
 | cons z r ih => rw [List.map_cons, List.flatMap_cons, ih]; rfl
instance : Inhabited Ins := ⟨⟨0, 0, 0, 0⟩⟩
theorem cellsInt : Tryz.prog.cellsOf 3 = 1 := by kernel_rfl
theorem cellsCode : Tryz.prog.cellsOf 47 = 1 := by kernel_rfl
theorem cellsInts : Tryz.prog.cellsOf 33 = 1 := by kernel_rfl
theorem code_of {H : Type} {enc : TypeId × Value → H} {W : World} {base : Nat} {sp : Nat → Bool} {held : Bool} {v : Value} {fuel : Nat} {x : DataW H × List MemPlace} (hf : DataW.trod enc Tryz.prog W base sp held fuel 47 [v] = some x) (hz : W.noneFrozen x.2) :
  ∃ l : List Ins, Sl W 4 v l.length (codeC l) ∧ ∀ j (hj : j < l.length), l[j].ok := by
 obtain ⟨l, h1, h2⟩ := sl_of (size := 4) Ins.cells Ins.ok Tryz.underlying47 kr (by decide) (fun _ => rfl) (fun n cs y hl h _ => by
  obtain ⟨y0, y1, y2, y3, k, hxy, _, g0, g1, g2, g3⟩ := trod_struct4 Tryz.underlying83 h
  match cs, hl with
  | [v0, v1, v2, v3], _ =>
   obtain ⟨op, e0, -, w0⟩ := DataW.trod_int Tryz.underlying3 g0
   obtain ⟨a', e1, -, w1⟩ := DataW.trod_int Tryz.underlying3 g1
   obtain ⟨b, e2, -, w2⟩ := DataW.trod_int Tryz.underlying3 g2
   obtain ⟨n', e3, -, w3⟩ := DataW.trod_int Tryz.underlying3 g3
   simp [cellsInt] at e0 e1 e2 e3
   subst e0 e1 e2 e3
   exact ⟨⟨op, a', b, n'⟩, rfl, in64_of w0, in64_of w1, in64_of w2, in64_of w3⟩) hf hz
 exact ⟨l, by rw [codeC_row]; exact h1, h2⟩
theorem ints_of {H : Type} {enc : TypeId × Value → H} {W : World} {base : Nat} {sp : Nat → Bool} {held : Bool} {v : Value} {fuel : Nat} {x : DataW H × List MemPlace} (hf : DataW.trod enc Tryz.prog W base sp held fuel 33 [v] = some x) (hz : W.noneFrozen x.2) :
  ∃ l : List Int, Sl W 1 v l.length (ints l) ∧ ∀ j (hj : j < l.length), in64 l[j] := by
 obtain ⟨l, h1, h2⟩ := sl_of (fun z : Int => [Value.int .i64 z]) in64 Tryz.underlying33 kr (by decide) (fun _ => rfl) (fun n cs y hl h _ => by
  obtain ⟨q, e0, -, w0⟩ := DataW.trod_int Tryz.underlying3 h
  exact ⟨q, e0, in64_of w0⟩) hf hz
 exact ⟨l, by rw [ints_row]; exact h1, h2⟩
theorem open_int {H : Type} {enc : TypeId × Value → H} {W : World} {r : Reach} {b0 base : Nat} {sp : Nat → Bool} {held : Bool} {v : Value} {d : DataW H} {p : List MemPlace} (hv : Value.okWide Tryz.prog W r b0 3 v) (h : DataW.Trod enc Tryz.prog W base sp held 3 v d p) :
  ∃ n : Int, v = .int .i64 n ∧ in64 n := by
 obtain ⟨fuel, hf⟩ := h
 obtain ⟨n, e, -, w0⟩ := DataW.trod_int Tryz.underlying3 hf
 obtain ⟨m, rfl⟩ := okWide_int Tryz.underlying3 hv
 obtain rfl : m = n := by simpa [Value.cells] using e
 exact ⟨m, rfl, in64_of w0⟩
instance : Inhabited Chn := ⟨⟨0, 0, 0⟩⟩
instance : Inhabited Slt := ⟨⟨0, 0⟩⟩
instance : Inhabited Prt := ⟨⟨[], []⟩⟩
theorem chans_of {H : Type} {enc : TypeId × Value → H} {W : World} {base : Nat} {sp : Nat → Bool} {held : Bool} {v : Value} {fuel : Nat} {x : DataW H × List MemPlace} (hf : DataW.trod enc Tryz.prog W base sp held fuel 23 [v] = some x) (hz : W.noneFrozen x.2) :
  ∃ l : List Chn, Sl W 3 v l.length (rowC chC l) ∧ ∀ j (hj : j < l.length), in64 l[j].kd ∧ in64 l[j].fr ∧ in64 l[j].tt :=
 sl_of chC (fun c => in64 c.kd ∧ in64 c.fr ∧ in64 c.tt) Tryz.underlying23 kr (by decide) (fun _ => rfl) (fun n cs y hl h _ => by
  obtain ⟨y0, y1, y2, k, hxy, _, g0, g1, g2⟩ := trod_struct3 Tryz.underlying89 h
  match cs, hl with
  | [v0, v1, v2], _ =>
   obtain ⟨a, e0, -, w0⟩ := DataW.trod_int Tryz.underlying3 g0
   obtain ⟨b, e1, -, w1⟩ := DataW.trod_int Tryz.underlying3 g1
   obtain ⟨c, e2, -, w2⟩ := DataW.trod_int Tryz.underlying3 g2
   simp [cellsInt] at e0 e1 e2
   subst e0 e1 e2
   exact ⟨⟨a, b, c⟩, rfl, in64_of w0, in64_of w1, in64_of w2⟩) hf hz
theorem slots_of {H : Type} {enc : TypeId × Value → H} {W : World} {base : Nat} {sp : Nat → Bool} {held : Bool} {v : Value} {fuel : Nat} {x : DataW H × List MemPlace} (hf : DataW.trod enc Tryz.prog W base sp held fuel 24 [v] = some x) (hz : W.noneFrozen x.2) :
  ∃ l : List Slt, Sl W 2 v l.length (rowC slC l) ∧ ∀ j (hj : j < l.length), in64 l[j].pt ∧ in64 l[j].tk :=
 sl_of slC (fun c => in64 c.pt ∧ in64 c.tk) Tryz.underlying24 kr (by decide) (fun _ => rfl) (fun n cs y hl h _ => by
  obtain ⟨y0, y1, k, hxy, _, g0, g1⟩ := trod_struct2 Tryz.underlying105 h
  match cs, hl with
  | [v0, v1], _ =>
   obtain ⟨a, e0, -, w0⟩ := DataW.trod_int Tryz.underlying3 g0
   obtain ⟨b, e1, -, w1⟩ := DataW.trod_int Tryz.underlying3 g1
   simp [cellsInt] at e0 e1
   subst e0 e1
   exact ⟨⟨a, b⟩, rfl, in64_of w0, in64_of w1⟩) hf hz
def Prt.ok (p : Prt) : Prop := (∀ j (hj : j < p.code.length), p.code[j].ok) ∧ ∀ j (hj : j < p.inn.length), in64 p.inn[j]
theorem parts_of {H : Type} {enc : TypeId × Value → H} {W : World} {base : Nat} {sp : Nat → Bool} {held : Bool} {v : Value} {fuel : Nat} {x : DataW H × List MemPlace} (hf : DataW.trod enc Tryz.prog W base sp held fuel 22 [v] = some x) (hz : W.noneFrozen x.2) :
  ∃ ps : List Prt, PartsR W v ps ∧ ∀ p ∈ ps, p.ok := by
 obtain ⟨l, h1, h2⟩ := sl_of (size := 2) prC (fun q => ∃ p : Prt, PrtR W q.1 q.2 p ∧ p.ok) Tryz.underlying22 kr (by decide) (fun _ => rfl) (fun n cs y hl h hy => by
  obtain ⟨y0, y1, k, hxy, _, g0, g1⟩ := trod_struct2 Tryz.underlying49 h
  match cs, hl with
  | [v0, v1], _ =>
   simp only [List.drop, cellsCode, List.take] at g0
   simp only [List.drop, cellsInts, List.take] at g1
   rw [hxy] at hy
   obtain ⟨c, hc, hc2⟩ := code_of g0 (nf_left hy)
   obtain ⟨i, hi, hi2⟩ := ints_of g1 (nf_right hy)
   exact ⟨(v0, v1), rfl, ⟨c, i⟩, ⟨hc, hi⟩, hc2, hi2⟩) hf hz
 obtain ⟨g, hg⟩ := choose_lt (n := l.length) (p := fun j p => ∀ hj : j < l.length, PrtR W l[j].1 l[j].2 p ∧ p.ok) (fun j hj => by
  obtain ⟨p, hp⟩ := h2 j hj
  exact ⟨p, fun _ => hp⟩)
 refine ⟨(List.range l.length).map g, ⟨l, by simp, by simpa using h1, fun k hk hk' => ?_⟩, fun p hp => ?_⟩
 ·have := (hg k hk' hk').1
  simpa using this
 ·obtain ⟨j, hj, rfl⟩ := List.mem_map.1 hp
  have hj : j < l.length := by simpa using hj
  exact (hg j hj hj).2
theorem open_system {H : Type} {enc : TypeId × Value → H} {W : World} {r : Reach} {b0 base : Nat} {sp : Nat → Bool} {held : Bool} {v : Value} {d : DataW H} {p : List MemPlace} (hv : Value.okWide Tryz.prog W r b0 26 v) (h : DataW.Trod enc Tryz.prog W base sp held 26 v d p) (hz : W.noneFrozen p) :
  ∃ (vp vc vs : Value) (S : SysD), v = .agg #[vp, vc, vs] ∧ Sys W vp vc vs S ∧ S.ok := by
 obtain ⟨c0, c1, c2, y0, y1, y2, m, rfl, rfl, rfl, h0, h1, h2⟩ := open_agg3 Tryz.underlying26 kr kr hv h
 obtain ⟨ps, hp, hpo⟩ := parts_of h0 (nf_left hz)
 obtain ⟨cs, hc, hco⟩ := chans_of h1 (nf_left (nf_right hz))
 obtain ⟨ss, hs, hso⟩ := slots_of h2 (nf_right (nf_right hz))
 exact ⟨c0, c1, c2, ⟨ps, cs, ss⟩, rfl, ⟨hp, hc, hs⟩, fun p hp' => (hpo p hp').1⟩
theorem at_one {cs : List Value} {o : Nat} {v : Value} (h : (cs.drop o).take 1 = [v]) : cs[o]? = some v := by
 have := congrArg (·[0]?) h
 simpa [List.getElem?_take, List.getElem?_drop] using this
theorem at_arr {cs : List Value} {a m i : Nat} {v : Value} (h : (((cs.drop a).take m).drop i).take 1 = [v]) (hi : i < m) : cs[a + i]? = some v := by
 have := at_one h
 rw [List.getElem?_take, if_pos hi, List.getElem?_drop] at this
 exact this
theorem cellsRegs : Tryz.prog.cellsOf 31 = 4 := by kernel_rfl
theorem cellsMem : Tryz.prog.cellsOf 32 = 8 := by kernel_rfl
theorem arr_of {H : Type} {enc : TypeId × Value → H} {W : World} {base : Nat} {sp : Nat → Bool} {held : Bool} {fuel : Nat} {cs : List Value} {a m : Nat} {t : TypeId} {x : DataW H × List MemPlace} (ht : Tryz.prog.underlying t = some (.array m 3))
  (hf : DataW.trod enc Tryz.prog W base sp held fuel t ((cs.drop a).take m) = some x) : ∀ i, i < m → ∃ n : Int, cs[a + i]? = some (.int .i64 n) ∧ in64 n := by
 obtain ⟨xs, k, _, _, _, hlen, h⟩ := DataW.trod_array ht hf
 intro i hi
 have h1 := h i hi
 rw [cellsInt, Nat.mul_one] at h1
 cases hy : xs[i]? with
 | none => rw [List.getElem?_eq_none_iff] at hy; omega
 | some y =>
  rw [hy] at h1
  obtain ⟨n, e, -, w0⟩ := DataW.trod_int Tryz.underlying3 h1
  exact ⟨n, at_arr e hi, in64_of w0⟩
theorem list16 {cs : List Value} {a0 a1 a2 a3 a4 a5 a6 a7 a8 a9 a10 a11 a12 a13 a14 a15 : Value} (hl : cs.length = 16) (h0 : cs[0]? = some a0) (h1 : cs[1]? = some a1) (h2 : cs[2]? = some a2) (h3 : cs[3]? = some a3) (h4 : cs[4]? = some a4) (h5 : cs[5]? = some a5) (h6 : cs[6]? = some a6) (h7 : cs[7]? = some a7)
  (h8 : cs[8]? = some a8) (h9 : cs[9]? = some a9) (h10 : cs[10]? = some a10) (h11 : cs[11]? = some a11) (h12 : cs[12]? = some a12) (h13 : cs[13]? = some a13) (h14 : cs[14]? = some a14) (h15 : cs[15]? = some a15) : cs = [a0, a1, a2, a3, a4, a5, a6, a7, a8, a9, a10, a11, a12, a13, a14, a15] := by
 match cs, hl with
 | [b0, b1, b2, b3, b4, b5, b6, b7, b8, b9, b10, b11, b12, b13, b14, b15], _ =>
  simp at h0 h1 h2 h3 h4 h5 h6 h7 h8 h9 h10 h11 h12 h13 h14 h15
  simp [h0, h1, h2, h3, h4, h5, h6, h7, h8, h9, h10, h11, h12, h13, h14, h15]
theorem cell_of {H : Type} {enc : TypeId × Value → H} {W : World} {base : Nat} {sp : Nat → Bool} {held : Bool} {fuel : Nat} {cs : List Value} {x : DataW H × List MemPlace} (hl : cs.length = 16) (hf : DataW.trod enc Tryz.prog W base sp held fuel 35 cs = some x) (hz : W.noneFrozen x.2) :
  ∃ (c : Cel) (o : Value) (xs : List Int), cs = (c.cs o).toList ∧ Sl W 1 o xs.length (ints xs) := by
 obtain ⟨ys, n, _, hxe, _, hlen, h⟩ := DataW.trod_struct Tryz.underlying35 hf
 rw [hxe] at hz
 have f0 := h 0 _ rfl
 have f1 := h 1 _ rfl
 have f2 := h 2 _ rfl
 have f3 := h 3 _ rfl
 have f4 := h 4 _ rfl
 have f5 := h 5 _ rfl
 match ys, hlen with
 | [y0, y1, y2, y3, y4, y5], _ =>
  obtain ⟨at_, e0, -, -⟩ := DataW.trod_int Tryz.underlying3 f0
  obtain ⟨rd, e3, -, -⟩ := DataW.trod_int Tryz.underlying3 f3
  obtain ⟨en, e5, -, -⟩ := DataW.trod_int Tryz.underlying3 f5
  change (cs.drop 0).take (Tryz.prog.cellsOf 3) = _ at e0
  change (cs.drop 13).take (Tryz.prog.cellsOf 3) = _ at e3
  change (cs.drop 15).take (Tryz.prog.cellsOf 3) = _ at e5
  change DataW.trod enc Tryz.prog W base sp held n 31 ((cs.drop 1).take (Tryz.prog.cellsOf 31)) = some y1 at f1
  change DataW.trod enc Tryz.prog W base sp held n 32 ((cs.drop 5).take (Tryz.prog.cellsOf 32)) = some y2 at f2
  change DataW.trod enc Tryz.prog W base sp held n 33 ((cs.drop 14).take (Tryz.prog.cellsOf 33)) = some y4 at f4
  rw [cellsInt] at e0 e3 e5
  rw [cellsRegs] at f1
  rw [cellsMem] at f2
  rw [cellsInts] at f4
  obtain ⟨o, ho⟩ : ∃ o, cs[14]? = some o := ⟨cs[14], List.getElem?_eq_getElem om⟩
  have ho4 : (cs.drop 14).take 1 = [o] := by
   rw [List.take_one, List.head?_drop, ho]
   rfl
  rw [ho4] at f4
  obtain ⟨xs, hS, -⟩ := ints_of f4 (fun b o hm => hz b o (List.mem_flatMap.2 ⟨y4, by simp, hm⟩))
  have R := arr_of Tryz.underlying31 f1
  have M := arr_of Tryz.underlying32 f2
  obtain ⟨r0, hr0, -⟩ := R 0 (by decide)
  obtain ⟨r1, hr1, -⟩ := R 1 (by decide)
  obtain ⟨r2, hr2, -⟩ := R 2 (by decide)
  obtain ⟨r3, hr3, -⟩ := R 3 (by decide)
  obtain ⟨m0, hm0, -⟩ := M 0 (by decide)
  obtain ⟨m1, hm1, -⟩ := M 1 (by decide)
  obtain ⟨m2, hm2, -⟩ := M 2 (by decide)
  obtain ⟨m3, hm3, -⟩ := M 3 (by decide)
  obtain ⟨m4, hm4, -⟩ := M 4 (by decide)
  obtain ⟨m5, hm5, -⟩ := M 5 (by decide)
  obtain ⟨m6, hm6, -⟩ := M 6 (by decide)
  obtain ⟨m7, hm7, -⟩ := M 7 (by decide)
  exact ⟨⟨at_, r0, r1, r2, r3, m0, m1, m2, m3, m4, m5, m6, m7, rd, en⟩, o, xs, list16 hl (at_one e0) hr0 hr1 hr2 hr3 hm0 hm1 hm2 hm3 hm4 hm5 hm6 hm7 (at_one e3) ho (at_one e5), hS⟩
instance : Inhabited Cel := ⟨celZ⟩
theorem cells_of {H : Type} {enc : TypeId × Value → H} {W : World} {base : Nat} {sp : Nat → Bool} {held : Bool} {v : Value} {fuel : Nat} {x : DataW H × List MemPlace} (hf : DataW.trod enc Tryz.prog W base sp held fuel 27 [v] = some x) (hz : W.noneFrozen x.2) :
  ∃ ds : List CelD, CellsR W v ds := by
 obtain ⟨l, h1, h2⟩ := sl_of (size := 16) (α := Cel × Value) celC (fun q => ∃ xs : List Int, Sl W 1 q.2 xs.length (ints xs)) Tryz.underlying27 kr (by decide) celC_len (fun n cs y hl h hy => by
  obtain ⟨c, o, xs, e, hS⟩ := cell_of hl h hy
  exact ⟨(c, o), e, xs, hS⟩) hf hz
 obtain ⟨g, hg⟩ := choose_lt (n := l.length) (p := fun j (xs : List Int) => ∀ hj : j < l.length, Sl W 1 l[j].2 xs.length (ints xs)) (fun j hj => by
  obtain ⟨p, hp⟩ := h2 j hj
  exact ⟨p, fun _ => hp⟩)
 have hlen : ((List.range l.length).map fun j => (⟨(l.getD j (celZ, .slice none 0 0)).1, g j⟩ : CelD)).length = l.length := by simp
 refine ⟨(List.range l.length).map fun j => ⟨(l.getD j (celZ, .slice none 0 0)).1, g j⟩, l, hlen.symm, by rw [hlen]; exact h1, fun k hk hk' => ?_⟩
 have := hg k hk' hk'
 simp [List.getD, hk']
 exact this
theorem lines_of {H : Type} {enc : TypeId × Value → H} {W : World} {base : Nat} {sp : Nat → Bool} {held : Bool} {v : Value} {fuel : Nat} {x : DataW H × List MemPlace} (hf : DataW.trod enc Tryz.prog W base sp held fuel 28 [v] = some x) (hz : W.noneFrozen x.2) :
  ∃ ls : List (List Int), LinesR W v ls := by
 obtain ⟨l, h1, h2⟩ := sl_of (size := 1) (α := Value) (fun v => [v]) (fun q => ∃ xs : List Int, Sl W 1 q xs.length (ints xs)) Tryz.underlying28 kr (by decide) (fun _ => rfl) (fun n cs y hl h hy => by
  obtain ⟨ys, m, _, hxe, _, hlen, h⟩ := DataW.trod_struct Tryz.underlying81 h
  have f0 := h 0 _ rfl
  match cs, hl, ys, hlen with
  | [v0], _, [y0], _ =>
   rw [hxe] at hy
   obtain ⟨xs, hS, -⟩ := ints_of f0 (fun b o hm => hy b o (List.mem_flatMap.2 ⟨y0, by simp, hm⟩))
   exact ⟨v0, rfl, xs, hS⟩) hf hz
 have hrow : ∀ l : List Value, rowC (fun v => [v]) l = l := fun l => by
  induction l with
  | nil => rfl
  | cons a r ih => simp [rowC, ih]
 rw [hrow] at h1
 obtain ⟨g, hg⟩ := choose_lt (n := l.length) (p := fun j (xs : List Int) => ∀ hj : j < l.length, Sl W 1 l[j] xs.length (ints xs)) (fun j hj => by
  obtain ⟨p, hp⟩ := h2 j hj
  exact ⟨p, fun _ => hp⟩)
 refine ⟨(List.range l.length).map g, l, by simp, by simpa using h1, fun k hk hk' => ?_⟩
 have := hg k hk' hk'
 simpa using this
theorem open_world {H : Type} {enc : TypeId × Value → H} {W : World} {r : Reach} {b0 base : Nat} {sp : Nat → Bool} {held : Bool} {v : Value} {d : DataW H} {p : List MemPlace} (hv : Value.okWide Tryz.prog W r b0 30 v) (h : DataW.Trod enc Tryz.prog W base sp held 30 v d p) (hz : W.noneFrozen p) :
  ∃ (vc vl : Value) (D : WldD), v = .agg #[.int .i64 D.tick, vc, vl] ∧ Wld W vc vl D ∧ in64 D.tick := by
 obtain ⟨c0, c1, c2, y0, y1, y2, m, rfl, rfl, rfl, h0, h1, h2⟩ := open_agg3 Tryz.underlying30 kr kr hv h
 obtain ⟨a, e0, -, w0⟩ := DataW.trod_int Tryz.underlying3 h0
 obtain ⟨ds, hd⟩ := cells_of h1 (nf_left (nf_right hz))
 obtain ⟨ls, hl⟩ := lines_of h2 (nf_right (nf_right hz))
 simp at e0
 subst e0
 exact ⟨c1, c2, ⟨a, ds, ls⟩, rfl, ⟨hd, hl⟩, in64_of w0⟩
open Go.RowKit Go.Sort
theorem gShp : Tryz.prog.globalNamed "lychgate/isa.shapes" = some 0 := by kernel_rfl
theorem gShpType : (Tryz.prog.globals[0]?).map (·.type) = some 197 := by kernel_rfl
theorem cells9 : Tryz.prog.cellsOf 9 = 1 := by kernel_rfl
theorem cells55 : Tryz.prog.cellsOf 196 = 6 := by kernel_rfl
theorem cells4 : Tryz.prog.cellsOf 4 = 1 := by kernel_rfl
theorem cells3 : Tryz.prog.cellsOf 3 = 1 := by kernel_rfl
def rowD {H : Type} (k : Nat) : DataW H := .agg [.lit (.string (rowW k)), .lit (.bool (rowA k)), .lit (.bool (rowB k)), .lit (.bool (rowN k)), .lit (.int .i64 (rowLo k)), .lit (.int .i64 (rowHi k))]
theorem laid_rows {H : Type} : (Rows.laid_lychgate_isa_shapes : DataW H) = .agg ((List.range 16).map rowD) := rfl
theorem at_of {cs : List Value} {o : Nat} {v : Value} (h : (cs.drop o).take 1 = [v]) : cs[o]? = some v := by
 have := congrArg (·[0]?) h
 simpa [List.getElem?_take, List.getElem?_drop] using this
theorem at_in {cs : List Value} {a o : Nat} {v : Value} (h : ((cs.drop a).take 6)[o]? = some v) (ho : o < 6) : cs[a + o]? = some v := by
 rw [List.getElem?_take, if_pos ho, List.getElem?_drop] at h; exact h
theorem row_cells {H : Type} {enc : TypeId × Value → H} {W : World} {base : Nat} {sp : Nat → Bool} {held : Bool} {fuel : Nat} {cs : List Value} {k : Nat} {p : List MemPlace}
  (h : DataW.trod enc Tryz.prog W base sp held fuel 196 cs = some (rowD k, p)) :
  cs[0]? = some (.string ⟨(rowW k).toArray⟩) ∧ cs[1]? = some (.bool (rowA k)) ∧ cs[2]? = some (.bool (rowB k)) ∧ cs[3]? = some (.bool (rowN k)) ∧ cs[4]? = some (.int .i64 (rowLo k)) ∧ cs[5]? = some (.int .i64 (rowHi k)) := by
 obtain ⟨xs, n, _, hx, hl, hlen, hf⟩ := DataW.trod_struct Tryz.underlying196 h
 have f0 := hf 0 _ rfl
 have f1 := hf 1 _ rfl
 have f2 := hf 2 _ rfl
 have f3 := hf 3 _ rfl
 have f4 := hf 4 _ rfl
 have f5 := hf 5 _ rfl
 match xs, hlen with
 | [y0, y1, y2, y3, y4, y5], _ =>
  simp only [rowD, Prod.mk.injEq, DataW.agg.injEq, List.map_cons, List.map_nil, List.cons.injEq, and_true] at hx
  obtain ⟨⟨e0, e1, e2, e3, e4, e5⟩, _⟩ := hx
  obtain ⟨s, c0, d0, _⟩ := DataW.trod_string Tryz.underlying9 f0
  obtain ⟨b1, c1, d1⟩ := DataW.trod_bool Tryz.underlying4 f1
  obtain ⟨b2, c2, d2⟩ := DataW.trod_bool Tryz.underlying4 f2
  obtain ⟨b3, c3, d3⟩ := DataW.trod_bool Tryz.underlying4 f3
  obtain ⟨n4, c4, d4, _⟩ := DataW.trod_int Tryz.underlying3 f4
  obtain ⟨n5, c5, d5, _⟩ := DataW.trod_int Tryz.underlying3 f5
  subst d0 d1 d2 d3 d4 d5
  simp only [DataW.lit.injEq, Lit.string.injEq, Lit.bool.injEq, Lit.int.injEq, true_and] at e0 e1 e2 e3 e4 e5
  subst e1 e2 e3 e4 e5
  change (cs.drop 0).take (Tryz.prog.cellsOf 9) = _ at c0
  change (cs.drop 1).take (Tryz.prog.cellsOf 4) = _ at c1
  change (cs.drop 2).take (Tryz.prog.cellsOf 4) = _ at c2
  change (cs.drop 3).take (Tryz.prog.cellsOf 4) = _ at c3
  change (cs.drop 4).take (Tryz.prog.cellsOf 3) = _ at c4
  change (cs.drop 5).take (Tryz.prog.cellsOf 3) = _ at c5
  rw [cells9] at c0
  rw [cells4] at c1 c2 c3
  rw [cells3] at c4 c5
  have es : s = ⟨(rowW k).toArray⟩ := by
   apply ByteArray.ext
   rw [e0]
  exact ⟨es ▸ at_of c0, at_of c1, at_of c2, at_of c3, at_of c4, at_of c5⟩
theorem shp_of {W : World} {r : List (String × DataW Unit)} (h : laidMet Tryz.prog (("lychgate/isa.shapes", Rows.laid_lychgate_isa_shapes) :: r) W) : Shp W := by
 obtain ⟨ps, ⟨g', t', cs, fuel, p, q, hg', ht', hvar, hd, _, _⟩, _⟩ := h
 obtain rfl := Option.some.inj (gShp.symm.trans hg')
 obtain rfl := Option.some.inj (gShpType.symm.trans ht')
 obtain ⟨xs, m, _, hx, hl, hlen, hf⟩ := DataW.trod_array Tryz.underlying197 hd
 have hrow : ∀ k, k < 16 → ∃ p', DataW.trod (fun _ => ()) Tryz.prog W 0 (fun _ => true) false m 196 ((cs.toList.drop (k * 6)).take 6) = some (rowD k, p') := by
  intro k hk
  have h1 := hf k hk
  rw [cells55] at h1
  have h2 : xs.map (·.1) = (List.range 16).map rowD := by
   have := congrArg Prod.fst hx
   simp only [laid_rows, DataW.agg.injEq] at this
   exact this.symm
  have h3 := congrArg (·[k]?) h2
  simp only [List.getElem?_map, List.getElem?_range hk, Option.map_some] at h3
  cases hy : xs[k]? with
  | none => rw [hy] at h3; cases h3
  | some y =>
   rw [hy] at h3
   simp only [Option.map_some, Option.some.injEq] at h3
   refine ⟨y.2, ?_⟩
   rw [h1, hy, ← h3]
 have cell : ∀ i, W.cell? ⟨0, i, none⟩ = cs[i]? := fun i => World.var?_cell gShp hvar i
 have key : ∀ k, k < 16 → ∀ j v, j < 6 → ((cs.toList.drop (k * 6)).take 6)[j]? = some v → W.cell? ⟨0, k * 6 + j, none⟩ = some v := by
  intro k hk j v hj h
  have := at_in h hj
  rw [cell, ← Array.getElem?_toList]
  exact this
 refine ⟨?_, fun k hk => ?_, fun k hk => ?_, fun k hk => ?_, fun k hk => ?_, fun k hk => ?_, fun k hk => ?_⟩
 ·have h0 : W.var? Tryz.prog "lychgate/isa.shapes" = some cs := hvar
  unfold World.var? at h0
  rw [gShp] at h0
  simp only [Option.bind_some] at h0
  rcases Nat.lt_or_ge 0 W.heap.size with h' | h'
  ·exact h'
  ·simp [Array.getElem?_eq_none h'] at h0
 all_goals obtain ⟨p', hp⟩ := hrow k hk
 all_goals obtain ⟨r0, r1, r2, r3, r4, r5⟩ := row_cells hp
 ·exact key k hk 0 _ (by decide) r0
 ·exact key k hk 1 _ (by decide) r1
 ·exact key k hk 2 _ (by decide) r2
 ·exact key k hk 3 _ (by decide) r3
 ·exact key k hk 4 _ (by decide) r4
 ·exact key k hk 5 _ (by decide) r5
theorem env_of {W : World} {r : List (String × DataW Unit)} (h : laidMet Tryz.prog (("lychgate/isa.shapes", Rows.laid_lychgate_isa_shapes) :: r) W) : Env W := ⟨shp_of h⟩
def laidW (P : Program) (os : Os) : World :=
 let w0 := World.holding P os ⟨#[], #[], []⟩
 let put := fun (h : Array Obj) (g : Nat) (cs : Array Value) => h.modify g fun
   | .cells _ t frozen => .cells cs t frozen
   | o => o
 { w0 with heap := put w0.heap 0 #[.string ⟨#[]⟩, .bool false, .bool false, .bool false, .int .i64 0, .int .i64 0, .string ⟨#[115, 101, 116]⟩, .bool true, .bool false, .bool true, .int .i64 (-9223372036854775808), .int .i64 9223372036854775807, .string ⟨#[99, 111, 112, 121]⟩, .bool true, .bool true, .bool false, .int .i64 0, .int .i64 0, .string ⟨#[97, 100, 100]⟩, .bool true, .bool true, .bool false, .int .i64 0, .int .i64 0, .string ⟨#[115, 117, 98]⟩, .bool true, .bool true, .bool false, .int .i64 0, .int .i64 0, .string ⟨#[108, 101, 115, 115]⟩, .bool true, .bool true, .bool false, .int .i64 0, .int .i64 0, .string ⟨#[108, 111, 97, 100]⟩, .bool true, .bool true, .bool false, .int .i64 0, .int .i64 0, .string ⟨#[115, 97, 118, 101]⟩, .bool true, .bool true, .bool false, .int .i64 0, .int .i64 0, .string ⟨#[106, 117, 109, 112]⟩, .bool false, .bool false, .bool true, .int .i64 0, .int .i64 19, .string ⟨#[122, 101, 114, 111]⟩, .bool true, .bool false, .bool true, .int .i64 0, .int .i64 19, .string ⟨#[105, 110]⟩, .bool true, .bool false, .bool false, .int .i64 0, .int .i64 0, .string ⟨#[111, 117, 116]⟩, .bool true, .bool false, .bool false, .int .i64 0, .int .i64 0, .string ⟨#[112, 117, 116]⟩, .bool true, .bool false, .bool true, .int .i64 0, .int .i64 5, .string ⟨#[103, 101, 116]⟩, .bool true, .bool true, .bool true, .int .i64 0, .int .i64 5, .string ⟨#[114, 101, 115, 116]⟩, .bool false, .bool false, .bool false, .int .i64 0, .int .i64 0, .string ⟨#[115, 116, 111, 112]⟩, .bool false, .bool false, .bool false, .int .i64 0, .int .i64 0] }
end Go.Proofs.YtehhhiodfcdnmaaGreatDoor

/- cert.reachers. -/
import Derived.Test.YthpljbbhpbijgaaDoorCe8
namespace Go.Proofs.YthpljbbhpbijgaaDoor
set_option linter.unusedSimpArgs false
set_option linter.unusedVariables false
open Go.RowKit Go.Sort Go.Shelf Go.Lib Go.Maps

/-- Rows of numbers in the making, in a row of their own, which lies at g. -/
def SetsO (w : World) (g B : Nat) (ss : List (List Int)) : Prop :=
  ∃ vs : List Value, vs.length = ss.length ∧ Rw w g 42 vs.toArray ∧ (∀ k (h : k < vs.length) (h' : k < ss.length), w.ownsRow B 3 1 vs[k] ss[k].length (ints ss[k]) ∧ ∀ b, vs[k].ownBlock = some b → b ≠ g) ∧ ∀ j k (hj : j < vs.length) (hk : k < vs.length), j ≠ k → ∀ b, vs[j].ownBlock = some b → vs[k].ownBlock ≠ some b
theorem SetsO.up {w w' : World} {g B : Nat} {ss : List (List Int)} (h : SetsO w g B ss) (hb : RowKit.Below w.heap.size w w') : SetsO w' g B ss := by
  obtain ⟨vs, h1, h2, h3, h4⟩ := h
  exact ⟨vs, h1, h2.up hb h2.lt, fun k hk hk' => ⟨own_upF (h3 k hk hk').1 hb, (h3 k hk hk').2⟩, h4⟩
theorem SetsO.r {w : World} {g B : Nat} {ss : List (List Int)} (h : SetsO w g B ss) : SetsR w (.slice (some ⟨g, 0, none⟩) ss.length ss.length) ss := by
  obtain ⟨vs, h1, h2, h3, h4⟩ := h
  refine ⟨vs, h1, ⟨by omega, _, _, rfl, Nat.le_refl _, fun _ => ⟨g, 0, rfl, h2.lt, fun j u hj => ?_⟩⟩, fun k hk hk' => own_sl (h3 k hk hk').1⟩
  rw [Nat.zero_add]
  exact h2.cell (by rw [← Array.getElem?_toList]; simpa using hj)
theorem SetsO.nw {w w' : World} {g B : Nat} {ss : List (List Int)} (h : SetsO w g B ss) : ∃ vs : List Value, vs.length = ss.length ∧ Rw w g 42 vs.toArray ∧ ∀ k (h : k < vs.length) b, vs[k].ownBlock = some b → b < w.heap.size := by
  obtain ⟨vs, h1, h2, h3, h4⟩ := h
  exact ⟨vs, h1, h2, fun k hk b e => ((h3 k hk (by omega)).1.lt b e).2⟩
theorem setsO_made (w : World) (n B : Nat) : SetsO (w.alloc (.cells (madeCells #[.slice none 0 0] n) 42)) w.heap.size B (List.replicate n []) := by
  refine ⟨List.replicate n (.slice none 0 0), by simp, ?_, fun k hk hk' => ?_, fun j k hj hk _ b e => ?_⟩
  · have : madeCells #[.slice none 0 0] n = (List.replicate n (Value.slice none 0 0)).toArray := by
      apply Array.ext'
      rw [toList_madeCells_one]
    rw [this]
    exact Rw.new _ _ _ rfl
  · simp only [List.getElem_replicate]
    exact ⟨World.ownsRow_nil _ _ _ _, fun b e => by cases e⟩
  · simp only [List.getElem_replicate] at e
    cases e
theorem setsO_put {X W5 : World} {o : Obj} {g B b g5 cap5 : Nat} {ss : List (List Int)} {vs : List Value} {va : Option Addr} {vcap : Nat} {z : Int} (hvl : vs.length = ss.length) (hrw : Rw X g 42 vs.toArray)
    (hvo : ∀ k (h : k < vs.length) (h' : k < ss.length), X.ownsRow B 3 1 vs[k] ss[k].length (ints ss[k]) ∧ ∀ c, vs[k].ownBlock = some c → c ≠ g) (hva : ∀ j k (hj : j < vs.length) (hk : k < vs.length), j ≠ k → ∀ c, vs[j].ownBlock = some c → vs[k].ownBlock ≠ some c)
    (hb : b < ss.length) (hvf : vs[b]'(by omega) = .slice va ss[b].length vcap) (hown : W5.ownsRow B 3 1 (.slice (some ⟨g5, 0, none⟩) (ss[b].length + 1) cap5) (ss[b].length + 1) (ints ss[b] ++ [.int .i64 z])) (hg : (X.alloc o).grownBy W5 (Value.slice va ss[b].length vcap).ownBlock)
    (hat : (Value.slice va ss[b].length vcap).ownBlock = some g5 ∨ g5 = X.heap.size + 1) (hgB : g < B) : SetsO (W5.setCell ⟨g, b, none⟩ (.slice (some ⟨g5, 0, none⟩) (ss[b].length + 1) cap5)) g B (ss.set b (ss[b] ++ [z])) := by
  have hlt : ∀ k (h : k < vs.length) c, vs[k].ownBlock = some c → c < X.heap.size := fun k hk c e => ((hvo k hk (by omega)).1.lt c e).2
  have hg5 : g5 ≠ g := by
    have := own_block hown g5 (by simp [Value.ownBlock])
    omega
  have hgX := hrw.lt
  have hng : some g ≠ (Value.slice va ss[b].length vcap).ownBlock := fun e => (hvo b (by omega) hb).2 g (by rw [hvf]; exact e.symm) rfl
  have R5 : Rw W5 g 42 vs.toArray := (hg.block g (by simp; omega) hng).trans (hrw.alloc _)
  refine ⟨vs.set b (.slice (some ⟨g5, 0, none⟩) (ss[b].length + 1) cap5), by simp [hvl], ?_, fun k hk hk' => ?_, fun j k hj hk hjk c e => ?_⟩
  · have := R5.set b (.slice (some ⟨g5, 0, none⟩) (ss[b].length + 1) cap5)
    simpa using this
  · by_cases e : b = k
    · subst e
      simp only [List.getElem_set_self]
      refine ⟨?_, fun c e => by simp [Value.ownBlock] at e; omega⟩
      have h1 : W5.ownsRow B 3 1 (.slice (some ⟨g5, 0, none⟩) (ss[b].length + 1) cap5) (ss[b] ++ [z]).length (ints (ss[b] ++ [z])) := by simpa [ints] using hown
      exact own_set h1 _ (by simp [Value.ownBlock]; omega)
    · simp only [List.getElem_set_ne e]
      have hk1 : k < vs.length := by simpa using hk
      have hk2 : k < ss.length := by simpa using hk'
      obtain ⟨h1, h2⟩ := hvo k hk1 hk2
      refine ⟨own_set ((h1.alloc o).kept hg ?_) _ (fun e2 => h2 g e2 rfl), h2⟩
      cases e3 : vs[k].ownBlock with
      | none => exact .inl rfl
      | some c => exact .inr (fun e4 => hva k b hk1 (by omega) (Ne.symm e) c e3 (by rw [hvf]; exact e4.symm))
  · have hj1 : j < vs.length := by simpa using hj
    have hk1 : k < vs.length := by simpa using hk
    have far : ∀ q (hq : q < vs.length), q ≠ b → ∀ c, vs[q].ownBlock = some c → c ≠ g5 := fun q hq hqb c e1 e2 => by
      subst e2
      rcases hat with hat | hat
      · exact hva q b hq (by omega) hqb c e1 (by rw [hvf]; exact hat)
      · have := hlt q hq c e1
        omega
    by_cases e1 : b = j
    · subst e1
      have e2 : b ≠ k := hjk
      simp only [List.getElem_set_self, Value.ownBlock] at e
      simp only [List.getElem_set_ne e2]
      injection e with e
      intro e4
      exact far k hk1 (Ne.symm e2) c e4 e.symm
    · simp only [List.getElem_set_ne e1] at e
      by_cases e2 : b = k
      · subst e2
        simp only [List.getElem_set_self, Value.ownBlock]
        intro e4
        injection e4 with e4
        exact far j hj1 (Ne.symm e1) c e e4.symm
      · simp only [List.getElem_set_ne e2]
        exact hva j k hj1 hk1 hjk c e
/-- Rows of numbers in new memory. -/
def SetsF (B : Nat) (w : World) (v : Value) (ss : List (List Int)) : Prop :=
  ∃ vs : List Value, vs.length = ss.length ∧ Sl w 1 v ss.length vs ∧ NewB B v ∧ ∀ k (h : k < vs.length) (h' : k < ss.length), Sl w 1 vs[k] ss[k].length (ints ss[k]) ∧ NewB B vs[k]
theorem SetsF.r {B : Nat} {w : World} {v : Value} {ss : List (List Int)} (h : SetsF B w v ss) : SetsR w v ss := let ⟨vs, h1, h2, _, h4⟩ := h; ⟨vs, h1, h2, fun k hk hk' => (h4 k hk hk').1⟩
theorem SetsF.form {B : Nat} {w : World} {v : Value} {ss : List (List Int)} (h : SetsF B w v ss) : ∃ ao cap, v = .slice ao ss.length cap := h.r.form
theorem SetsF.mono {B B' : Nat} {w : World} {v : Value} {ss : List (List Int)} (h : SetsF B w v ss) (hb : B' ≤ B) : SetsF B' w v ss := let ⟨vs, h1, h2, h3, h4⟩ := h; ⟨vs, h1, h2, h3.mono hb, fun k hk hk' => ⟨(h4 k hk hk').1, (h4 k hk hk').2.mono hb⟩⟩
theorem SetsF.up {B : Nat} {w w' : World} {v : Value} {ss : List (List Int)} (h : SetsF B w v ss) (hb : RowKit.Below w.heap.size w w') : SetsF B w' v ss := let ⟨vs, h1, h2, h3, h4⟩ := h; ⟨vs, h1, h2.up hb, h3, fun k hk hk' => ⟨(h4 k hk hk').1.up hb, (h4 k hk hk').2⟩⟩
theorem SetsF.set {B : Nat} {w : World} {v : Value} {ss : List (List Int)} (h : SetsF B w v ss) {c j : Nat} (hc : c < B) (u : Value) : SetsF B (w.setCell ⟨c, j, none⟩ u) v ss := let ⟨vs, h1, h2, h3, h4⟩ := h; ⟨vs, h1, h2.far h3 hc u, h3, fun k hk hk' => ⟨(h4 k hk hk').1.far (h4 k hk hk').2 hc u, (h4 k hk hk').2⟩⟩
theorem SetsF.nil (B : Nat) (w : World) : SetsF B w (.slice none 0 0) [] := ⟨[], rfl, Sl.nil _ _, newB_nil _ _, fun k h => absurd h (Nat.not_lt_zero _)⟩
theorem SetsO.f {w : World} {g B C : Nat} {ss : List (List Int)} (h : SetsO w g B ss) (h1 : C ≤ g) (h2 : C ≤ B) : SetsF C w (.slice (some ⟨g, 0, none⟩) ss.length ss.length) ss := by
  obtain ⟨vs, v1, v2, v3, v4⟩ := h
  refine ⟨vs, v1, ⟨by omega, _, _, rfl, Nat.le_refl _, fun _ => ⟨g, 0, rfl, v2.lt, fun j u hj => ?_⟩⟩, newB_at h1, fun k hk hk' => ⟨own_sl (v3 k hk hk').1, fun c e => Nat.le_trans h2 (own_block (v3 k hk hk').1 c e)⟩⟩
  rw [Nat.zero_add]
  exact v2.cell (by rw [← Array.getElem?_toList]; simpa using hj)
/-- What the first pairs gather. -/
def gath (n : Nat) (P : List Edg) : List (List Int) := (List.range n).map fun (b : Nat) => (P.filter fun e => e.tt == (b : Int)).map (·.fr)
theorem gath_len (n : Nat) (P : List Edg) : (gath n P).length = n := by simp [gath]
theorem gath_at {n : Nat} {P : List Edg} {b : Nat} (h : b < (gath n P).length) : (gath n P)[b] = (P.filter fun e => e.tt == (b : Int)).map (·.fr) := by simp [gath]
theorem gath_nil (n : Nat) : gath n [] = List.replicate n [] := by
  apply List.ext_getElem
  · simp [gath]
  · intro j h1 h2
    simp [gath]
theorem gath_snoc {n : Nat} {P : List Edg} {ef : Int} {et : Nat} (h : et < n) : gath n (P ++ [⟨ef, et⟩]) = (gath n P).set et ((gath n P)[et]'(by rw [gath_len]; exact h) ++ [ef]) := by
  apply List.ext_getElem
  · simp [gath]
  · intro j h1 h2
    rw [gath_at]
    by_cases e : et = j
    · subst e
      rw [List.getElem_set_self, gath_at]
      simp [List.filter_append]
    · rw [List.getElem_set_ne e, gath_at]
      have : ¬ ((et : Int) = (j : Int)) := by omega
      simp [List.filter_append, this]
theorem infoIntsC : (Tryd.prog.info? 42).map (fun i => (i.zero, i.size, i.bytes)) = some (some (.slice none 0 0), 1, 24) := by kernel_rfl
theorem pairs_in {n : Nat} {p : Nat → Nat → Bool} {e : Edg} (h : e ∈ pairsL n p) : ∃ a b : Nat, a < n ∧ b < n ∧ e = ⟨a, b⟩ ∧ p a b = true := by
  unfold pairsL outP at h
  obtain ⟨a, ha, h⟩ := List.mem_flatMap.1 h
  unfold rowP at h
  obtain ⟨b, hb, rfl⟩ := List.mem_map.1 h
  obtain ⟨hb1, hb2⟩ := List.mem_filter.1 hb
  exact ⟨a, b, List.mem_range.1 ha, List.mem_range.1 hb1, rfl, hb2⟩
set_option maxRecDepth 100000 in
set_option maxHeartbeats 8000000 in
theorem reachers_any (n : Nat) (hn : n ≤ 4) (F : Nat → Nat → Bool) (vm : Value) (w : World) (hM : TabR w vm F n n) :
    Calls Tryd.prog 45 #[vm] w fun e w' => ∃ v, e = .returned v ∧ SetsF w.heap.size w' v (gath n (pairsL n F)) ∧ RowKit.Below w.heap.size w w' := by
  obtain ⟨i1, hi1, hy0, hy1, hy2⟩ := info_parts info3
  obtain ⟨i2, hi2, hb0, hb1, hb2⟩ := info_parts infoIntsC
  obtain ⟨ma, mc, rfl⟩ := hM.form
  have HM := Lib.hid hM
  clear hM
  go_enter Tryd.func45, Tryd.ntmps45
  go_wp2_with (refine wpList_make_row _ rfl _ _ 53 rfl 42 i2 (.slice none 0 0) Tryd.underlying53 hi2 hb0 hb1 rfl .i64 .i64 n rfl rfl (by rw [hb2]; omega) (by omega) ?_)
  have HM1 := Lib.hid (HM.out.up (((RowKit.Below.refl _ _).alloc (Nat.le_refl _) (.cells #[.slice ma n mc] 31)).alloc (by simp) (.cells (madeCells #[.slice none 0 0] n) 42)))
  have HSO := Lib.hid (fun B => setsO_made (w.alloc (.cells #[.slice ma n mc] 31)) n B)
  have k1 : ((w.alloc (.cells #[.slice ma n mc] 31)).alloc (.cells (madeCells #[.slice none 0 0] n) 42)).cell? ⟨w.heap.size, 0, none⟩ = some (.slice ma n mc) := bcl ((RowKit.Below.refl _ _).alloc (Nat.le_refl _) _) (by simp) (by simp)
  have D0 : Hid (RowKit.Below w.heap.size w ((w.alloc (.cells #[.slice ma n mc] 31)).alloc (.cells (madeCells #[.slice none 0 0] n) 42))) := Lib.hid (by repeat (first | exact Below.refl _ _ | assumption | refine Below.drew ?_ | refine Below.alloc ?_ (by first | (simp; done) | (simp; omega)) _ | refine Below.setCell ?_ (by first | (simp; done) | (simp; omega)) _))
  have hw0 : ((w.alloc (.cells #[.slice ma n mc] 31)).alloc (.cells (madeCells #[.slice none 0 0] n) 42)).heap.size = w.heap.size + 2 := by simp
  have hsz1 : (w.alloc (.cells #[.slice ma n mc] 31)).heap.size = w.heap.size + 1 := by simp
  rw [hsz1] at HSO
  try rw [hsz1]
  clear hsz1
  generalize ((w.alloc (.cells #[.slice ma n mc] 31)).alloc (.cells (madeCells #[.slice none 0 0] n) 42)) = W0 at HM1 HSO k1 D0 hw0 ⊢
  go_wp2_with fail
  refine (pairs_any n hn F 70 ent_reachers1 #[.pointer (some ⟨w.heap.size, 0, none⟩)] _ (fun a b ha hb w1 hbl => (reachers1_any n a b _ ha hb F _ w1 (bcl hbl (by show w.heap.size < _; omega) k1) (HM1.out.up hbl)).mono (fun e w2 h => ⟨h.1, by rw [h.2]; exact RowKit.Below.refl _ _⟩))).mono ?_
  rintro e w1 ⟨vP, rfl, hP, hPb, bb⟩
  obtain ⟨qa, qc, rfl⟩ := hP.form
  have HP := Lib.hid hP
  have HSO1 := Lib.hid ((HSO.out w1.heap.size).up bb)
  have HPB := Lib.hid hPb
  have D1 := Lib.hid (D0.out.trans (bb.mono D0.out.size))
  have hw1 : w.heap.size + 2 ≤ w1.heap.size := by have := bb.size; omega
  have hPl := pairsL_len n hn F
  have HPI : Hid (∀ e ∈ pairsL n F, ∃ a b : Nat, a < n ∧ b < n ∧ e = ⟨a, b⟩ ∧ F a b = true) := Lib.hid (fun e he => pairs_in he)
  clear hP bb HSO HM1 k1 D0 hPb
  generalize hPP : pairsL n F = P at HP hPl HPI HPB
  have HPP := Lib.hid hPP
  clear hPP
  have hgg0 : w.heap.size + 1 < w1.heap.size := by omega
  have hwg0 : w.heap.size < w.heap.size + 1 := by omega
  have hW2 : W0.heap.size = w.heap.size + 1 + 1 := by omega
  rw [hW2] at HPB
  clear hw0 hW2 hw1
  generalize hgg : w.heap.size + 1 = g at HSO1 HPB hgg0 hwg0 ⊢
  clear hgg
  have HPB : Hid (∀ b, (Value.slice qa P.length qc).ownBlock = some b → g < b ∧ b < w1.heap.size) := Lib.hid (fun b e => ⟨by have := (HPB.out b e).1; omega, (HPB.out b e).2⟩)
  have hw1 : w1.heap.size ≤ w1.heap.size := Nat.le_refl _
  have hgB : g < w1.heap.size := hgg0
  generalize hBB : w1.heap.size = B at HSO1 HPB hgB hw1 D1
  have hw1 : B ≤ w1.heap.size := by omega
  have hwB : w.heap.size ≤ B := by omega
  clear hBB hgg0
  go_wp2
  go_loopw [14] (fun i wr => ∃ k : Nat, i = .int .i64 k ∧ k ≤ P.length ∧ Hid (SetsO wr g B (gath n (P.take k))) ∧ Hid (Sl wr 2 (.slice qa P.length qc) P.length (rowC Edg.cells P)) ∧ B ≤ wr.heap.size ∧ Hid (RowKit.Below w.heap.size w wr)) (fun i _ => P.length - (intOf i).toNat)
  case atStart => exact ⟨0, rfl, Nat.zero_le _, by rw [List.take_zero, gath_nil]; exact HSO1, HP, hw1, D1⟩
  case round =>
    clear HSO1 HP D1 hw1
    obtain ⟨k, rfl, hk, HSO, HP, hw1, HT⟩ := hrel
    by_cases hlt : k < P.length
    · have hli : (k : Int) < P.length := by omega
      obtain ⟨pb, po, pc', e1, hpc, hpb, hpx⟩ := HP.out.open (by omega)
      cases e1
      obtain ⟨c0, c1⟩ := edge_cells hpx k hlt
      obtain ⟨ea, et, hea, het0, hee, _⟩ := HPI.out _ (List.getElem_mem hlt)
      have HTK := Lib.hid (List.take_succ_eq_append_getElem hlt)
      rw [hee] at c0 c1 HTK
      simp only at c0 c1
      clear hee hpx
      generalize hef : (ea : Int) = ef at c0 HTK
      clear hef
      have het : et < (gath n (P.take k)).length := by rw [gath_len]; exact het0
      have HSN : Hid (gath n (P.take (k + 1)) = (gath n (P.take k)).set et ((gath n (P.take k))[et] ++ [ef])) := Lib.hid (by rw [HTK.out, gath_snoc het0])
      have HLN : Hid ((gath n (P.take k))[et].length ≤ 16) := Lib.hid (by
        rw [gath_at, List.length_map]
        refine Nat.le_trans (List.length_filter_le _ _) ?_
        rw [List.length_take]
        omega)
      have hgl := gath_len n (P.take k)
      have hti : (et : Int) < n := by omega
      have hnw : ∀ vs : List Value, Rw wr g 42 vs.toArray → True := fun _ _ => trivial
      clear hnw HTK
      generalize gath n (P.take k) = ss at HSO het HSN HLN hgl
      go_upto_region 5 with fail
      have HX : Hid (RowKit.Below wr.heap.size wr (wr.alloc (.cells #[.int .i64 ef, .int .i64 (et : Int)] 37))) := Lib.hid ((RowKit.Below.refl _ _).alloc (Nat.le_refl _) _)
      have x0 : (wr.alloc (.cells #[.int .i64 ef, .int .i64 (et : Int)] 37)).cell? ⟨wr.heap.size, 0, none⟩ = some (.int .i64 ef) := by simp
      have x1 : (wr.alloc (.cells #[.int .i64 ef, .int .i64 (et : Int)] 37)).cell? ⟨wr.heap.size, 1, none⟩ = some (.int .i64 (et : Int)) := by simp
      have hxs : wr.heap.size < (wr.alloc (.cells #[.int .i64 ef, .int .i64 (et : Int)] 37)).heap.size := by simp
      obtain ⟨vs, hvl, hrw0, hvo0, hva⟩ := HSO.out
      have HNW : Hid (∀ b, (vs[et]'(by omega)).ownBlock = some b → b < wr.heap.size) := Lib.hid (fun b e => ((hvo0 et (by omega) (by omega)).1.lt b e).2)
      have hrw := hrw0.up HX.out hrw0.lt
      have hvo : ∀ k (h : k < vs.length) (h' : k < ss.length), (wr.alloc (.cells #[.int .i64 ef, .int .i64 (et : Int)] 37)).ownsRow B 3 1 vs[k] ss[k].length (ints ss[k]) ∧ ∀ b, vs[k].ownBlock = some b → b ≠ g := fun k h h' => ⟨own_upF (hvo0 k h h').1 HX.out, (hvo0 k h h').2⟩
      have HPX := Lib.hid (HP.out.up HX.out)
      clear hrw0 hvo0
      generalize (wr.alloc (.cells #[.int .i64 ef, .int .i64 (et : Int)] 37)) = X at HX x0 x1 hxs hrw hvo HPX ⊢
      have hcb := hrw.cell (j := et) (v := vs[et]'(by omega)) (by simp [show et < vs.length by omega])
      obtain ⟨o1, hne⟩ := hvo et (by omega) (by omega)
      have HO1 := Lib.hid o1
      have HNE := Lib.hid hne
      have HRW := Lib.hid hrw
      have HVO := Lib.hid hvo
      have HVA := Lib.hid hva
      have HVL := Lib.hid hvl
      clear hrw hvo hva o1 hne
      obtain ⟨va, vcap, hvf⟩ := own_form HO1.out
      have hgX := HRW.out.lt
      rw [hvf] at hcb
      refine region_still (S := fun w' => w'.cell? ⟨wr.heap.size, 0, none⟩ = some (.int .i64 ef) ∧ w'.cell? ⟨wr.heap.size, 1, none⟩ = some (.int .i64 (et : Int)) ∧ w'.cell? ⟨g, et, none⟩ = some (.slice va (ss[et]'(by omega)).length vcap)) 13 (by kernel_rfl) ⟨x0, x1, hcb⟩ (fun hHeld => ?_)
      refine Still.takeBy (i := 0) [] (v := ?v1) (by kernel_rfl) (by kernel_rfl) rfl (by kernel_rfl) (by kernel_rfl) (by kernel_rfl) (fun _ _ _ h => h) (Or.inl ⟨by rfl, ?y1⟩) hHeld ?r1
      case y1 => (intro w' hSw; (try dsimp only at hSw); obtain ⟨q0, q1, q2⟩ := hSw; go_simp; try with_reducible rfl)
      simp only [Act.put, List.getElem_toArray, List.getElem_cons_zero, List.getElem_cons_succ, List.setIfInBounds_toArray, List.set_cons_zero, List.set_cons_succ]
      refine Still.takeBy (i := 1) [] (v := ?v2) (by kernel_rfl) (by kernel_rfl) rfl (by kernel_rfl) (by kernel_rfl) (by kernel_rfl) (fun _ _ _ h => h) (Or.inl ⟨by rfl, ?y2⟩) hHeld ?r2
      case y2 => (intro w' hSw; (try dsimp only at hSw); obtain ⟨q0, q1, q2⟩ := hSw; go_simp; try with_reducible rfl)
      simp only [Act.put, List.getElem_toArray, List.getElem_cons_zero, List.getElem_cons_succ, List.setIfInBounds_toArray, List.set_cons_zero, List.set_cons_succ]
      refine Still.takeBy (i := 2) [] (v := ?v3) (by kernel_rfl) (by kernel_rfl) rfl (by kernel_rfl) (by kernel_rfl) (by kernel_rfl) (fun _ _ _ h => h) (Or.inl ⟨by rfl, ?y3⟩) hHeld ?r3
      case y3 => (intro w' hSw; (try dsimp only at hSw); obtain ⟨q0, q1, q2⟩ := hSw; go_simp; try with_reducible rfl)
      simp only [Act.put, List.getElem_toArray, List.getElem_cons_zero, List.getElem_cons_succ, List.setIfInBounds_toArray, List.set_cons_zero, List.set_cons_succ]
      refine Still.takeBy (i := 3) [] (v := ?v4) (by kernel_rfl) (by kernel_rfl) rfl (by kernel_rfl) (by kernel_rfl) (by kernel_rfl) (fun _ _ _ h => h) (Or.inl ⟨by rfl, ?y4⟩) hHeld ?r4
      case y4 => (intro w' hSw; (try dsimp only at hSw); obtain ⟨q0, q1, q2⟩ := hSw; go_simp; try with_reducible rfl)
      simp only [Act.put, List.getElem_toArray, List.getElem_cons_zero, List.getElem_cons_succ, List.setIfInBounds_toArray, List.set_cons_zero, List.set_cons_succ]
      refine Still.takeBy (i := 4) [] (v := ?v5) (by kernel_rfl) (by kernel_rfl) rfl (by kernel_rfl) (by kernel_rfl) (by kernel_rfl) (fun _ _ _ h => h) (Or.inl ⟨by rfl, ?y5⟩) hHeld ?r5
      case y5 => (intro w' hSw; (try dsimp only at hSw); obtain ⟨q0, q1, q2⟩ := hSw; go_simp; try with_reducible rfl)
      simp only [Act.put, List.getElem_toArray, List.getElem_cons_zero, List.getElem_cons_succ, List.setIfInBounds_toArray, List.set_cons_zero, List.set_cons_succ]
      refine Still.takeBy (i := 5) [] (v := ?v6) (by kernel_rfl) (by kernel_rfl) rfl (by kernel_rfl) (by kernel_rfl) (by kernel_rfl) (fun _ _ _ h => h) (Or.inl ⟨by rfl, ?y6⟩) hHeld ?r6
      case y6 => (intro w' hSw; (try dsimp only at hSw); obtain ⟨q0, q1, q2⟩ := hSw; go_simp; try with_reducible rfl)
      simp only [Act.put, List.getElem_toArray, List.getElem_cons_zero, List.getElem_cons_succ, List.setIfInBounds_toArray, List.set_cons_zero, List.set_cons_succ]
      refine Still.takeBy (i := 6) [] (v := ?v7) (by kernel_rfl) (by kernel_rfl) rfl (by kernel_rfl) (by kernel_rfl) (by kernel_rfl) (fun _ _ _ h => h) (Or.inl ⟨by rfl, ?y7⟩) hHeld ?r7
      case y7 => (intro w' hSw; (try dsimp only at hSw); obtain ⟨q0, q1, q2⟩ := hSw; go_simp; try with_reducible rfl)
      simp only [Act.put, List.getElem_toArray, List.getElem_cons_zero, List.getElem_cons_succ, List.setIfInBounds_toArray, List.set_cons_zero, List.set_cons_succ]
      refine Still.takeBy (i := 7) [] (v := ?v8) (by kernel_rfl) (by kernel_rfl) rfl (by kernel_rfl) (by kernel_rfl) (by kernel_rfl) (fun _ _ _ h => h) (Or.inl ⟨by rfl, ?y8⟩) hHeld ?r8
      case y8 => (intro w' hSw; (try dsimp only at hSw); obtain ⟨q0, q1, q2⟩ := hSw; go_simp; try with_reducible rfl)
      simp only [Act.put, List.getElem_toArray, List.getElem_cons_zero, List.getElem_cons_succ, List.setIfInBounds_toArray, List.set_cons_zero, List.set_cons_succ]
      refine Still.takeBy (i := 8) [] (v := ?v9) (by kernel_rfl) (by kernel_rfl) rfl (by kernel_rfl) (by kernel_rfl) (by kernel_rfl) (fun _ _ _ h => h) (Or.inl ⟨by rfl, ?y9⟩) hHeld ?r9
      case y9 => (intro w' hSw; (try dsimp only at hSw); obtain ⟨q0, q1, q2⟩ := hSw; go_simp; try with_reducible rfl)
      simp only [Act.put, List.getElem_toArray, List.getElem_cons_zero, List.getElem_cons_succ, List.setIfInBounds_toArray, List.set_cons_zero, List.set_cons_succ]
      refine Still.takeBy (i := 9) [] (v := ?v10) (by kernel_rfl) (by kernel_rfl) rfl (by kernel_rfl) (by kernel_rfl) (by kernel_rfl) (fun _ _ _ h => h) (Or.inl ⟨by rfl, ?y10⟩) hHeld ?r10
      case y10 => (intro w' hSw; (try dsimp only at hSw); obtain ⟨q0, q1, q2⟩ := hSw; go_simp; try with_reducible rfl)
      simp only [Act.put, List.getElem_toArray, List.getElem_cons_zero, List.getElem_cons_succ, List.setIfInBounds_toArray, List.set_cons_zero, List.set_cons_succ]
      refine Still.all (rs := [10]) (by kernel_rfl) (by simp) (Still.one (i := 10) rfl rfl (fun K hK => ?_) (by simp))
      go_simp
      refine hK _ _ (fun _ => ⟨cl_alloc _ hxs x0, cl_alloc _ hxs x1, cl_alloc _ (show g < X.heap.size from hgX) hcb⟩) (fun hh => ?_)
      have hHeld := hh (by decide)
      clear hK K hh
      try simp only [Act.put, List.getElem_toArray, List.getElem_cons_zero, List.getElem_cons_succ, List.setIfInBounds_toArray, List.set_cons_zero, List.set_cons_succ]
      refine Still.all (rs := [11]) (by kernel_rfl) (by simp) (Still.one (i := 11) rfl rfl (fun K hK => ?_) (by simp))
      refine wp_append_lies _ (.tmp 25) (.tmp 28) 42 rfl B 3 i1 (.int .i64 0) 1 8 Tryd.underlying42 hi1 hy0 hy1 hy2 rfl (by decide) (.slice va (ss[et]'(by omega)).length vcap) (ss[et]'(by omega)).length (ints (ss[et]'(by omega))) (by first | rfl | simp [Act.eval, Act.put]) (by rw [← hvf]; exact (HO1.out.drew).alloc _) ⟨X.heap.size, 0, none⟩ 1 1 [.int .i64 ef] (by first | rfl | simp [Act.eval, Act.put]) rfl (new_rangeE _ _ _ _ rfl) (int_cell _) (by decide) (by have := HLN.out; unfold maxLen; omega) (by have := HLN.out; omega) (by simp; omega) _ rfl ?_
      intro g5 cap5 W5 hown hgrow hat hg5
      have hb5 : ∀ c, c < X.heap.size → (Value.slice va (ss[et]'(by omega)).length vcap).ownBlock ≠ some c → ∀ j v, X.cell? ⟨c, j, none⟩ = some v → W5.cell? ⟨c, j, none⟩ = some v := fun c hc hn j v hv => (hgrow.cell_far ⟨c, j, none⟩ (by simp; omega) (fun e => hn e.symm)).trans (cl_alloc _ hc hv)
      have hnw : (Value.slice va (ss[et]'(by omega)).length vcap).ownBlock ≠ some wr.heap.size := fun e => by have := HNW.out _ (by rw [hvf]; exact e); omega
      have hng : (Value.slice va (ss[et]'(by omega)).length vcap).ownBlock ≠ some g := fun e => HNE.out _ (by rw [hvf]; exact e) rfl
      refine hK _ _ (fun _ => ⟨hb5 _ hxs hnw _ _ x0, hb5 _ hxs hnw _ _ x1, hb5 _ hgX hng _ _ hcb⟩) (fun hh => ?_)
      have hHeld := hh (by decide)
      clear hK K hh
      have R5 : Rw W5 g 42 vs.toArray := (hgrow.block g (by simp; omega) (fun e => hng e.symm)).trans (HRW.out.drew.alloc _)
      have hfr := R5.fr et
      skip
      have HST := Lib.hid (setsO_put (X := X.drew) (o := .cells #[.int .i64 ef] 3) (z := ef) HVL.out HRW.out.drew (fun k h h' => ⟨(HVO.out k h h').1.drew, (HVO.out k h h').2⟩) HVA.out het hvf hown hgrow (by simpa using hat) hgB)
      have HD5 : Hid (RowKit.Below B X W5) := Lib.hid (((RowKit.Below.refl B X).drew.alloc (show B ≤ X.heap.size by omega) (.cells #[.int .i64 ef] 3)).grown hgrow (by simp; omega) (fun q e => by have := own_block HO1.out q (by rw [hvf]; exact e); omega))
      have HP5 := Lib.hid (flSl_grown ((HPX.out.up (RowKit.Below.refl _ _).drew).up ((RowKit.Below.refl _ _).alloc (Nat.le_refl _) (.cells #[.int .i64 ef] 3))) hgrow (fun c e e2 => by have h1 := (HPB.out c e).2; have h2 := own_block HO1.out c (by rw [hvf]; exact e2); omega))
      clear hown hgrow hat hb5
      try simp only [Act.put, List.getElem_toArray, List.getElem_cons_zero, List.getElem_cons_succ, List.setIfInBounds_toArray, List.set_cons_zero, List.set_cons_succ]
      refine Still.takeBy (i := 12) [] (v := ?v11) (by kernel_rfl) (by kernel_rfl) rfl (by kernel_rfl) (by kernel_rfl) (by kernel_rfl) (fun _ _ _ h => h) (Or.inl ⟨by rfl, ?y11⟩) hHeld ?r11
      case y11 => (intro w' hSw; (try dsimp only at hSw); obtain ⟨q0, q1, q2⟩ := hSw; go_simp; try with_reducible rfl)
      simp only [Act.put, List.getElem_toArray, List.getElem_cons_zero, List.getElem_cons_succ, List.setIfInBounds_toArray, List.set_cons_zero, List.set_cons_succ]
      refine Still.all (rs := [13]) (by kernel_rfl) (by simp) (Still.one (i := 13) rfl rfl (fun K hK => ?_) (by simp))
      go_simp
      refine hK _ _ (fun h => absurd rfl h) (fun _ => ?_)
      clear hK K
      refine Still.over (by kernel_rfl) ?_ _
      clear hHeld
      go_wp2
      go_roundw
      case rel =>
        refine ⟨k + 1, by go_num, by omega, by rw [HSN.out]; exact HST, ?_, ?_, ?_⟩
        · exact Lib.hid (HP5.out.set _ (fun e => by have := (HPB.out g e).1; omega))
        · rw [size_set]
          have := HD5.out.size
          omega
        · refine Lib.hid (RowKit.Below.setCell ?_ (by show w.heap.size ≤ g; omega) _)
          exact (HT.out.trans (HX.out.mono HT.out.size)).trans (HD5.out.mono (by omega))
      case measure => simp [intOf]; omega
    · have hli : ¬ (k : Int) < P.length := by omega
      have HSF : Hid (SetsO wr g B (gath n P)) := Lib.hid (by have := HSO.out; rwa [List.take_of_length_le (by omega)] at this)
      go_wp2
      go_ret
      refine ⟨.slice (some ⟨g, 0, none⟩) n n, rfl, ?_, HT.out⟩
      have := HSF.out.f (C := w.heap.size) (by omega) hwB
      rw [gath_len] at this
      rw [HPP.out]
      exact this
end Go.Proofs.YthpljbbhpbijgaaDoor

/- The reference's VerifyOf. -/
import Derived.Test.YtbkdoohhdkahiaaGreatDoorK20
namespace Go.Proofs.YtbkdoohhdkahiaaGreatDoor
set_option linter.unusedSimpArgs false
set_option linter.unusedVariables false
open Go.RowKit Go.Sort Go.Shelf Go.Lib Go.Maps
structure SetGo (S : SysD) (L : List Edg) (l : List Int) (u k : Nat) : Prop where
  up : SetUp S.parts.length l k
  may : ∀ j (h : j < l.length), j < k → mayB L l[j] u = true
  cl : ∀ j (h : j < l.length), j < k → ∀ a : Nat, a < S.parts.length → leadsB S a l[j] = true → inB l a = true
theorem SetGo.all {S : SysD} {L : List Edg} {l : List Int} {u k : Nat} (h : SetGo S L l u k) (hk : ¬ k < l.length) (hin : inB l u = true) : SetRight S L l u := by
  refine ⟨fun j hj _ => h.up j hj (by omega), hin, ?_, fun x hx => ?_⟩
  · unfold closedB
    rw [Bool.not_eq_true', List.any_eq_false]
    intro e he
    obtain ⟨⟨f0, f1⟩, ⟨t0, t1⟩, hl⟩ := edgesL_mem.1 (show (⟨e.fr, e.tt⟩ : Edg) ∈ edgesL S from he)
    simp only [Bool.and_eq_true, Bool.not_eq_true', not_and]
    intro ht
    obtain ⟨j, hj, ej⟩ := List.getElem_of_mem (inB_iff.1 ht)
    have := h.cl j hj (by omega) e.fr.toNat (by omega) (by rw [ej, Int.toNat_of_nonneg f0]; exact hl)
    rw [Int.toNat_of_nonneg f0] at this
    simp [this]
  · obtain ⟨j, hj, rfl⟩ := List.getElem_of_mem hx
    exact h.may j hj (by omega)
theorem SetGo.step {S : SysD} {L : List Edg} {l : List Int} {u k : Nat} (h : SetGo S L l u k) (hk : k < l.length) (h1 : withinB l[k] 0 ((S.parts.length : Int) - 1) = true) (h2 : ∀ h0 : 0 < k, l[k - 1]'(by omega) < l[k]) (h3 : mayB L l[k] u = true) (h4 : ∀ a : Nat, a < S.parts.length → leadsB S a l[k] = true → inB l a = true) : SetGo S L l u (k + 1) := by
  refine ⟨setUp_step h.up hk h1 h2, fun j hj hjk => ?_, fun j hj hjk => ?_⟩
  · by_cases e : j = k
    · subst e; exact h3
    · exact h.may j hj (by omega)
  · by_cases e : j = k
    · subst e; exact h4
    · exact h.cl j hj (by omega)
end Go.Proofs.YtbkdoohhdkahiaaGreatDoor
namespace Go.Proofs.YtbkdoohhdkahiaaGreatDoor
set_option linter.unusedSimpArgs false
set_option linter.unusedVariables false
open Go.RowKit Go.Sort Go.Shelf Go.Lib Go.Maps
def SetsO (w : World) (g B : Nat) (ss : List (List Int)) : Prop :=
  ∃ vs : List Value, vs.length = ss.length ∧ Rw w g 41 vs.toArray ∧ (∀ k (h : k < vs.length) (h' : k < ss.length), w.ownsRow B 3 1 vs[k] ss[k].length (ints ss[k]) ∧ ∀ b, vs[k].ownBlock = some b → b ≠ g) ∧ ∀ j k (hj : j < vs.length) (hk : k < vs.length), j ≠ k → ∀ b, vs[j].ownBlock = some b → vs[k].ownBlock ≠ some b
theorem SetsO.up {w w' : World} {g B : Nat} {ss : List (List Int)} (h : SetsO w g B ss) (hb : RowKit.Below w.heap.size w w') : SetsO w' g B ss := by
  obtain ⟨vs, h1, h2, h3, h4⟩ := h
  exact ⟨vs, h1, h2.up hb h2.lt, fun k hk hk' => ⟨own_upF (h3 k hk hk').1 hb, (h3 k hk hk').2⟩, h4⟩
theorem SetsO.r {w : World} {g B : Nat} {ss : List (List Int)} (h : SetsO w g B ss) : SetsR w (.slice (some ⟨g, 0, none⟩) ss.length ss.length) ss := by
  obtain ⟨vs, h1, h2, h3, h4⟩ := h
  refine ⟨vs, h1, ⟨by omega, _, _, rfl, Nat.le_refl _, fun _ => ⟨g, 0, rfl, h2.lt, fun j u hj => ?_⟩⟩, fun k hk hk' => own_sl (h3 k hk hk').1⟩
  rw [Nat.zero_add]
  exact h2.cell (by rw [← Array.getElem?_toList]; simpa using hj)
theorem SetsO.nw {w w' : World} {g B : Nat} {ss : List (List Int)} (h : SetsO w g B ss) : ∃ vs : List Value, vs.length = ss.length ∧ Rw w g 41 vs.toArray ∧ ∀ k (h : k < vs.length) b, vs[k].ownBlock = some b → b < w.heap.size := by
  obtain ⟨vs, h1, h2, h3, h4⟩ := h
  exact ⟨vs, h1, h2, fun k hk b e => ((h3 k hk (by omega)).1.lt b e).2⟩
theorem setsO_made (w : World) (n B : Nat) : SetsO (w.alloc (.cells (madeCells #[.slice none 0 0] n) 41)) w.heap.size B (List.replicate n []) := by
  refine ⟨List.replicate n (.slice none 0 0), by simp, ?_, fun k hk hk' => ?_, fun j k hj hk _ b e => ?_⟩
  · have : madeCells #[.slice none 0 0] n = (List.replicate n (Value.slice none 0 0)).toArray := by
      apply Array.ext'
      rw [toList_madeCells_one]
    rw [this]
    exact Rw.new _ _ _ rfl
  · simp only [List.getElem_replicate]
    exact ⟨World.ownsRow_nil _ _ _ _, fun b e => by cases e⟩
  · simp only [List.getElem_replicate] at e
    cases e
theorem setsO_put {X W5 : World} {o : Obj} {g B b g5 cap5 : Nat} {ss : List (List Int)} {vs : List Value} {va : Option Addr} {vcap : Nat} {z : Int} (hvl : vs.length = ss.length) (hrw : Rw X g 41 vs.toArray)
    (hvo : ∀ k (h : k < vs.length) (h' : k < ss.length), X.ownsRow B 3 1 vs[k] ss[k].length (ints ss[k]) ∧ ∀ c, vs[k].ownBlock = some c → c ≠ g) (hva : ∀ j k (hj : j < vs.length) (hk : k < vs.length), j ≠ k → ∀ c, vs[j].ownBlock = some c → vs[k].ownBlock ≠ some c)
    (hb : b < ss.length) (hvf : vs[b]'(by omega) = .slice va ss[b].length vcap) (hown : W5.ownsRow B 3 1 (.slice (some ⟨g5, 0, none⟩) (ss[b].length + 1) cap5) (ss[b].length + 1) (ints ss[b] ++ [.int .i64 z])) (hg : (X.alloc o).grownBy W5 (Value.slice va ss[b].length vcap).ownBlock)
    (hat : (Value.slice va ss[b].length vcap).ownBlock = some g5 ∨ g5 = X.heap.size + 1) (hgB : g < B) : SetsO (W5.setCell ⟨g, b, none⟩ (.slice (some ⟨g5, 0, none⟩) (ss[b].length + 1) cap5)) g B (ss.set b (ss[b] ++ [z])) := by
  have hlt : ∀ k (h : k < vs.length) c, vs[k].ownBlock = some c → c < X.heap.size := fun k hk c e => ((hvo k hk (by omega)).1.lt c e).2
  have hg5 : g5 ≠ g := by
    have := own_block hown g5 (by simp [Value.ownBlock])
    omega
  have hgX := hrw.lt
  have hng : some g ≠ (Value.slice va ss[b].length vcap).ownBlock := fun e => (hvo b (by omega) hb).2 g (by rw [hvf]; exact e.symm) rfl
  have R5 : Rw W5 g 41 vs.toArray := (hg.block g (by simp; omega) hng).trans (hrw.alloc _)
  refine ⟨vs.set b (.slice (some ⟨g5, 0, none⟩) (ss[b].length + 1) cap5), by simp [hvl], ?_, fun k hk hk' => ?_, fun j k hj hk hjk c e => ?_⟩
  · have := R5.set b (.slice (some ⟨g5, 0, none⟩) (ss[b].length + 1) cap5)
    simpa using this
  · by_cases e : b = k
    · subst e
      simp only [List.getElem_set_self]
      refine ⟨?_, fun c e => by simp [Value.ownBlock] at e; omega⟩
      have h1 : W5.ownsRow B 3 1 (.slice (some ⟨g5, 0, none⟩) (ss[b].length + 1) cap5) (ss[b] ++ [z]).length (ints (ss[b] ++ [z])) := by simpa [ints] using hown
      exact own_set h1 _ (by simp [Value.ownBlock]; omega)
    · simp only [List.getElem_set_ne e]
      have hk1 : k < vs.length := by simpa using hk
      have hk2 : k < ss.length := by simpa using hk'
      obtain ⟨h1, h2⟩ := hvo k hk1 hk2
      refine ⟨own_set ((h1.alloc o).kept hg ?_) _ (fun e2 => h2 g e2 rfl), h2⟩
      cases e3 : vs[k].ownBlock with
      | none => exact .inl rfl
      | some c => exact .inr (fun e4 => hva k b hk1 (by omega) (Ne.symm e) c e3 (by rw [hvf]; exact e4.symm))
  · have hj1 : j < vs.length := by simpa using hj
    have hk1 : k < vs.length := by simpa using hk
    have far : ∀ q (hq : q < vs.length), q ≠ b → ∀ c, vs[q].ownBlock = some c → c ≠ g5 := fun q hq hqb c e1 e2 => by
      subst e2
      rcases hat with hat | hat
      · exact hva q b hq (by omega) hqb c e1 (by rw [hvf]; exact hat)
      · have := hlt q hq c e1
        omega
    by_cases e1 : b = j
    · subst e1
      have e2 : b ≠ k := hjk
      simp only [List.getElem_set_self, Value.ownBlock] at e
      simp only [List.getElem_set_ne e2]
      injection e with e
      intro e4
      exact far k hk1 (Ne.symm e2) c e4 e.symm
    · simp only [List.getElem_set_ne e1] at e
      by_cases e2 : b = k
      · subst e2
        simp only [List.getElem_set_self, Value.ownBlock]
        intro e4
        injection e4 with e4
        exact far j hj1 (Ne.symm e1) c e e4.symm
      · simp only [List.getElem_set_ne e2]
        exact hva j k hj1 hk1 hjk c e
def SetsF (B : Nat) (w : World) (v : Value) (ss : List (List Int)) : Prop :=
  ∃ vs : List Value, vs.length = ss.length ∧ Sl w 1 v ss.length vs ∧ NewB B v ∧ ∀ k (h : k < vs.length) (h' : k < ss.length), Sl w 1 vs[k] ss[k].length (ints ss[k]) ∧ NewB B vs[k]
theorem SetsF.r {B : Nat} {w : World} {v : Value} {ss : List (List Int)} (h : SetsF B w v ss) : SetsR w v ss := let ⟨vs, h1, h2, _, h4⟩ := h; ⟨vs, h1, h2, fun k hk hk' => (h4 k hk hk').1⟩
theorem SetsF.form {B : Nat} {w : World} {v : Value} {ss : List (List Int)} (h : SetsF B w v ss) : ∃ ao cap, v = .slice ao ss.length cap := h.r.form
theorem SetsF.mono {B B' : Nat} {w : World} {v : Value} {ss : List (List Int)} (h : SetsF B w v ss) (hb : B' ≤ B) : SetsF B' w v ss := let ⟨vs, h1, h2, h3, h4⟩ := h; ⟨vs, h1, h2, h3.mono hb, fun k hk hk' => ⟨(h4 k hk hk').1, (h4 k hk hk').2.mono hb⟩⟩
theorem SetsF.up {B : Nat} {w w' : World} {v : Value} {ss : List (List Int)} (h : SetsF B w v ss) (hb : RowKit.Below w.heap.size w w') : SetsF B w' v ss := let ⟨vs, h1, h2, h3, h4⟩ := h; ⟨vs, h1, h2.up hb, h3, fun k hk hk' => ⟨(h4 k hk hk').1.up hb, (h4 k hk hk').2⟩⟩
theorem SetsF.set {B : Nat} {w : World} {v : Value} {ss : List (List Int)} (h : SetsF B w v ss) {c j : Nat} (hc : c < B) (u : Value) : SetsF B (w.setCell ⟨c, j, none⟩ u) v ss := let ⟨vs, h1, h2, h3, h4⟩ := h; ⟨vs, h1, h2.far h3 hc u, h3, fun k hk hk' => ⟨(h4 k hk hk').1.far (h4 k hk hk').2 hc u, (h4 k hk hk').2⟩⟩
theorem SetsF.nil (B : Nat) (w : World) : SetsF B w (.slice none 0 0) [] := ⟨[], rfl, Sl.nil _ _, newB_nil _ _, fun k h => absurd h (Nat.not_lt_zero _)⟩
theorem SetsO.f {w : World} {g B C : Nat} {ss : List (List Int)} (h : SetsO w g B ss) (h1 : C ≤ g) (h2 : C ≤ B) : SetsF C w (.slice (some ⟨g, 0, none⟩) ss.length ss.length) ss := by
  obtain ⟨vs, v1, v2, v3, v4⟩ := h
  refine ⟨vs, v1, ⟨by omega, _, _, rfl, Nat.le_refl _, fun _ => ⟨g, 0, rfl, v2.lt, fun j u hj => ?_⟩⟩, newB_at h1, fun k hk hk' => ⟨own_sl (v3 k hk hk').1, fun c e => Nat.le_trans h2 (own_block (v3 k hk hk').1 c e)⟩⟩
  rw [Nat.zero_add]
  exact v2.cell (by rw [← Array.getElem?_toList]; simpa using hj)
def gath (n : Nat) (P : List Edg) : List (List Int) := (List.range n).map fun (b : Nat) => (P.filter fun e => e.tt == (b : Int)).map (·.fr)
theorem gath_len (n : Nat) (P : List Edg) : (gath n P).length = n := by simp [gath]
theorem gath_at {n : Nat} {P : List Edg} {b : Nat} (h : b < (gath n P).length) : (gath n P)[b] = (P.filter fun e => e.tt == (b : Int)).map (·.fr) := by simp [gath]
theorem gath_nil (n : Nat) : gath n [] = List.replicate n [] := by
  apply List.ext_getElem
  · simp [gath]
  · intro j h1 h2
    simp [gath]
theorem gath_snoc {n : Nat} {P : List Edg} {ef : Int} {et : Nat} (h : et < n) : gath n (P ++ [⟨ef, et⟩]) = (gath n P).set et ((gath n P)[et]'(by rw [gath_len]; exact h) ++ [ef]) := by
  apply List.ext_getElem
  · simp [gath]
  · intro j h1 h2
    rw [gath_at]
    by_cases e : et = j
    · subst e
      rw [List.getElem_set_self, gath_at]
      simp [List.filter_append]
    · rw [List.getElem_set_ne e, gath_at]
      have : ¬ ((et : Int) = (j : Int)) := by omega
      simp [List.filter_append, this]
theorem infoIntsC : (Tryz.prog.info? 41).map (fun i => (i.zero, i.size, i.bytes)) = some (some (.slice none 0 0), 1, 24) := by kernel_rfl
theorem pairs_in {n : Nat} {p : Nat → Nat → Bool} {e : Edg} (h : e ∈ pairsL n p) : ∃ a b : Nat, a < n ∧ b < n ∧ e = ⟨a, b⟩ ∧ p a b = true := by
  unfold pairsL outP at h
  obtain ⟨a, ha, h⟩ := List.mem_flatMap.1 h
  unfold rowP at h
  obtain ⟨b, hb, rfl⟩ := List.mem_map.1 h
  obtain ⟨hb1, hb2⟩ := List.mem_filter.1 hb
  exact ⟨a, b, List.mem_range.1 ha, List.mem_range.1 hb1, rfl, hb2⟩
set_option maxRecDepth 100000 in
set_option maxHeartbeats 8000000 in
theorem reachers_any (n : Nat) (hn : n ≤ 4) (F : Nat → Nat → Bool) (vm : Value) (w : World) (hM : TabR w vm F n n) :
    Calls Tryz.prog 41 #[vm] w fun e w' => ∃ v, e = .returned v ∧ SetsF w.heap.size w' v (gath n (pairsL n F)) ∧ RowKit.Below w.heap.size w w' := by
  obtain ⟨i1, hi1, hy0, hy1, hy2⟩ := info_parts info3
  obtain ⟨i2, hi2, hb0, hb1, hb2⟩ := info_parts infoIntsC
  obtain ⟨ma, mc, rfl⟩ := hM.form
  have HM := Lib.hid hM
  clear hM
  go_enter Tryz.func41, Tryz.ntmps41
  go_wp2_with (refine wpList_make_row _ rfl _ _ 44 rfl 41 i2 (.slice none 0 0) Tryz.underlying44 hi2 hb0 hb1 rfl .i64 .i64 n rfl rfl (by rw [hb2]; omega) (by omega) ?_)
  have HM1 := Lib.hid (HM.out.up (((RowKit.Below.refl _ _).alloc (Nat.le_refl _) (.cells #[.slice ma n mc] 88)).alloc (by simp) (.cells (madeCells #[.slice none 0 0] n) 41)))
  have HSO := Lib.hid (fun B => setsO_made (w.alloc (.cells #[.slice ma n mc] 88)) n B)
  have k1 : ((w.alloc (.cells #[.slice ma n mc] 88)).alloc (.cells (madeCells #[.slice none 0 0] n) 41)).cell? ⟨w.heap.size, 0, none⟩ = some (.slice ma n mc) := bcl ((RowKit.Below.refl _ _).alloc (Nat.le_refl _) _) (by simp) (by simp)
  have D0 : Hid (RowKit.Below w.heap.size w ((w.alloc (.cells #[.slice ma n mc] 88)).alloc (.cells (madeCells #[.slice none 0 0] n) 41))) := Lib.hid up0
  have hw0 : ((w.alloc (.cells #[.slice ma n mc] 88)).alloc (.cells (madeCells #[.slice none 0 0] n) 41)).heap.size = w.heap.size + 2 := by simp
  have hsz1 : (w.alloc (.cells #[.slice ma n mc] 88)).heap.size = w.heap.size + 1 := by simp
  rw [hsz1] at HSO
  try rw [hsz1]
  clear hsz1
  generalize ((w.alloc (.cells #[.slice ma n mc] 88)).alloc (.cells (madeCells #[.slice none 0 0] n) 41)) = W0 at HM1 HSO k1 D0 hw0 ⊢
  go_wp2_with fail
  refine (pairs_any n hn F 74 ent_reachers1 #[.pointer (some ⟨w.heap.size, 0, none⟩)] _ (fun a b ha hb w1 hbl => (reachers1_any n a b _ ha hb F _ w1 (bcl hbl (by show w.heap.size < _; omega) k1) (HM1.out.up hbl)).mono (fun e w2 h => ⟨h.1, by rw [h.2]; exact RowKit.Below.refl _ _⟩))).mono ?_
  rintro e w1 ⟨vP, rfl, hP, hPb, bb⟩
  obtain ⟨qa, qc, rfl⟩ := hP.form
  have HP := Lib.hid hP
  have HSO1 := Lib.hid ((HSO.out w1.heap.size).up bb)
  have HPB := Lib.hid hPb
  have D1 := Lib.hid (D0.out.trans (bb.mono D0.out.size))
  have hw1 : w.heap.size + 2 ≤ w1.heap.size := by have := bb.size; omega
  have hPl := pairsL_len n hn F
  have HPI : Hid (∀ e ∈ pairsL n F, ∃ a b : Nat, a < n ∧ b < n ∧ e = ⟨a, b⟩ ∧ F a b = true) := Lib.hid (fun e he => pairs_in he)
  clear hP bb HSO HM1 k1 D0 hPb
  generalize hPP : pairsL n F = P at HP hPl HPI HPB
  have HPP := Lib.hid hPP
  clear hPP
  have hgg0 : w.heap.size + 1 < w1.heap.size := by omega
  have hwg0 : w.heap.size < w.heap.size + 1 := by omega
  have hW2 : W0.heap.size = w.heap.size + 1 + 1 := by omega
  rw [hW2] at HPB
  clear hw0 hW2 hw1
  generalize hgg : w.heap.size + 1 = g at HSO1 HPB hgg0 hwg0 ⊢
  clear hgg
  have HPB : Hid (∀ b, (Value.slice qa P.length qc).ownBlock = some b → g < b ∧ b < w1.heap.size) := Lib.hid (fun b e => ⟨by have := (HPB.out b e).1; omega, (HPB.out b e).2⟩)
  have hw1 : w1.heap.size ≤ w1.heap.size := Nat.le_refl _
  have hgB : g < w1.heap.size := hgg0
  generalize hBB : w1.heap.size = B at HSO1 HPB hgB hw1 D1
  have hw1 : B ≤ w1.heap.size := by omega
  have hwB : w.heap.size ≤ B := by omega
  clear hBB hgg0
  go_wp2
  go_loopw [14] (fun i wr => ∃ k : Nat, i = .int .i64 k ∧ k ≤ P.length ∧ Hid (SetsO wr g B (gath n (P.take k))) ∧ Hid (Sl wr 2 (.slice qa P.length qc) P.length (rowC Edg.cells P)) ∧ B ≤ wr.heap.size ∧ Hid (RowKit.Below w.heap.size w wr)) (fun i _ => P.length - (intOf i).toNat)
  case atStart => exact ⟨0, rfl, Nat.zero_le _, by rw [List.take_zero, gath_nil]; exact HSO1, HP, hw1, D1⟩
  case round =>
    clear HSO1 HP D1 hw1
    obtain ⟨k, rfl, hk, HSO, HP, hw1, HT⟩ := hrel
    by_cases hlt : k < P.length
    · have hli : (k : Int) < P.length := by omega
      obtain ⟨pb, po, pc', e1, hpc, hpb, hpx⟩ := HP.out.open (by omega)
      cases e1
      obtain ⟨c0, c1⟩ := edge_cells hpx k hlt
      obtain ⟨ea, et, hea, het0, hee, _⟩ := HPI.out _ (List.getElem_mem hlt)
      have HTK := Lib.hid (List.take_succ_eq_append_getElem hlt)
      rw [hee] at c0 c1 HTK
      simp only at c0 c1
      clear hee hpx
      generalize hef : (ea : Int) = ef at c0 HTK
      clear hef
      have het : et < (gath n (P.take k)).length := by rw [gath_len]; exact het0
      have HSN : Hid (gath n (P.take (k + 1)) = (gath n (P.take k)).set et ((gath n (P.take k))[et] ++ [ef])) := Lib.hid (by rw [HTK.out, gath_snoc het0])
      have HLN : Hid ((gath n (P.take k))[et].length ≤ 16) := Lib.hid (by
        rw [gath_at, List.length_map]
        refine Nat.le_trans (List.length_filter_le _ _) ?_
        rw [List.length_take]
        omega)
      have hgl := gath_len n (P.take k)
      have hti : (et : Int) < n := by omega
      have hnw : ∀ vs : List Value, Rw wr g 41 vs.toArray → True := fun _ _ => trivial
      clear hnw HTK
      generalize gath n (P.take k) = ss at HSO het HSN HLN hgl
      go_upto_region 5 with fail
      have HX : Hid (RowKit.Below wr.heap.size wr (wr.alloc (.cells #[.int .i64 ef, .int .i64 (et : Int)] 53))) := Lib.hid ((RowKit.Below.refl _ _).alloc (Nat.le_refl _) _)
      have x0 : (wr.alloc (.cells #[.int .i64 ef, .int .i64 (et : Int)] 53)).cell? ⟨wr.heap.size, 0, none⟩ = some (.int .i64 ef) := by simp
      have x1 : (wr.alloc (.cells #[.int .i64 ef, .int .i64 (et : Int)] 53)).cell? ⟨wr.heap.size, 1, none⟩ = some (.int .i64 (et : Int)) := by simp
      have hxs : wr.heap.size < (wr.alloc (.cells #[.int .i64 ef, .int .i64 (et : Int)] 53)).heap.size := by simp
      obtain ⟨vs, hvl, hrw0, hvo0, hva⟩ := HSO.out
      have HNW : Hid (∀ b, (vs[et]'(by omega)).ownBlock = some b → b < wr.heap.size) := Lib.hid (fun b e => ((hvo0 et (by omega) (by omega)).1.lt b e).2)
      have hrw := hrw0.up HX.out hrw0.lt
      have hvo : ∀ k (h : k < vs.length) (h' : k < ss.length), (wr.alloc (.cells #[.int .i64 ef, .int .i64 (et : Int)] 53)).ownsRow B 3 1 vs[k] ss[k].length (ints ss[k]) ∧ ∀ b, vs[k].ownBlock = some b → b ≠ g := fun k h h' => ⟨own_upF (hvo0 k h h').1 HX.out, (hvo0 k h h').2⟩
      have HPX := Lib.hid (HP.out.up HX.out)
      clear hrw0 hvo0
      generalize (wr.alloc (.cells #[.int .i64 ef, .int .i64 (et : Int)] 53)) = X at HX x0 x1 hxs hrw hvo HPX ⊢
      have hcb := hrw.cell (j := et) (v := vs[et]'(by omega)) (by simp [show et < vs.length by omega])
      obtain ⟨o1, hne⟩ := hvo et (by omega) (by omega)
      have HO1 := Lib.hid o1
      have HNE := Lib.hid hne
      have HRW := Lib.hid hrw
      have HVO := Lib.hid hvo
      have HVA := Lib.hid hva
      have HVL := Lib.hid hvl
      clear hrw hvo hva o1 hne
      obtain ⟨va, vcap, hvf⟩ := own_form HO1.out
      have hgX := HRW.out.lt
      rw [hvf] at hcb
      refine region_still (S := fun w' => w'.cell? ⟨wr.heap.size, 0, none⟩ = some (.int .i64 ef) ∧ w'.cell? ⟨wr.heap.size, 1, none⟩ = some (.int .i64 (et : Int)) ∧ w'.cell? ⟨g, et, none⟩ = some (.slice va (ss[et]'(by omega)).length vcap)) 13 (by kernel_rfl) ⟨x0, x1, hcb⟩ (fun hHeld => ?_)
      refine Still.t 0 [] hHeld ?_
      refine Still.t 1 [] hHeld ?_
      refine Still.t 2 [] hHeld ?_
      refine Still.t 3 [] hHeld ?_
      refine Still.t 4 [] hHeld ?_
      refine Still.t 5 [] hHeld ?_
      refine Still.t 6 [] hHeld ?_
      refine Still.t 7 [] hHeld ?_
      refine Still.t 8 [] hHeld ?_
      refine Still.t 9 [] hHeld ?_
      refine Still.o 10 rfl rfl (fun K hK => ?_)
      go_simp
      refine hK _ _ (fun _ => ⟨cl_alloc _ hxs x0, cl_alloc _ hxs x1, cl_alloc _ (show g < X.heap.size from hgX) hcb⟩) (fun hh => ?_)
      have hHeld := hh (by decide)
      clear hK K hh
      try simp only [Act.put, List.getElem_toArray, List.getElem_cons_zero, List.getElem_cons_succ, List.setIfInBounds_toArray, List.set_cons_zero, List.set_cons_succ]
      refine Still.o 11 rfl rfl (fun K hK => ?_)
      refine wp_append_lies _ (.tmp 25) (.tmp 28) 41 rfl B 3 i1 (.int .i64 0) 1 8 Tryz.underlying41 hi1 hy0 hy1 hy2 rfl (by decide) (.slice va (ss[et]'(by omega)).length vcap) (ss[et]'(by omega)).length (ints (ss[et]'(by omega))) (by first | rfl | simp [Act.eval, Act.put]) (by rw [← hvf]; exact (HO1.out.drew).alloc _) ⟨X.heap.size, 0, none⟩ 1 1 [.int .i64 ef] (by first | rfl | simp [Act.eval, Act.put]) rfl (new_rangeE _ _ _ _ rfl) (int_cell _) (by decide) (by have := HLN.out; unfold maxLen; omega) (by have := HLN.out; omega) (by simp; omega) _ rfl ?_
      intro g5 cap5 W5 hown hgrow hat hg5
      have hb5 : ∀ c, c < X.heap.size → (Value.slice va (ss[et]'(by omega)).length vcap).ownBlock ≠ some c → ∀ j v, X.cell? ⟨c, j, none⟩ = some v → W5.cell? ⟨c, j, none⟩ = some v := fun c hc hn j v hv => (hgrow.cell_far ⟨c, j, none⟩ (by simp; omega) (fun e => hn e.symm)).trans (cl_alloc _ hc hv)
      have hnw : (Value.slice va (ss[et]'(by omega)).length vcap).ownBlock ≠ some wr.heap.size := fun e => by have := HNW.out _ (by rw [hvf]; exact e); omega
      have hng : (Value.slice va (ss[et]'(by omega)).length vcap).ownBlock ≠ some g := fun e => HNE.out _ (by rw [hvf]; exact e) rfl
      refine hK _ _ (fun _ => ⟨hb5 _ hxs hnw _ _ x0, hb5 _ hxs hnw _ _ x1, hb5 _ hgX hng _ _ hcb⟩) (fun hh => ?_)
      have hHeld := hh (by decide)
      clear hK K hh
      have R5 : Rw W5 g 41 vs.toArray := (hgrow.block g (by simp; omega) (fun e => hng e.symm)).trans (HRW.out.drew.alloc _)
      have hfr := R5.fr et
      skip
      have HST := Lib.hid (setsO_put (X := X.drew) (o := .cells #[.int .i64 ef] 3) (z := ef) HVL.out HRW.out.drew (fun k h h' => ⟨(HVO.out k h h').1.drew, (HVO.out k h h').2⟩) HVA.out het hvf hown hgrow (by simpa using hat) hgB)
      have HD5 : Hid (RowKit.Below B X W5) := Lib.hid (((RowKit.Below.refl B X).drew.alloc (show B ≤ X.heap.size by omega) (.cells #[.int .i64 ef] 3)).grown hgrow (by simp; omega) (fun q e => by have := own_block HO1.out q (by rw [hvf]; exact e); omega))
      have HP5 := Lib.hid (flSl_grown ((HPX.out.up (RowKit.Below.refl _ _).drew).up ((RowKit.Below.refl _ _).alloc (Nat.le_refl _) (.cells #[.int .i64 ef] 3))) hgrow (fun c e e2 => by have h1 := (HPB.out c e).2; have h2 := own_block HO1.out c (by rw [hvf]; exact e2); omega))
      clear hown hgrow hat hb5
      try simp only [Act.put, List.getElem_toArray, List.getElem_cons_zero, List.getElem_cons_succ, List.setIfInBounds_toArray, List.set_cons_zero, List.set_cons_succ]
      refine Still.t 12 [] hHeld ?_
      refine Still.o 13 rfl rfl (fun K hK => ?_)
      go_simp
      refine hK _ _ (fun h => absurd rfl h) (fun _ => ?_)
      clear hK K
      refine Still.over (by kernel_rfl) ?_ _
      clear hHeld
      go_wp2
      go_roundw
      case rel =>
        refine ⟨k + 1, by go_num, by omega, by rw [HSN.out]; exact HST, ?_, ?_, ?_⟩
        · exact Lib.hid (HP5.out.set _ (fun e => by have := (HPB.out g e).1; omega))
        · rw [size_set]
          have := HD5.out.size
          omega
        · refine Lib.hid (RowKit.Below.setCell ?_ (by show w.heap.size ≤ g; omega) _)
          exact (HT.out.trans (HX.out.mono HT.out.size)).trans (HD5.out.mono (by omega))
      case measure => simp [intOf]; omega
    · have hli : ¬ (k : Int) < P.length := by omega
      have HSF : Hid (SetsO wr g B (gath n P)) := Lib.hid (by have := HSO.out; rwa [List.take_of_length_le (by omega)] at this)
      go_wp2
      go_ret
      refine ⟨.slice (some ⟨g, 0, none⟩) n n, rfl, ?_, HT.out⟩
      have := HSF.out.f (C := w.heap.size) (by omega) hwB
      rw [gath_len] at this
      rw [HPP.out]
      exact this
end Go.Proofs.YtbkdoohhdkahiaaGreatDoor
namespace Go.Proofs.YtbkdoohhdkahiaaGreatDoor
set_option linter.unusedSimpArgs false
set_option linter.unusedVariables false
open Go.RowKit Go.Sort Go.Shelf Go.Lib Go.Maps
theorem ent_flPath : Enters 40 := enters Tryz.func40 (by kernel_rfl) (by kernel_rfl)
theorem sizeCert : (Tryz.prog.info? 46).map (·.size) = some 1 := by kernel_rfl
theorem results_row_tmp3 {P : Program} {fn : Func} {p q r s : Tmp} {ty : TypeId} (h : fn.results = #[.cell p ty, .tmp q, .tmp r, .tmp s]) (tmps : Array Value) (w : World) (g : Nat) (v u x y : Value)
    (hp : tmps.getD p undef = .pointer (some ⟨g, 0, none⟩)) (hq : tmps.getD q undef = u) (hr : tmps.getD r undef = x) (hs : tmps.getD s undef = y) (hl : (loadVar ty ⟨g, 0, none⟩).run P w = .ok v w) : (results fn tmps).run P w = .ok (.tuple #[v, u, x, y]) w := by
  have hp' : tmps[p]?.getD undef = .pointer (some ⟨g, 0, none⟩) := by simpa using hp
  have hq' : tmps[q]?.getD undef = u := by simpa using hq
  have hr' : tmps[r]?.getD undef = x := by simpa using hr
  have hs' : tmps[s]?.getD undef = y := by simpa using hs
  simp [results, h, hp', hq', hr', hs', asAddr, hl]
theorem Sl.same {w : World} {size : Nat} {v : Value} {n : Nat} {xs : List Value} (h : Sl w size v n xs) {c j : Nat} {u : Value} (hu : w.cell? ⟨c, j, none⟩ = some u) : Sl (w.setCell ⟨c, j, none⟩ u) size v n xs := by
  obtain ⟨h1, ao, cap, rfl, h3, h4⟩ := h
  refine ⟨h1, ao, cap, rfl, h3, fun hn => ?_⟩
  obtain ⟨b, off, rfl, hlt, hc⟩ := h4 hn
  refine ⟨b, off, rfl, by rw [size_set]; exact hlt, fun k u' hk => ?_⟩
  have h5 := hc k u' hk
  by_cases e : b = c ∧ off + k = j
  · obtain ⟨rfl, rfl⟩ := e
    rw [h5] at hu
    injection hu with hu
    subst hu
    exact cl_same h5
  · exact cl_set (by omega) h5
def leakL (S : SysD) (L : List Edg) : List Edg := pairsL S.parts.length fun a b => reachB S a b && !(mayB L a b)
def certS (S : SysD) : List (List Int) := gath S.parts.length (pairsL S.parts.length fun a b => reachB S a b)
structure CertOut where
  sets : List (List Int)
  path : List Int
  is : Bool
def certG (S : SysD) (L : List Edg) : CertOut := match leakL S L with
  | [] => ⟨certS S, [], true⟩
  | e :: _ => ⟨[], pathL S e.fr e.tt, false⟩
noncomputable def certO (S : SysD) (L : List Edg) : CertOut := if polE S L = 0 then certG S L else ⟨[], [], false⟩
theorem leak_in {S : SysD} {L : List Edg} {e : Edg} (h : e ∈ leakL S L) : ∃ a b : Nat, a < S.parts.length ∧ b < S.parts.length ∧ e = ⟨a, b⟩ ∧ reachB S a b = true ∧ mayB L a b = false := by
  obtain ⟨a, b, ha, hb, rfl, hp⟩ := pairs_in h
  simp only [Bool.and_eq_true, Bool.not_eq_true'] at hp
  exact ⟨a, b, ha, hb, rfl, hp.1, hp.2⟩
theorem path_there {S : SysD} {a b : Nat} (h : chkS S = 0) (ha : a < S.parts.length) (hb : b < S.parts.length) : pathE S a b = 0 := by
  refine pathE_ok h ?_ ?_
  · unfold withinB; simp; omega
  · unfold withinB; simp; omega
set_option maxRecDepth 100000 in
set_option maxHeartbeats 8000000 in
theorem certify_any (S : SysD) (L : List Edg) (vp vc vs vL : Value) (w : World) (he : Env w) (hS : Sys w vp vc vs S) (hL : Sl w 2 vL L.length (rowC Edg.cells L)) :
    Calls Tryz.prog 11 #[.agg #[vp, vc, vs], .agg #[vL]] w fun e w' => ∃ vS vP, e = .returned (.tuple #[.agg #[vS], vP, .bool (certO S L).is, .int .i64 (polE S L)]) ∧ SetsF w.heap.size w' vS (certO S L).sets ∧ Sl w' 1 vP (certO S L).path.length (ints (certO S L).path) ∧ RowKit.Below w.heap.size w w' ∧ Hid (polE S L = 0 → ∀ a b : Nat, a < S.parts.length → b < S.parts.length → ∃ l, SearchR (edgesL S) a b l (reachB S a b)) := by
  generalize hc : polE S L = c
  obtain ⟨pa, pc, rfl⟩ := hS.p.form
  obtain ⟨ca, cc, rfl⟩ := hS.c.form
  obtain ⟨sa, sc, rfl⟩ := hS.s.form
  obtain ⟨la, lc, rfl⟩ := hL.form
  have HS := Lib.hid hS
  have HC := Lib.hid hc
  have HL := Lib.hid hL
  clear hS hc hL
  go_enter Tryz.func11, Tryz.ntmps11
  go_wp2_with fail
  refine (ceCheck_any S L _ _ _ _ _ (he.up up0) (HS.out.up up0) (HL.out.up up0)).mono ?_
  rw [HC.out]
  rintro e w1 ⟨rfl, bb⟩
  have HB := Lib.hid (((box_new w (.slice pa S.parts.length pc) (.slice ca S.chans.length cc) (.slice sa S.slots.length sc) 39 _ rfl).up (((RowKit.Below.refl _ _).alloc (Nat.le_refl _) (.cells #[.slice la L.length lc] 27)).alloc (by simp) (.cells #[.slice none 0 0] 46))).up bb)
  have b3 : RowKit.Below ((w.alloc (.cells #[.slice pa S.parts.length pc, .slice ca S.chans.length cc, .slice sa S.slots.length sc] 39)).alloc (.cells #[.slice la L.length lc] 27)).heap.size ((w.alloc (.cells #[.slice pa S.parts.length pc, .slice ca S.chans.length cc, .slice sa S.slots.length sc] 39)).alloc (.cells #[.slice la L.length lc] 27)) w1 := RowKit.Below.trans ((RowKit.Below.refl _ _).alloc (Nat.le_refl _) _) (bb.mono (by simp))
  have k3 : w1.cell? ⟨w.heap.size + 1, 0, none⟩ = some (.slice la L.length lc) := bcl b3 (by simp) (by simp)
  have R4 : Rw w1 (w.heap.size + 1 + 1) 46 #[.slice none 0 0] := Rw.up (Rw.new _ _ _ (by simp)) bb (by simp)
  have hw1 : w.heap.size + 2 < w1.heap.size := by have := bb.size; simp at this; omega
  have D := Lib.hid (RowKit.Below.trans (show RowKit.Below w.heap.size w _ from up0) (bb.mono (by simp; omega)))
  have k4 := R4.cell (j := 0) rfl
  have f4 := R4.fr 0
  have HR4 := Lib.hid R4
  clear bb b3 R4
  by_cases h0 : c = 0
  · subst h0
    obtain ⟨hch, hpu⟩ := polE_is HC.out
    obtain ⟨h4, h1, hcl, _⟩ := chk_flow hch
    have hLl := polUp_len h4 hpu (Nat.le_refl _)
    have HCH := Lib.hid hch
    have HPU := Lib.hid hpu
    have HO : Hid (certO S L = certG S L) := Lib.hid (by unfold certO; rw [if_pos HC.out])
    clear hch hpu
    have k0 := HB.out.p
    have k1 := HB.out.c
    have k2 := HB.out.s
    go_wp2_with fail
    refine (flReach_any S _ _ _ _ (he.up D.out) (HS.out.up D.out)).mono ?_
    rw [HCH.out, show reachQ S = S.parts.length by unfold reachQ; rw [if_pos HCH.out]]
    rintro e w2 ⟨vm, rfl, hm, bb, HSRQ⟩
    obtain ⟨ma, mc, rfl⟩ := hm.form
    have HM := Lib.hid hm
    have HB2 := Lib.hid (HB.out.up bb)
    have k3b := bcl bb (by show w.heap.size + 1 < _; omega) k3
    have HR42 := Lib.hid (HR4.out.up bb HR4.out.lt)
    have hw2 : w.heap.size + 2 < w2.heap.size := by have := bb.size; omega
    have D2 := Lib.hid (D.out.trans (bb.mono D.out.size))
    clear bb hm HB k0 k1 k2 k3 k4 f4 hw1 D HR4
    have A2 : RowKit.Below w2.heap.size w2 (w2.alloc (.cells #[.slice ma S.parts.length mc] 88)) := (RowKit.Below.refl _ _).alloc (Nat.le_refl _) _
    have HB3 := Lib.hid (HB2.out.up A2)
    have k3c := bcl A2 (by show w.heap.size + 1 < _; omega) k3b
    have HR43 := Lib.hid (HR42.out.up A2 HR42.out.lt)
    have HM3 := Lib.hid (HM.out.up A2)
    have D3 := Lib.hid (D2.out.trans (A2.mono D2.out.size))
    have t9 : (w2.alloc (.cells #[.slice ma S.parts.length mc] 88)).cell? ⟨w2.heap.size, 0, none⟩ = some (.slice ma S.parts.length mc) := by simp
    have hX : w2.heap.size < (w2.alloc (.cells #[.slice ma S.parts.length mc] 88)).heap.size := by simp
    clear A2 HB2 k3b HR42 HM D2
    have k0 := HB3.out.p
    go_upto_region 5 with fail
    generalize w2.alloc (.cells #[.slice ma S.parts.length mc] 88) = X at HB3 k3c HR43 HM3 D3 t9 hX k0 ⊢
    go_wp2_with fail
    refine (allowed_any S.parts.length h4 L hLl (fun e he => polUp_wf h4 HPU.out he) _ _ (HL.out.up D3.out)).mono ?_
    rintro e w3 ⟨sb, rfl, ⟨sn, hsy⟩, bb⟩
    have HB4 := Lib.hid (HB3.out.up bb)
    have HR44 := Lib.hid (HR43.out.up bb HR43.out.lt)
    have HM4 := Lib.hid (HM3.out.up bb)
    have HSY := Lib.hid hsy
    have t9b := bcl bb hX t9
    have D4 := Lib.hid (D3.out.trans (bb.mono D3.out.size))
    have hw3 : w2.heap.size < w3.heap.size := by have := bb.size; omega
    clear bb hsy HB3 HR43 HM3 t9 hX k0 k3c D3
    have A2 : RowKit.Below w3.heap.size w3 (w3.alloc (.cells #[.map (some sb)] 92)) := (RowKit.Below.refl _ _).alloc (Nat.le_refl _) _
    have HB3 := Lib.hid (HB4.out.up A2)
    have HR43 := Lib.hid (HR44.out.up A2 HR44.out.lt)
    have HM3 := Lib.hid (HM4.out.up A2)
    have HSY3 := Lib.hid (HSY.out.up A2)
    have t9c := bcl A2 hw3 t9b
    have D3 := Lib.hid (D4.out.trans (A2.mono D4.out.size))
    have t11 : (w3.alloc (.cells #[.map (some sb)] 92)).cell? ⟨w3.heap.size, 0, none⟩ = some (.map (some sb)) := by simp
    have hX : w3.heap.size < (w3.alloc (.cells #[.map (some sb)] 92)).heap.size := by simp
    clear A2 HB4 HR44 HM4 HSY t9b D4
    have k0 := HB3.out.p
    go_upto_region 6 with fail
    generalize w3.alloc (.cells #[.map (some sb)] 92) = Y at HB3 HR43 HM3 HSY3 D3 t9c t11 hX k0 ⊢
    go_wp2_with fail
    refine (pairs_any S.parts.length h4 (fun a b => reachB S a b && !(mayB L a b)) 38 ent_certify1 #[.pointer (some ⟨w2.heap.size, 0, none⟩), .pointer (some ⟨w3.heap.size, 0, none⟩)] _ (fun a b ha hb w1 hbl => certify1_any S.parts.length a b _ _ sb sn h4 ha hb (fun a b => reachB S a b) L _ w1 (bcl hbl (by show w2.heap.size < Y.heap.size; omega) t9c) (bcl hbl hX t11) (HM3.out.up hbl) (HSY3.out.up hbl))).mono ?_
    rintro e w5 ⟨vP, rfl, hP, _, bb⟩
    have hP0 : Sl w5 2 vP (leakL S L).length (rowC Edg.cells (leakL S L)) := hP
    obtain ⟨qa, qc, rfl⟩ := hP0.form
    have HP := Lib.hid hP0
    have HB5 := Lib.hid (HB3.out.up bb)
    have HR45 := Lib.hid (HR43.out.up bb HR43.out.lt)
    have HM5 := Lib.hid (HM3.out.up bb)
    have t9d := bcl bb (by show w2.heap.size < Y.heap.size; omega) t9c
    have D5 := Lib.hid (D3.out.trans (bb.mono D3.out.size))
    have hw5 : w2.heap.size < w5.heap.size := by have := bb.size; omega
    clear bb hP hP0 HB3 HR43 HM3 HSY3 D3 t9c t11 hX k0
    have HLI : Hid (∀ e ∈ leakL S L, ∃ a b : Nat, a < S.parts.length ∧ b < S.parts.length ∧ e = ⟨a, b⟩ ∧ reachB S a b = true ∧ mayB L a b = false) := Lib.hid (fun e he => leak_in he)
    have HG : Hid (certO S L = match leakL S L with | [] => ⟨certS S, [], true⟩ | e :: _ => ⟨[], pathL S e.fr e.tt, false⟩) := HO
    generalize leakL S L = K0 at HP HLI HG ⊢
    cases K0 with
    | cons ed rest =>
      obtain ⟨x, y, hx, hy, rfl, _, _⟩ := HLI.out ed (by simp)
      obtain ⟨lb, lo, lcap, e1, hlc, hlb, hlx⟩ := HP.out.open (by simp)
      cases e1
      obtain ⟨l0, l1⟩ := edge_cells hlx 0 (by simp)
      simp only [List.getElem_cons_zero, Nat.zero_mul, Nat.add_zero] at l0 l1
      have HPE := Lib.hid (path_there HCH.out hx hy)
      have HPQ := Lib.hid ((pathQ_ok (S := S) (a := x) (b := y) HPE.out).1)
      generalize hef : (x : Int) = ef at l0 HG HPQ HPE
      generalize het : (y : Int) = et at l1 HG HPQ HPE
      clear hef het hlx HP
      have hlen : (0 : Int) < (((⟨ef, et⟩ : Edg) :: rest).length : Int) := by first | (simp; done) | (simp; omega)
      go_upto_region 8 with fail
      refine region_still (S := fun w' => Box w' w.heap.size (.slice pa S.parts.length pc) (.slice ca S.chans.length cc) (.slice sa S.slots.length sc) ∧ w'.cell? ⟨lb, lo, none⟩ = some (.int .i64 ef) ∧ w'.cell? ⟨lb, lo + 1, none⟩ = some (.int .i64 et)) 16 (by kernel_rfl) ⟨HB5.out.up (RowKit.Below.refl _ _).drew, l0, l1⟩ (fun hHeld => ?_)
      refine Still.t 0 [] hHeld ?_ (hy := by (intro w' hSw; (try dsimp only at hSw); obtain ⟨hbx, q3, q4⟩ := hSw; have q0 := hbx.p; have q1 := hbx.c; have q2 := hbx.s; clear hbx; go_simp; try with_reducible rfl))
      refine Still.t 1 [] hHeld ?_ (hy := by (intro w' hSw; (try dsimp only at hSw); obtain ⟨hbx, q3, q4⟩ := hSw; have q0 := hbx.p; have q1 := hbx.c; have q2 := hbx.s; clear hbx; go_simp; try with_reducible rfl))
      refine Still.t 2 [] hHeld ?_ (hy := by (intro w' hSw; (try dsimp only at hSw); obtain ⟨hbx, q3, q4⟩ := hSw; have q0 := hbx.p; have q1 := hbx.c; have q2 := hbx.s; clear hbx; go_simp; try with_reducible rfl))
      refine Still.t 3 [] hHeld ?_ (hy := by (intro w' hSw; (try dsimp only at hSw); obtain ⟨hbx, q3, q4⟩ := hSw; have q0 := hbx.p; have q1 := hbx.c; have q2 := hbx.s; clear hbx; go_simp; try with_reducible rfl))
      refine Still.t 4 [] hHeld ?_ (hy := by (intro w' hSw; (try dsimp only at hSw); obtain ⟨hbx, q3, q4⟩ := hSw; have q0 := hbx.p; have q1 := hbx.c; have q2 := hbx.s; clear hbx; go_simp; try with_reducible rfl))
      refine Still.t 5 [] hHeld ?_ (hy := by (intro w' hSw; (try dsimp only at hSw); obtain ⟨hbx, q3, q4⟩ := hSw; have q0 := hbx.p; have q1 := hbx.c; have q2 := hbx.s; clear hbx; go_simp; try with_reducible rfl))
      refine Still.t 6 [] hHeld ?_ (hy := by (intro w' hSw; (try dsimp only at hSw); obtain ⟨hbx, q3, q4⟩ := hSw; have q0 := hbx.p; have q1 := hbx.c; have q2 := hbx.s; clear hbx; go_simp; try with_reducible rfl))
      refine Still.t 7 [] hHeld ?_ (hy := by (intro w' hSw; (try dsimp only at hSw); obtain ⟨hbx, q3, q4⟩ := hSw; have q0 := hbx.p; have q1 := hbx.c; have q2 := hbx.s; clear hbx; go_simp; try with_reducible rfl))
      refine Still.t 8 [] hHeld ?_ (hy := by (intro w' hSw; (try dsimp only at hSw); obtain ⟨hbx, q3, q4⟩ := hSw; have q0 := hbx.p; have q1 := hbx.c; have q2 := hbx.s; clear hbx; go_simp; try with_reducible rfl))
      refine Still.o 9 rfl rfl (fun K hK => ?_)
      refine wp_call 40 _ _ rfl ent_flPath #[.agg #[.slice pa S.parts.length pc, .slice ca S.chans.length cc, .slice sa S.slots.length sc], .int .i64 ef, .int .i64 et] (by first | rfl | simp [Act.eval, Act.put]) ((flPath_any S ef et _ _ _ _ (he.up (D5.out.trans (RowKit.Below.refl _ _).drew)) (HS.out.up (D5.out.trans (RowKit.Below.refl _ _).drew))).mono ?_)
      rintro e V1 ⟨vq, rfl, hqs, bb, _⟩
      have HV : Hid (RowKit.Below w5.heap.size w5 V1) := Lib.hid (RowKit.Below.trans (RowKit.Below.refl _ _).drew bb)
      obtain ⟨qa, qc, rfl⟩ := hqs.form
      have HQS := Lib.hid hqs
      refine ⟨_, rfl, hK _ _ (fun _ => ⟨HB5.out.up HV.out, bcl HV.out hlb l0, bcl HV.out hlb l1⟩) (fun hh => ?_)⟩
      have hHeld := hh (by decide)
      clear hK K hh hqs bb
      try simp only [Act.put, List.getElem_toArray, List.getElem_cons_zero, List.getElem_cons_succ, List.setIfInBounds_toArray, List.set_cons_zero, List.set_cons_succ]
      refine Still.t 10 [] hHeld ?_ (hy := by (intro w' hSw; (try dsimp only at hSw); obtain ⟨hbx, q3, q4⟩ := hSw; have q0 := hbx.p; have q1 := hbx.c; have q2 := hbx.s; clear hbx; go_simp; try with_reducible rfl))
      refine Still.t 11 [] hHeld ?_ (hy := by (intro w' hSw; (try dsimp only at hSw); obtain ⟨hbx, q3, q4⟩ := hSw; have q0 := hbx.p; have q1 := hbx.c; have q2 := hbx.s; clear hbx; go_simp; try with_reducible rfl))
      refine Still.t 12 [] hHeld ?_ (hy := by (intro w' hSw; (try dsimp only at hSw); obtain ⟨hbx, q3, q4⟩ := hSw; have q0 := hbx.p; have q1 := hbx.c; have q2 := hbx.s; clear hbx; go_simp; try with_reducible rfl))
      refine Still.t 13 [] hHeld ?_ (hy := by (intro w' hSw; (try dsimp only at hSw); obtain ⟨hbx, q3, q4⟩ := hSw; have q0 := hbx.p; have q1 := hbx.c; have q2 := hbx.s; clear hbx; go_simp; try with_reducible rfl))
      refine Still.t 14 [] hHeld ?_ (hy := by (intro w' hSw; (try dsimp only at hSw); obtain ⟨hbx, q3, q4⟩ := hSw; have q0 := hbx.p; have q1 := hbx.c; have q2 := hbx.s; clear hbx; go_simp; try with_reducible rfl))
      refine Still.t 15 [] hHeld ?_ (hy := by (intro w' hSw; (try dsimp only at hSw); obtain ⟨hbx, q3, q4⟩ := hSw; have q0 := hbx.p; have q1 := hbx.c; have q2 := hbx.s; clear hbx; go_simp; try with_reducible rfl))
      refine Still.o 16 rfl rfl (fun K hK => ?_)
      go_simp
      refine hK _ _ (fun h => absurd rfl h) (fun _ => ?_)
      clear hK K
      refine Still.over (by kernel_rfl) ?_ _
      clear hHeld
      have HR46 := Lib.hid (HR45.out.up HV.out HR45.out.lt)
      have k4 := HR46.out.cell (j := 0) rfl
      have f4 := HR46.out.fr 0
      go_wp2
      refine bodyPost_ret (results_row_tmp3 Tryz.results11 _ _ (w.heap.size + 1 + 1) _ _ _ _ rfl rfl rfl rfl (run_loadVar_row _ _ 46 _ #[.slice none 0 0] (0, 0) _ (HR46.out.set 0 _) Tryz.underlying46 rfl sizeCert)) rfl ⟨.slice none 0 0, .slice qa (pathQ S ef et).length qc, by rw [HG.out]; rfl, by rw [HG.out]; exact SetsF.nil _ _, by rw [HG.out, ← HPQ.out]; exact HQS.out.same k4, (D5.out.trans (HV.out.mono D5.out.size)).setCell (by show w.heap.size ≤ w.heap.size + 1 + 1; omega) _⟩
    | nil =>
      clear HP
      go_wp2_with fail
      refine (reachers_any S.parts.length h4 (fun a b => reachB S a b) _ _ HM5.out).mono ?_
      rintro e w6 ⟨v6, rfl, hs6, bb⟩
      obtain ⟨sa6, sc6, rfl⟩ := hs6.form
      have HS6 := Lib.hid hs6
      have HR46 := Lib.hid (HR45.out.up bb HR45.out.lt)
      have D6 := Lib.hid (D5.out.trans (bb.mono D5.out.size))
      have k4 := HR46.out.cell (j := 0) rfl
      have f4 := HR46.out.fr 0
      clear hs6 bb t9d
      go_wp2
      refine bodyPost_ret (results_row_tmp3 Tryz.results11 _ _ (w.heap.size + 1 + 1) _ _ _ _ rfl rfl rfl rfl (run_loadVar_row _ _ 46 _ #[.slice sa6 (gath S.parts.length (pairsL S.parts.length fun a b => reachB S a b)).length sc6] (0, 0) _ (HR46.out.set 0 _) Tryz.underlying46 rfl sizeCert)) rfl ⟨.slice sa6 (gath S.parts.length (pairsL S.parts.length fun a b => reachB S a b)).length sc6, .slice none 0 0, by rw [HG.out]; rfl, by rw [HG.out]; exact (HS6.out.set (by omega) _).mono (by omega), by rw [HG.out]; exact Sl.nil _ _, D6.out.setCell (by show w.heap.size ≤ w.heap.size + 1 + 1; omega) _⟩
  · have h0' : (c != 0) = true := by simpa using h0
    have HO : Hid (certO S L = ⟨[], [], false⟩) := Lib.hid (by unfold certO; rw [if_neg (by rw [HC.out]; exact h0)])
    have H0 := Lib.hid h0
    clear h0
    go_wp2
    refine bodyPost_ret (results_row_tmp3 Tryz.results11 _ _ (w.heap.size + 1 + 1) _ _ _ _ rfl rfl rfl rfl (run_loadVar_row _ _ 46 _ #[.slice none 0 0] (0, 0) _ (HR4.out.set 0 _) Tryz.underlying46 rfl sizeCert)) rfl ⟨.slice none 0 0, .slice none 0 0, by rw [HO.out]; rfl, by rw [HO.out]; exact SetsF.nil _ _, by rw [HO.out]; exact Sl.nil _ _, D.out.setCell (by show w.heap.size ≤ w.heap.size + 1 + 1; omega) _, Lib.hid (fun h => absurd h H0.out)⟩
end Go.Proofs.YtbkdoohhdkahiaaGreatDoor

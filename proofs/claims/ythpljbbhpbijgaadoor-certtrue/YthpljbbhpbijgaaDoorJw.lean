/- A set of edges: a map with edges as its keys. -/
import Derived.Test.YthpljbbhpbijgaaDoorFl31
import Derived.Maps.OwnOps
import Derived.Maps.OwnSet
import Derived.DeepKeys4
namespace Go.Proofs.YthpljbbhpbijgaaDoor
set_option linter.unusedSimpArgs false
set_option linter.unusedVariables false
open Go.RowKit Go.Sort Go.Shelf Go.Lib Go.Maps Go.WideMaps

theorem ceLaid : laidOutB Tryd.prog = true := by kernel_rfl
theorem ceRow : (37 : TypeId) < Tryd.prog.types.size := of_decide_eq_true (by kernel_rfl)
theorem ceWide : (match Tryd.prog.underlying 37 with | some (.array _ _) | some (.struct _) => true | _ => false) = true := by rw [Tryd.underlying37]
set_option maxRecDepth 100000 in
theorem ceLaw : KeyLaw Tryd.prog 37 := deep_law_laid ceLaid (m := 2) (by omega) ceRow (by kernel_rfl) ceWide
theorem keyE : Keyed Tryd.prog 37 := Keyed.of_law ceLaw
def Edg.v (e : Edg) : Value := .agg #[.int .i64 e.fr, .int .i64 e.tt]
def Edg.wf (e : Edg) : Prop := wfI e.fr ∧ wfI e.tt
theorem ceType : Tryd.prog.keyType 37 = true := by kernel_rfl
theorem ceCells : Tryd.prog.cellsOf 37 = 2 := by kernel_rfl
theorem ceCellsI : Tryd.prog.cellsOf 3 = 1 := by kernel_rfl
theorem pos_succ {n : Nat} (h : 0 < n) : ∃ m, n = m + 1 := ⟨n - 1, by omega⟩
theorem ceSize : ∃ m, Tryd.prog.types.size = m + 1 := pos_succ (Nat.lt_of_le_of_lt (Nat.zero_le _) ceRow)
theorem keyOf_two {P : Program} {k e : TypeId} {f0 f1 : Field} {q : IntKind} (hu : P.underlying k = some (.struct #[f0, f1])) (he : P.underlying e = some (.int q)) (ht0 : f0.type = e) (ht1 : f1.type = e) (ho0 : f0.offset = 0) (ho1 : f1.offset = 1) (hn0 : (f0.name != "_") = true) (hn1 : (f1.name != "_") = true)
    (hkt : P.keyType k = true) (hc : P.cellsOf k = 2) (hce : P.cellsOf e = 1) (hsz : ∃ m, P.types.size = m + 1) {a b : Int} (wa : (Lit.int q a).wf = true) (wb : (Lit.int q b).wf = true) :
    keyOf P k (.agg #[.int q a, .int q b]) = some (.string (keyBytes [.int q a, .int q b])) := by
  obtain ⟨m, hm⟩ := hsz
  unfold keyOf
  simp only [hu]
  rw [if_pos (by simp [hkt, Value.formed, hu, hc]), hm]
  unfold Program.keyLits
  simp only [hu, Value.cells]
  rw [if_pos (by simp [hc, hn0, hn1])]
  simp [ht0, ht1, ho0, ho1, hce, Program.keyLits, he, wa, wb]
theorem key_edge {e : Edg} (h : e.wf) : ∃ l, keyOf Tryd.prog 37 e.v = some l :=
  ⟨_, keyOf_two Tryd.underlying37 Tryd.underlying3 rfl rfl rfl rfl (by decide) (by decide) ceType ceCells ceCellsI ceSize h.1 h.2⟩
theorem edg_v_inj {e e' : Edg} (h : e.v = e'.v) : e = e' := by
  obtain ⟨a, b⟩ := e
  obtain ⟨c, d⟩ := e'
  simp [Edg.v] at h
  rw [h.1, h.2]
/-- Block b is a set of at most n edges: those of the list. -/
def SaysM (w : World) (b n : Nat) (L : List Edg) : Prop :=
  ∃ D : DataW Unit, w.ownsMap Tryd.prog 37 unitElem b n D ∧ ∀ e : Edg, ∀ l, keyOf Tryd.prog 37 e.v = some l → Maps.has D l = decide (e ∈ L)
theorem says_made (w : World) : SaysM (w.alloc (.map #[] 0)) w.heap.size 0 [] := ⟨.map [], World.ownsMap_made _ _ _ _, fun e l _ => by simp [Maps.has]⟩
theorem SaysM.lt {w : World} {b n : Nat} {V : List Edg} (h : SaysM w b n V) : b < w.heap.size := let ⟨_, h, _⟩ := h; h.lt
theorem SaysM.kept {w w' : World} {b n : Nat} {V : List Edg} {row : Option Nat} (h : SaysM w b n V) (hg : w.grownBy w' row) (hne : some b ≠ row) : SaysM w' b n V := let ⟨D, h, r⟩ := h; ⟨D, h.kept hg hne, r⟩
theorem SaysM.alloc {w : World} {b n : Nat} {V : List Edg} (h : SaysM w b n V) (o : Obj) : SaysM (w.alloc o) b n V := let ⟨D, h, r⟩ := h; ⟨D, h.alloc o, r⟩
theorem SaysM.up {w w' : World} {b n : Nat} {V : List Edg} (h : SaysM w b n V) (hb : RowKit.Below w.heap.size w w') : SaysM w' b n V := by
  have hl := h.lt
  obtain ⟨D, ⟨es, clock, h1, h2⟩, r⟩ := h
  exact ⟨D, ⟨es, clock, by rw [hb.block _ hl]; exact h1, h2⟩, r⟩
theorem zeroU (w : World) : (zeroValue 107).run Tryd.prog w = .ok (.agg #[]) w := by kernel_rfl
section
variable {w : World} {ops : Array Oper} {rest : List Oper} {o : Oper} {a : Act} {Q : Exit → Act → World → Prop}
set_option maxRecDepth 100000 in
theorem wpList_says_put (hg : o.guard = none) (m x v : Operand) (hop : o.op = Op.mapUpdate 83 m x v) (b n : Nat) (V : List Edg) (hm : a.eval m = .map (some b)) (hown : SaysM w b n V) (hn : n < 1000)
    (e : Edg) (hx : a.eval x = e.v) (hv : a.eval v = .agg #[]) (we : e.wf)
    (hK : ∀ w', SaysM w' b (n + 1) (V ++ [e]) → w.grownBy w' (some b) → wpList Tryd.prog ops Q rest (a.put o.dst undef) w') : wpList Tryd.prog ops Q (o :: rest) a w := by
  obtain ⟨D, h1, h2⟩ := hown
  obtain ⟨kl, hkl⟩ := key_edge we
  refine wpList_plain hg fun K' hK' => ?_
  obtain ⟨w', hrun, r1, r2⟩ := h1.update keyE Tryd.underlying83 (by unfold maxLen; omega) hkl unitElem_mk
  have hfin := hK w' ⟨_, r1, fun e' l' hl' => by
    by_cases he : e' = e
    · subst he
      rw [hkl] at hl'
      injection hl' with hl'
      subst hl'
      rw [Maps.has_put_same h1.isMap (keyE.key hkl)]
      simp
    · have hne : l' ≠ kl := fun h => he (edg_v_inj (keyE.inj hl' (h ▸ hkl)))
      rw [Maps.has_put_other hne, h2 e' l' hl']
      simp [he]⟩ r2
  unfold Oper.wp
  simp [execOp, hop, hm, hx, hv, hrun, Result.andThen]
  exact hK' _ _ hfin
theorem wpList_says_has (hg : o.guard = none) (m x : Operand) (hop : o.op = Op.lookup 83 m x true) (b n : Nat) (V : List Edg) (hm : a.eval m = .map (some b)) (hown : SaysM w b n V)
    (e : Edg) (hx : a.eval x = e.v) (we : e.wf)
    (hK : wpList Tryd.prog ops Q rest (a.put o.dst (.tuple #[.agg #[], .bool (decide (e ∈ V))])) w) : wpList Tryd.prog ops Q (o :: rest) a w := by
  obtain ⟨D, h1, h2⟩ := hown
  obtain ⟨kl, hkl⟩ := key_edge we
  refine wpList_lookup_own_unit _ hg m x _ hop 37 107 keyE Tryd.underlying83 (zeroU _) b n D hm h1 _ kl hx hkl ?_
  rw [h2 e kl hkl]
  exact hK
end
end Go.Proofs.YthpljbbhpbijgaaDoor

namespace Go.Proofs.YthpljbbhpbijgaaDoor
set_option linter.unusedSimpArgs false
set_option linter.unusedVariables false
open Go.RowKit Go.Sort Go.Shelf Go.Lib Go.Maps

def ltEB (a b : Edg) : Bool := decide (a.fr < b.fr) || (a.fr == b.fr && decide (a.tt < b.tt))
def edIn (n : Nat) (e : Edg) : Prop := withinB e.fr 0 ((n : Int) - 1) = true ∧ withinB e.tt 0 ((n : Int) - 1) = true ∧ e.fr ≠ e.tt
/-- The first k of a policy are right. -/
def PolUp (n : Nat) (L : List Edg) (k : Nat) : Prop := ∀ j (h : j < L.length), j < k → edIn n L[j] ∧ (∀ h0 : 0 < j, ltEB (L[j - 1]'(by omega)) L[j] = true)
noncomputable def polB (n : Nat) (L : List Edg) : Bool := @decide (PolUp n L L.length) (Classical.propDecidable _)
theorem polB_true {n : Nat} {L : List Edg} (h : PolUp n L L.length) : polB n L = true := by unfold polB; simpa using h
theorem polB_is {n : Nat} {L : List Edg} (h : polB n L = true) : PolUp n L L.length := by unfold polB at h; simpa using h
theorem polB_false {n : Nat} {L : List Edg} (h : ¬ PolUp n L L.length) : polB n L = false := by unfold polB; simpa using h
theorem polUp_zero (n : Nat) (L : List Edg) : PolUp n L 0 := fun j _ h => by omega
theorem polUp_step {n : Nat} {L : List Edg} {k : Nat} (h : PolUp n L k) (hk : k < L.length) (h1 : edIn n L[k]) (h2 : ∀ h0 : 0 < k, ltEB (L[k - 1]'(by omega)) L[k] = true) : PolUp n L (k + 1) := fun j hj hjk => by
  by_cases e : j = k
  · subst e; exact ⟨h1, h2⟩
  · exact h j hj (by omega)
theorem polUp_bad1 {n : Nat} {L : List Edg} {k : Nat} (hk : k < L.length) (h1 : ¬ edIn n L[k]) : polB n L = false := polB_false (fun h => h1 (h k hk hk).1)
theorem polUp_bad2 {n : Nat} {L : List Edg} {k : Nat} (hk : k < L.length) (h0 : 0 < k) (h2 : ltEB (L[k - 1]'(by omega)) L[k] = false) : polB n L = false := polB_false (fun h => by have := (h k hk hk).2 h0; rw [h2] at this; cases this)
theorem polUp_all {n : Nat} {L : List Edg} {k : Nat} (h : PolUp n L k) (hk : ¬ k < L.length) : polB n L = true := polB_true (fun j hj _ => h j hj (by omega))
theorem polUp_len {n : Nat} (hn : n ≤ 4) {L : List Edg} {k : Nat} (h : PolUp n L k) (hk : k ≤ L.length) : k ≤ 16 := by
  have key : ∀ j (hj : j < L.length), j < k → (j : Int) ≤ L[j].fr * 4 + L[j].tt := by
    intro j
    induction j with
    | zero =>
      intro hj hjk
      obtain ⟨⟨h1, h2, _⟩, _⟩ := h 0 hj hjk
      unfold withinB at h1 h2
      simp at h1 h2
      omega
    | succ j ih =>
      intro hj hjk
      have a := ih (by omega) (by omega)
      obtain ⟨⟨h1, h2, _⟩, h3⟩ := h (j + 1) hj hjk
      obtain ⟨⟨g1, g2, _⟩, _⟩ := h j (by omega) (by omega)
      have h4 := h3 (by omega)
      unfold withinB at h1 h2 g1 g2
      unfold ltEB at h4
      simp at h1 h2 g1 g2 h4
      omega
  rcases Nat.eq_zero_or_pos k with e | e
  · omega
  · have a := key (k - 1) (by omega) (by omega)
    obtain ⟨⟨h1, h2, _⟩, _⟩ := h (k - 1) (by omega) (by omega)
    unfold withinB at h1 h2
    simp at h1 h2
    omega
theorem polUp_wf {n : Nat} (hn : n ≤ 4) {L : List Edg} (h : PolUp n L L.length) {e : Edg} (he : e ∈ L) : e.wf := by
  obtain ⟨j, hj, rfl⟩ := List.getElem_of_mem he
  obtain ⟨⟨h1, h2, _⟩, _⟩ := h j hj hj
  unfold withinB at h1 h2
  simp at h1 h2
  exact ⟨wf_small (by omega) (by omega), wf_small (by omega) (by omega)⟩
theorem ceIsPart_any (n : Nat) (x : Int) (w : World) : Calls Tryd.prog 71 #[.int .i64 (n : Int), .int .i64 x] w fun e w' => e = .returned (.bool (withinB x 0 ((n : Int) - 1))) ∧ w' = w := by
  by_cases h0 : 0 ≤ x
  · by_cases h1 : x < n
    · have e : withinB x 0 ((n : Int) - 1) = true := by unfold withinB; simp; omega
      rw [e]
      clear e
      go_enter Tryd.func71, Tryd.ntmps71
      go_wp2
      go_ret
      exact ⟨rfl, rfl⟩
    · have e : withinB x 0 ((n : Int) - 1) = false := by unfold withinB; simp; omega
      rw [e]
      clear e
      go_enter Tryd.func71, Tryd.ntmps71
      go_wp2
      go_ret
      exact ⟨rfl, rfl⟩
  · have e : withinB x 0 ((n : Int) - 1) = false := by unfold withinB; simp; omega
    rw [e]
    clear e
    go_enter Tryd.func71, Tryd.ntmps71
    go_wp2
    go_ret
    exact ⟨rfl, rfl⟩
theorem less_any (a b : Edg) (w : World) : Calls Tryd.prog 72 #[a.v, b.v] w fun e w' => e = .returned (.bool (ltEB a b)) ∧ RowKit.Below w.heap.size w w' := by
  obtain ⟨p, q⟩ := a
  obtain ⟨x, y⟩ := b
  unfold Edg.v
  by_cases h0 : p < x
  · have e : ltEB ⟨p, q⟩ ⟨x, y⟩ = true := by unfold ltEB; simp [h0]
    rw [e]
    clear e
    go_enter Tryd.func72, Tryd.ntmps72
    go_wp2
    go_ret
    exact ⟨rfl, (by repeat (first | exact Below.refl _ _ | assumption | refine Below.drew ?_ | refine Below.alloc ?_ (by first | (simp; done) | (simp; omega)) _ | refine Below.setCell ?_ (by first | (simp; done) | (simp; omega)) _))⟩
  · by_cases h1 : p = x
    · subst h1
      by_cases h2 : q < y
      · have e : ltEB ⟨p, q⟩ ⟨p, y⟩ = true := by unfold ltEB; simp [h2]
        rw [e]
        clear e
        go_enter Tryd.func72, Tryd.ntmps72
        go_wp2
        go_ret
        exact ⟨rfl, (by repeat (first | exact Below.refl _ _ | assumption | refine Below.drew ?_ | refine Below.alloc ?_ (by first | (simp; done) | (simp; omega)) _ | refine Below.setCell ?_ (by first | (simp; done) | (simp; omega)) _))⟩
      · have e : ltEB ⟨p, q⟩ ⟨p, y⟩ = false := by unfold ltEB; simp [h2]
        rw [e]
        clear e
        go_enter Tryd.func72, Tryd.ntmps72
        go_wp2
        go_ret
        exact ⟨rfl, (by repeat (first | exact Below.refl _ _ | assumption | refine Below.drew ?_ | refine Below.alloc ?_ (by first | (simp; done) | (simp; omega)) _ | refine Below.setCell ?_ (by first | (simp; done) | (simp; omega)) _))⟩
    · have e : ltEB ⟨p, q⟩ ⟨x, y⟩ = false := by unfold ltEB; simp [h0, h1]
      have h1' : (p == x) = false := by simpa using h1
      rw [e]
      clear e
      go_enter Tryd.func72, Tryd.ntmps72
      go_wp2
      go_ret
      exact ⟨rfl, (by repeat (first | exact Below.refl _ _ | assumption | refine Below.drew ?_ | refine Below.alloc ?_ (by first | (simp; done) | (simp; omega)) _ | refine Below.setCell ?_ (by first | (simp; done) | (simp; omega)) _))⟩
theorem behind_any (b a : Edg) (w : World) : Calls Tryd.prog 46 #[b.v, a.v] w fun e w' => e = .returned (.bool (ltEB a b)) ∧ RowKit.Below w.heap.size w w' := by
  obtain ⟨p, q⟩ := a
  obtain ⟨x, y⟩ := b
  unfold Edg.v
  by_cases h0 : p < x
  · have e : ltEB ⟨p, q⟩ ⟨x, y⟩ = true := by unfold ltEB; simp [h0]
    rw [e]
    clear e
    go_enter Tryd.func46, Tryd.ntmps46
    go_wp2
    go_ret
    exact ⟨rfl, (by repeat (first | exact Below.refl _ _ | assumption | refine Below.drew ?_ | refine Below.alloc ?_ (by first | (simp; done) | (simp; omega)) _ | refine Below.setCell ?_ (by first | (simp; done) | (simp; omega)) _))⟩
  · by_cases h1 : x = p
    · subst h1
      by_cases h2 : q < y
      · have e : ltEB ⟨x, q⟩ ⟨x, y⟩ = true := by unfold ltEB; simp [h2]
        rw [e]
        clear e
        go_enter Tryd.func46, Tryd.ntmps46
        go_wp2
        go_ret
        exact ⟨rfl, (by repeat (first | exact Below.refl _ _ | assumption | refine Below.drew ?_ | refine Below.alloc ?_ (by first | (simp; done) | (simp; omega)) _ | refine Below.setCell ?_ (by first | (simp; done) | (simp; omega)) _))⟩
      · have e : ltEB ⟨x, q⟩ ⟨x, y⟩ = false := by unfold ltEB; simp [h2]
        rw [e]
        clear e
        go_enter Tryd.func46, Tryd.ntmps46
        go_wp2
        go_ret
        exact ⟨rfl, (by repeat (first | exact Below.refl _ _ | assumption | refine Below.drew ?_ | refine Below.alloc ?_ (by first | (simp; done) | (simp; omega)) _ | refine Below.setCell ?_ (by first | (simp; done) | (simp; omega)) _))⟩
    · have e : ltEB ⟨p, q⟩ ⟨x, y⟩ = false := by unfold ltEB; simp [h0, Ne.symm h1]
      have h1' : (x == p) = false := by simpa using h1
      rw [e]
      clear e
      go_enter Tryd.func46, Tryd.ntmps46
      go_wp2
      go_ret
      exact ⟨rfl, (by repeat (first | exact Below.refl _ _ | assumption | refine Below.drew ?_ | refine Below.alloc ?_ (by first | (simp; done) | (simp; omega)) _ | refine Below.setCell ?_ (by first | (simp; done) | (simp; omega)) _))⟩
end Go.Proofs.YthpljbbhpbijgaaDoor

/- What the laws on flows begin with. -/
import Derived.Test.YtehhhiodfcdnmaaGreatDoorJ14
import Derived.Test.YtehhhiodfcdnmaaGreatDoorJ2
import Derived.Maps.OwnOps
import Derived.Maps.OwnSet
import Derived.DeepKeys4
namespace Go.Proofs.YtehhhiodfcdnmaaGreatDoor
set_option linter.unusedSimpArgs false
set_option linter.unusedVariables false
open Go.RowKit Go.Sort Go.Shelf Go.Lib Go.Maps
theorem TabR.row {w : World} {v : Value} {f : Nat → Nat → Bool} {k n : Nat} (h : TabR w v f k n) (hk : 0 < k) (hn : 0 < n) : ∃ b off cap, v = .slice (some ⟨b, off, none⟩) k cap ∧ k ≤ cap ∧ b < w.heap.size ∧ ∀ a, a < k → ∃ rb ro rc, w.cell? ⟨b, off + a, none⟩ = some (.slice (some ⟨rb, ro, none⟩) n rc) ∧ n ≤ rc ∧ rb < w.heap.size ∧ ∀ c, c < n → w.cell? ⟨rb, ro + c, none⟩ = some (.bool (f a c)) := by
  obtain ⟨vs, h1, h2, h3⟩ := h
  obtain ⟨b, off, cap, rfl, hcap, hb, hc⟩ := h2.open hk
  refine ⟨b, off, cap, rfl, hcap, hb, fun a ha => ?_⟩
  obtain ⟨rb, ro, rc, e, hrc, hrb, hcc⟩ := (h3 a (by omega)).open hn
  refine ⟨rb, ro, rc, ?_, hrc, hrb, fun c hcn => hcc c _ (bools_at _ hcn)⟩
  exact hc a _ (by rw [List.getElem?_eq_getElem (by omega), e])
end Go.Proofs.YtehhhiodfcdnmaaGreatDoor

namespace Go.Proofs.YtehhhiodfcdnmaaGreatDoor
set_option linter.unusedSimpArgs false
set_option linter.unusedVariables false
open Go.RowKit Go.Sort Go.Shelf Go.Lib Go.Maps Go.WideMaps
theorem ceLaid : laidOutB Tryz.prog = true := by kernel_rfl
theorem ceRow : (74 : TypeId) < Tryz.prog.types.size := of_decide_eq_true (by kernel_rfl)
theorem ceWide : (match Tryz.prog.underlying 74 with | some (.array _ _) | some (.struct _) => true | _ => false) = true := by rw [Tryz.underlying74]
set_option maxRecDepth 100000 in
theorem ceLaw : KeyLaw Tryz.prog 74 := deep_law_laid ceLaid (m := 2) (by omega) ceRow (by kernel_rfl) ceWide
theorem keyE : Keyed Tryz.prog 74 := Keyed.of_law ceLaw
def Edg.v (e : Edg) : Value := .agg #[.int .i64 e.fr, .int .i64 e.tt]
def Edg.wf (e : Edg) : Prop := wfI e.fr ∧ wfI e.tt
theorem ceType : Tryz.prog.keyType 74 = true := by kernel_rfl
theorem ceCells : Tryz.prog.cellsOf 74 = 2 := by kernel_rfl
theorem ceCellsI : Tryz.prog.cellsOf 3 = 1 := by kernel_rfl
theorem pos_succ {n : Nat} (h : 0 < n) : ∃ m, n = m + 1 := ⟨n - 1, by omega⟩
theorem ceSize : ∃ m, Tryz.prog.types.size = m + 1 := pos_succ (Nat.lt_of_le_of_lt (Nat.zero_le _) ceRow)
theorem keyOf_two {P : Program} {k e : TypeId} {f0 f1 : Field} {q : IntKind} (hu : P.underlying k = some (.struct #[f0, f1])) (he : P.underlying e = some (.int q)) (ht0 : f0.type = e) (ht1 : f1.type = e) (ho0 : f0.offset = 0) (ho1 : f1.offset = 1) (hn0 : (f0.name != "_") = true) (hn1 : (f1.name != "_") = true)
    (hkt : P.keyType k = true) (hc : P.cellsOf k = 2) (hce : P.cellsOf e = 1) (hsz : ∃ m, P.types.size = m + 1) {a b : Int} (wa : (Lit.int q a).wf = true) (wb : (Lit.int q b).wf = true) :
    keyOf P k (.agg #[.int q a, .int q b]) = some (.string (keyBytes [.int q a, .int q b])) := by
  obtain ⟨m, hm⟩ := hsz
  unfold keyOf
  simp only [hu]
  rw [if_pos (by simp [hkt, Value.formed, hu, hc]), hm]
  unfold Program.keyLits
  simp only [hu, Value.cells]
  rw [if_pos (by simp [hc, hn0, hn1])]
  simp [ht0, ht1, ho0, ho1, hce, Program.keyLits, he, wa, wb]
theorem key_edge {e : Edg} (h : e.wf) : ∃ l, keyOf Tryz.prog 74 e.v = some l :=
  ⟨_, keyOf_two Tryz.underlying74 Tryz.underlying3 rfl rfl rfl rfl (by decide) (by decide) ceType ceCells ceCellsI ceSize h.1 h.2⟩
theorem edg_v_inj {e e' : Edg} (h : e.v = e'.v) : e = e' := by
  obtain ⟨a, b⟩ := e
  obtain ⟨c, d⟩ := e'
  simp [Edg.v] at h
  rw [h.1, h.2]
def SaysM (w : World) (b n : Nat) (L : List Edg) : Prop :=
  ∃ D : DataW Unit, w.ownsMap Tryz.prog 74 unitElem b n D ∧ ∀ e : Edg, ∀ l, keyOf Tryz.prog 74 e.v = some l → Maps.has D l = decide (e ∈ L)
theorem says_made (w : World) : SaysM (w.alloc (.map #[] 0)) w.heap.size 0 [] := ⟨.map [], World.ownsMap_made _ _ _ _, fun e l _ => by simp [Maps.has]⟩
theorem SaysM.lt {w : World} {b n : Nat} {V : List Edg} (h : SaysM w b n V) : b < w.heap.size := let ⟨_, h, _⟩ := h; h.lt
theorem SaysM.kept {w w' : World} {b n : Nat} {V : List Edg} {row : Option Nat} (h : SaysM w b n V) (hg : w.grownBy w' row) (hne : some b ≠ row) : SaysM w' b n V := let ⟨D, h, r⟩ := h; ⟨D, h.kept hg hne, r⟩
theorem SaysM.alloc {w : World} {b n : Nat} {V : List Edg} (h : SaysM w b n V) (o : Obj) : SaysM (w.alloc o) b n V := let ⟨D, h, r⟩ := h; ⟨D, h.alloc o, r⟩
theorem SaysM.up {w w' : World} {b n : Nat} {V : List Edg} (h : SaysM w b n V) (hb : RowKit.Below w.heap.size w w') : SaysM w' b n V := by
  have hl := h.lt
  obtain ⟨D, ⟨es, clock, h1, h2⟩, r⟩ := h
  exact ⟨D, ⟨es, clock, by rw [hb.block _ hl]; exact h1, h2⟩, r⟩
theorem zeroU (w : World) : (zeroValue 151).run Tryz.prog w = .ok (.agg #[]) w := by kernel_rfl
section
variable {w : World} {ops : Array Oper} {rest : List Oper} {o : Oper} {a : Act} {Q : Exit → Act → World → Prop}
set_option maxRecDepth 100000 in
theorem wpList_says_put (hg : o.guard = none) (m x v : Operand) (hop : o.op = Op.mapUpdate 114 m x v) (b n : Nat) (V : List Edg) (hm : a.eval m = .map (some b)) (hown : SaysM w b n V) (hn : n < 1000)
    (e : Edg) (hx : a.eval x = e.v) (hv : a.eval v = .agg #[]) (we : e.wf)
    (hK : ∀ w', SaysM w' b (n + 1) (V ++ [e]) → w.grownBy w' (some b) → wpList Tryz.prog ops Q rest (a.put o.dst undef) w') : wpList Tryz.prog ops Q (o :: rest) a w := by
  obtain ⟨D, h1, h2⟩ := hown
  obtain ⟨kl, hkl⟩ := key_edge we
  refine wpList_plain hg fun K' hK' => ?_
  obtain ⟨w', hrun, r1, r2⟩ := h1.update keyE Tryz.underlying114 (by unfold maxLen; omega) hkl unitElem_mk
  have hfin := hK w' ⟨_, r1, fun e' l' hl' => by
    by_cases he : e' = e
    · subst he
      rw [hkl] at hl'
      injection hl' with hl'
      subst hl'
      rw [Maps.has_put_same h1.isMap (keyE.key hkl)]
      simp
    · have hne : l' ≠ kl := fun h => he (edg_v_inj (keyE.inj hl' (h ▸ hkl)))
      rw [Maps.has_put_other hne, h2 e' l' hl']
      simp [he]⟩ r2
  unfold Oper.wp
  simp [execOp, hop, hm, hx, hv, hrun, Result.andThen]
  exact hK' _ _ hfin
theorem wpList_says_has (hg : o.guard = none) (m x : Operand) (hop : o.op = Op.lookup 114 m x true) (b n : Nat) (V : List Edg) (hm : a.eval m = .map (some b)) (hown : SaysM w b n V)
    (e : Edg) (hx : a.eval x = e.v) (we : e.wf)
    (hK : wpList Tryz.prog ops Q rest (a.put o.dst (.tuple #[.agg #[], .bool (decide (e ∈ V))])) w) : wpList Tryz.prog ops Q (o :: rest) a w := by
  obtain ⟨D, h1, h2⟩ := hown
  obtain ⟨kl, hkl⟩ := key_edge we
  refine wpList_lookup_own_unit _ hg m x _ hop 74 151 keyE Tryz.underlying114 (zeroU _) b n D hm h1 _ kl hx hkl ?_
  rw [h2 e kl hkl]
  exact hK
end
end Go.Proofs.YtehhhiodfcdnmaaGreatDoor

namespace Go.Proofs.YtehhhiodfcdnmaaGreatDoor
set_option linter.unusedSimpArgs false
set_option linter.unusedVariables false
open Go.RowKit Go.Sort Go.Shelf Go.Lib Go.Maps
def ltEB (a b : Edg) : Bool := decide (a.fr < b.fr) || (a.fr == b.fr && decide (a.tt < b.tt))
def edIn (n : Nat) (e : Edg) : Prop := withinB e.fr 0 ((n : Int) - 1) = true ∧ withinB e.tt 0 ((n : Int) - 1) = true ∧ e.fr ≠ e.tt
def PolUp (n : Nat) (L : List Edg) (k : Nat) : Prop := ∀ j (h : j < L.length), j < k → edIn n L[j] ∧ (∀ h0 : 0 < j, ltEB (L[j - 1]'(by omega)) L[j] = true)
noncomputable def polB (n : Nat) (L : List Edg) : Bool := @decide (PolUp n L L.length) (Classical.propDecidable _)
theorem polB_true {n : Nat} {L : List Edg} (h : PolUp n L L.length) : polB n L = true := by unfold polB; simpa using h
theorem polB_is {n : Nat} {L : List Edg} (h : polB n L = true) : PolUp n L L.length := by unfold polB at h; simpa using h
theorem polB_false {n : Nat} {L : List Edg} (h : ¬ PolUp n L L.length) : polB n L = false := by unfold polB; simpa using h
theorem polUp_zero (n : Nat) (L : List Edg) : PolUp n L 0 := fun j _ h => by omega
theorem polUp_step {n : Nat} {L : List Edg} {k : Nat} (h : PolUp n L k) (hk : k < L.length) (h1 : edIn n L[k]) (h2 : ∀ h0 : 0 < k, ltEB (L[k - 1]'(by omega)) L[k] = true) : PolUp n L (k + 1) := fun j hj hjk => by
  by_cases e : j = k
  · subst e; exact ⟨h1, h2⟩
  · exact h j hj (by omega)
theorem polUp_bad1 {n : Nat} {L : List Edg} {k : Nat} (hk : k < L.length) (h1 : ¬ edIn n L[k]) : polB n L = false := polB_false (fun h => h1 (h k hk hk).1)
theorem polUp_bad2 {n : Nat} {L : List Edg} {k : Nat} (hk : k < L.length) (h0 : 0 < k) (h2 : ltEB (L[k - 1]'(by omega)) L[k] = false) : polB n L = false := polB_false (fun h => by have := (h k hk hk).2 h0; rw [h2] at this; cases this)
theorem polUp_all {n : Nat} {L : List Edg} {k : Nat} (h : PolUp n L k) (hk : ¬ k < L.length) : polB n L = true := polB_true (fun j hj _ => h j hj (by omega))
theorem polUp_len {n : Nat} (hn : n ≤ 4) {L : List Edg} {k : Nat} (h : PolUp n L k) (hk : k ≤ L.length) : k ≤ 16 := by
  have key : ∀ j (hj : j < L.length), j < k → (j : Int) ≤ L[j].fr * 4 + L[j].tt := by
    intro j
    induction j with
    | zero =>
      intro hj hjk
      obtain ⟨⟨h1, h2, _⟩, _⟩ := h 0 hj hjk
      unfold withinB at h1 h2
      simp at h1 h2
      omega
    | succ j ih =>
      intro hj hjk
      have a := ih (by omega) (by omega)
      obtain ⟨⟨h1, h2, _⟩, h3⟩ := h (j + 1) hj hjk
      obtain ⟨⟨g1, g2, _⟩, _⟩ := h j (by omega) (by omega)
      have h4 := h3 (by omega)
      unfold withinB at h1 h2 g1 g2
      unfold ltEB at h4
      simp at h1 h2 g1 g2 h4
      omega
  rcases Nat.eq_zero_or_pos k with e | e
  · omega
  · have a := key (k - 1) (by omega) (by omega)
    obtain ⟨⟨h1, h2, _⟩, _⟩ := h (k - 1) (by omega) (by omega)
    unfold withinB at h1 h2
    simp at h1 h2
    omega
theorem polUp_wf {n : Nat} (hn : n ≤ 4) {L : List Edg} (h : PolUp n L L.length) {e : Edg} (he : e ∈ L) : e.wf := by
  obtain ⟨j, hj, rfl⟩ := List.getElem_of_mem he
  obtain ⟨⟨h1, h2, _⟩, _⟩ := h j hj hj
  unfold withinB at h1 h2
  simp at h1 h2
  exact ⟨wf_small (by omega) (by omega), wf_small (by omega) (by omega)⟩
theorem ceIsPart_any (n : Nat) (x : Int) (w : World) : Calls Tryz.prog 102 #[.int .i64 (n : Int), .int .i64 x] w fun e w' => e = .returned (.bool (withinB x 0 ((n : Int) - 1))) ∧ w' = w := by
  by_cases h0 : 0 ≤ x
  · by_cases h1 : x < n
    · have e : withinB x 0 ((n : Int) - 1) = true := by unfold withinB; simp; omega
      rw [e]
      clear e
      go_enter Tryz.func102, Tryz.ntmps102
      go_wp2
      go_ret
      exact ⟨rfl, rfl⟩
    · have e : withinB x 0 ((n : Int) - 1) = false := by unfold withinB; simp; omega
      rw [e]
      clear e
      go_enter Tryz.func102, Tryz.ntmps102
      go_wp2
      go_ret
      exact ⟨rfl, rfl⟩
  · have e : withinB x 0 ((n : Int) - 1) = false := by unfold withinB; simp; omega
    rw [e]
    clear e
    go_enter Tryz.func102, Tryz.ntmps102
    go_wp2
    go_ret
    exact ⟨rfl, rfl⟩
theorem less_any (a b : Edg) (w : World) : Calls Tryz.prog 135 #[a.v, b.v] w fun e w' => e = .returned (.bool (ltEB a b)) ∧ RowKit.Below w.heap.size w w' := by
  obtain ⟨p, q⟩ := a
  obtain ⟨x, y⟩ := b
  unfold Edg.v
  by_cases h0 : p < x
  · have e : ltEB ⟨p, q⟩ ⟨x, y⟩ = true := by unfold ltEB; simp [h0]
    rw [e]
    clear e
    go_enter Tryz.func135, Tryz.ntmps135
    go_wp2
    go_ret
    exact ⟨rfl, (by repeat (first | exact Below.refl _ _ | assumption | refine Below.drew ?_ | refine Below.alloc ?_ (by first | (simp; done) | (simp; omega)) _ | refine Below.setCell ?_ (by first | (simp; done) | (simp; omega)) _))⟩
  · by_cases h1 : p = x
    · subst h1
      by_cases h2 : q < y
      · have e : ltEB ⟨p, q⟩ ⟨p, y⟩ = true := by unfold ltEB; simp [h2]
        rw [e]
        clear e
        go_enter Tryz.func135, Tryz.ntmps135
        go_wp2
        go_ret
        exact ⟨rfl, (by repeat (first | exact Below.refl _ _ | assumption | refine Below.drew ?_ | refine Below.alloc ?_ (by first | (simp; done) | (simp; omega)) _ | refine Below.setCell ?_ (by first | (simp; done) | (simp; omega)) _))⟩
      · have e : ltEB ⟨p, q⟩ ⟨p, y⟩ = false := by unfold ltEB; simp [h2]
        rw [e]
        clear e
        go_enter Tryz.func135, Tryz.ntmps135
        go_wp2
        go_ret
        exact ⟨rfl, (by repeat (first | exact Below.refl _ _ | assumption | refine Below.drew ?_ | refine Below.alloc ?_ (by first | (simp; done) | (simp; omega)) _ | refine Below.setCell ?_ (by first | (simp; done) | (simp; omega)) _))⟩
    · have e : ltEB ⟨p, q⟩ ⟨x, y⟩ = false := by unfold ltEB; simp [h0, h1]
      have h1' : (p == x) = false := by simpa using h1
      rw [e]
      clear e
      go_enter Tryz.func135, Tryz.ntmps135
      go_wp2
      go_ret
      exact ⟨rfl, (by repeat (first | exact Below.refl _ _ | assumption | refine Below.drew ?_ | refine Below.alloc ?_ (by first | (simp; done) | (simp; omega)) _ | refine Below.setCell ?_ (by first | (simp; done) | (simp; omega)) _))⟩
end Go.Proofs.YtehhhiodfcdnmaaGreatDoor

namespace Go.Proofs.YtehhhiodfcdnmaaGreatDoor
set_option linter.unusedSimpArgs false
set_option linter.unusedVariables false
open Go.RowKit Go.Sort Go.Shelf Go.Lib Go.Maps
theorem ent_less : Enters 135 := enters Tryz.func135 (by kernel_rfl) (by kernel_rfl)
set_option maxRecDepth 100000 in
set_option maxHeartbeats 8000000 in
theorem rightPolicy_any (n : Nat) (hn : n ≤ 4) (L : List Edg) (vL : Value) (w : World) (hL : Sl w 2 vL L.length (rowC Edg.cells L)) :
    Calls Tryz.prog 101 #[.int .i64 (n : Int), .agg #[vL]] w fun e w' => e = .returned (.bool (polB n L)) ∧ RowKit.Below w.heap.size w w' := by
  obtain ⟨pa, pc, rfl⟩ := hL.form
  have HL := Lib.hid hL
  clear hL
  go_enter Tryz.func101, Tryz.ntmps101
  go_wp2
  go_loopw [10] (fun i wr => ∃ k : Nat, i = .int .i64 k ∧ k ≤ L.length ∧ Hid (PolUp n L k) ∧ wr.cell? ⟨w.heap.size, 0, none⟩ = some (.slice pa L.length pc) ∧ w.heap.size < wr.heap.size ∧ Hid (RowKit.Below w.heap.size w wr)) (fun i _ => L.length - (intOf i).toNat)
  case atStart => exact ⟨0, rfl, Nat.zero_le _, Lib.hid (polUp_zero _ _), by simp, by simp, (by repeat (first | exact Below.refl _ _ | assumption | refine Below.drew ?_ | refine Below.alloc ?_ (by first | (simp; done) | (simp; omega)) _ | refine Below.setCell ?_ (by first | (simp; done) | (simp; omega)) _))⟩
  case round =>
    obtain ⟨k, rfl, hk, HP, hb0, hws, HT⟩ := hrel
    by_cases hlt : k < L.length
    · have hli : (k : Int) < L.length := by omega
      have hk16 := polUp_len hn HP.out hk
      obtain ⟨pb, po, pc', e1, hpc, hpb, hpx⟩ := (HL.out.up HT.out).open (by omega)
      cases e1
      obtain ⟨c0, c1⟩ := edge_cells hpx k hlt
      have HB1 := Lib.hid (polUp_bad1 (n := n) hlt)
      have HB2 := Lib.hid (polUp_bad2 (n := n) hlt)
      have HST := Lib.hid (fun h1 h2 => polUp_step HP.out hlt h1 h2)
      have HPX := Lib.hid hpx
      clear hpx
      generalize hEd : L[k] = ed at c0 c1 HB1 HB2 HST
      obtain ⟨ef, et⟩ := ed
      have HEd := Lib.hid hEd
      clear hEd
      simp only at c0 c1
      unfold edIn at HB1 HST
      simp only at HB1 HST
      cases hA : withinB ef 0 ((n : Int) - 1) with
      | false =>
        have HBAD := Lib.hid (HB1.out (by rw [hA]; simp))
        clear HB1 HB2 HST
        skip
        go_wp2_with (go_at_call 102; refine (ceIsPart_any _ _ _).mono ?_; rintro e w' ⟨rfl, rfl⟩)
        go_ret
        exact ⟨ret_bool HBAD.out.symm, HT.out.trans (RowKit.Below.alloc (RowKit.Below.refl _ _) HT.out.size _)⟩
      | true =>
        cases hB : withinB et 0 ((n : Int) - 1) with
        | false =>
          have HBAD := Lib.hid (HB1.out (by rw [hB]; simp))
          clear HB1 HB2 HST
          skip
          go_wp2_with (go_at_call 102; refine (ceIsPart_any _ _ _).mono ?_; rintro e w' ⟨rfl, rfl⟩)
          go_ret
          exact ⟨ret_bool HBAD.out.symm, HT.out.trans (RowKit.Below.alloc (RowKit.Below.refl _ _) HT.out.size _)⟩
        | true =>
          by_cases hC : ef = et
          · have HBAD := Lib.hid (HB1.out (by simp [hC]))
            subst hC
            clear HB1 HB2 HST
            skip
            go_wp2_with (go_at_call 102; refine (ceIsPart_any _ _ _).mono ?_; rintro e w' ⟨rfl, rfl⟩)
            go_ret
            exact ⟨ret_bool HBAD.out.symm, HT.out.trans (RowKit.Below.alloc (RowKit.Below.refl _ _) HT.out.size _)⟩
          · have hC' : (ef == et) = false := by simpa using hC
            rcases Nat.eq_zero_or_pos k with e0 | h0
            · subst e0
              have HS2 := Lib.hid (HST.out ⟨hA, hB, hC⟩ (fun h => by omega))
              clear HB1 HB2 HST hC
              simp only [Nat.zero_mul, Nat.add_zero, Nat.zero_add] at c0 c1
              go_upto_region 6 with (go_at_call 102; refine (ceIsPart_any _ _ _).mono ?_; rintro e w' ⟨rfl, rfl⟩)
              have HX : Hid (RowKit.Below wr.heap.size wr (wr.alloc (.cells #[.int .i64 ef, .int .i64 et] 74))) := Lib.hid ((RowKit.Below.refl _ _).alloc (Nat.le_refl _) _)
              have x0 : (wr.alloc (.cells #[.int .i64 ef, .int .i64 et] 74)).cell? ⟨wr.heap.size, 0, none⟩ = some (.int .i64 ef) := by simp
              have x1 : (wr.alloc (.cells #[.int .i64 ef, .int .i64 et] 74)).cell? ⟨wr.heap.size, 1, none⟩ = some (.int .i64 et) := by simp
              have hxs : wr.heap.size < (wr.alloc (.cells #[.int .i64 ef, .int .i64 et] 74)).heap.size := by simp
              have y0 := bcl HX.out (by omega) hb0
              generalize wr.alloc (.cells #[.int .i64 ef, .int .i64 et] 74) = X at HX x0 x1 hxs y0 ⊢
              refine region_still (S := fun w' => w'.cell? ⟨w.heap.size, 0, none⟩ = some (.slice (some ⟨pb, po, none⟩) L.length pc)) 12 (by kernel_rfl) y0 (fun hHeld => ?_)
              refine Still.takeBy (i := 0) [2, 1] (v := ?v1) (by kernel_rfl) (by kernel_rfl) rfl (by kernel_rfl) (by kernel_rfl) (by kernel_rfl) (fun _ _ _ h => h) (Or.inl ⟨by rfl, ?y1⟩) hHeld ?r1
              case y1 => (intro w' hSw; (try dsimp only at hSw); go_simp; try with_reducible rfl)
              simp only [Act.put, List.getElem_toArray, List.getElem_cons_zero, List.getElem_cons_succ, List.setIfInBounds_toArray, List.set_cons_zero, List.set_cons_succ]
              refine Still.takeBy (i := 1) [2] (v := ?v2) (by kernel_rfl) (by kernel_rfl) rfl (by kernel_rfl) (by kernel_rfl) (by kernel_rfl) (fun _ _ _ h => h) (Or.inl ⟨by rfl, ?y2⟩) hHeld ?r2
              case y2 => (intro w' hSw; (try dsimp only at hSw); go_simp; try with_reducible rfl)
              simp only [Act.put, List.getElem_toArray, List.getElem_cons_zero, List.getElem_cons_succ, List.setIfInBounds_toArray, List.set_cons_zero, List.set_cons_succ]
              refine Still.takeBy (i := 2) [] (v := ?v3) (by kernel_rfl) (by kernel_rfl) rfl (by kernel_rfl) (by kernel_rfl) (by kernel_rfl) (fun _ _ _ h => h) (Or.inl ⟨by rfl, ?y3⟩) hHeld ?r3
              case y3 => (intro w' hSw; (try dsimp only at hSw); go_simp; try with_reducible rfl)
              simp only [Act.put, List.getElem_toArray, List.getElem_cons_zero, List.getElem_cons_succ, List.setIfInBounds_toArray, List.set_cons_zero, List.set_cons_succ]
              refine Still.takeBy (i := 3) [11, 10, 8, 7, 4] (by kernel_rfl) (by kernel_rfl) rfl (by kernel_rfl) (by kernel_rfl) (by kernel_rfl) (fun _ _ _ h => h) (Or.inr ⟨by rfl, rfl⟩) hHeld ?r4
              simp only [Act.put, List.getElem_toArray, List.getElem_cons_zero, List.getElem_cons_succ, List.setIfInBounds_toArray, List.set_cons_zero, List.set_cons_succ]
              refine Still.takeBy (i := 4) [11, 10, 8, 7] (by kernel_rfl) (by kernel_rfl) rfl (by kernel_rfl) (by kernel_rfl) (by kernel_rfl) (fun _ _ _ h => h) (Or.inr ⟨by rfl, rfl⟩) hHeld ?r5
              simp only [Act.put, List.getElem_toArray, List.getElem_cons_zero, List.getElem_cons_succ, List.setIfInBounds_toArray, List.set_cons_zero, List.set_cons_succ]
              refine Still.takeBy (i := 5) [11, 10, 8, 7, 6] (by kernel_rfl) (by kernel_rfl) rfl (by kernel_rfl) (by kernel_rfl) (by kernel_rfl) (fun _ _ _ h => h) (Or.inr ⟨by rfl, rfl⟩) hHeld ?r6
              simp only [Act.put, List.getElem_toArray, List.getElem_cons_zero, List.getElem_cons_succ, List.setIfInBounds_toArray, List.set_cons_zero, List.set_cons_succ]
              refine Still.takeBy (i := 6) [11, 10, 8, 7] (by kernel_rfl) (by kernel_rfl) rfl (by kernel_rfl) (by kernel_rfl) (by kernel_rfl) (fun _ _ _ h => h) (Or.inr ⟨by rfl, rfl⟩) hHeld ?r7
              simp only [Act.put, List.getElem_toArray, List.getElem_cons_zero, List.getElem_cons_succ, List.setIfInBounds_toArray, List.set_cons_zero, List.set_cons_succ]
              refine Still.takeBy (i := 7) [11, 10, 8] (by kernel_rfl) (by kernel_rfl) rfl (by kernel_rfl) (by kernel_rfl) (by kernel_rfl) (fun _ _ _ h => h) (Or.inr ⟨by rfl, rfl⟩) hHeld ?r8
              simp only [Act.put, List.getElem_toArray, List.getElem_cons_zero, List.getElem_cons_succ, List.setIfInBounds_toArray, List.set_cons_zero, List.set_cons_succ]
              refine Still.takeBy (i := 8) [11, 10] (by kernel_rfl) (by kernel_rfl) rfl (by kernel_rfl) (by kernel_rfl) (by kernel_rfl) (fun _ _ _ h => h) (Or.inr ⟨by rfl, rfl⟩) hHeld ?r9
              simp only [Act.put, List.getElem_toArray, List.getElem_cons_zero, List.getElem_cons_succ, List.setIfInBounds_toArray, List.set_cons_zero, List.set_cons_succ]
              refine Still.takeBy (i := 9) [11, 10] (by kernel_rfl) (by kernel_rfl) rfl (by kernel_rfl) (by kernel_rfl) (by kernel_rfl) (fun _ _ _ h => h) (Or.inr ⟨by rfl, rfl⟩) hHeld ?r10
              simp only [Act.put, List.getElem_toArray, List.getElem_cons_zero, List.getElem_cons_succ, List.setIfInBounds_toArray, List.set_cons_zero, List.set_cons_succ]
              refine Still.takeBy (i := 10) [11] (by kernel_rfl) (by kernel_rfl) rfl (by kernel_rfl) (by kernel_rfl) (by kernel_rfl) (fun _ _ _ h => h) (Or.inr ⟨by rfl, rfl⟩) hHeld ?r11
              simp only [Act.put, List.getElem_toArray, List.getElem_cons_zero, List.getElem_cons_succ, List.setIfInBounds_toArray, List.set_cons_zero, List.set_cons_succ]
              refine Still.takeBy (i := 11) [] (by kernel_rfl) (by kernel_rfl) rfl (by kernel_rfl) (by kernel_rfl) (by kernel_rfl) (fun _ _ _ h => h) (Or.inr ⟨by rfl, rfl⟩) hHeld ?r12
              simp only [Act.put, List.getElem_toArray, List.getElem_cons_zero, List.getElem_cons_succ, List.setIfInBounds_toArray, List.set_cons_zero, List.set_cons_succ]
              refine Still.all (rs := [12]) (by kernel_rfl) (by simp) (Still.one (i := 12) rfl rfl (fun K hK => ?_) (by simp))
              go_simp
              refine hK _ _ (fun h => absurd rfl h) (fun _ => ?_)
              clear hK K
              refine Still.over (by kernel_rfl) ?_ _
              clear hHeld
              have HV : Hid (RowKit.Below wr.heap.size wr X.drew) := Lib.hid (HX.out.trans (RowKit.Below.refl _ _).drew)
              go_wp2
              go_roundw
              case rel => exact ⟨1, by go_num, by omega, HS2, bcl HV.out hws hb0, Nat.lt_of_lt_of_le hws HV.out.size, Lib.hid (HT.out.trans (HV.out.mono HT.out.size))⟩
              case measure => simp [intOf]; omega
            · have hk0 : (0 : Int) < k := by omega
              obtain ⟨d0, d1⟩ := edge_cells HPX.out (k - 1) (by omega)
              cases hls : ltEB (L[k - 1]'(by omega)) ⟨ef, et⟩ with
              | true =>
                have HS2 := Lib.hid (HST.out ⟨hA, hB, hC⟩ (fun _ => hls))
                clear HB1 HB2 HST hC
                generalize (L[k - 1]'(by omega)) = pd at d0 d1 hls
                obtain ⟨pf, pt⟩ := pd
                simp only at d0 d1
                have hwr : IntKind.i64.wrap ((k : Int) - 1) = ((k - 1 : Nat) : Int) := by simp [IntKind.wrap, IntKind.bits, IntKind.signed]; omega
                have hkl : ((k - 1 : Nat) : Int) < L.length := by omega
                generalize k - 1 = j at d0 d1 hwr hkl
                go_upto_region 6 with (go_at_call 102; refine (ceIsPart_any _ _ _).mono ?_; rintro e w' ⟨rfl, rfl⟩)
                have HX : Hid (RowKit.Below wr.heap.size wr (wr.alloc (.cells #[.int .i64 ef, .int .i64 et] 74))) := Lib.hid ((RowKit.Below.refl _ _).alloc (Nat.le_refl _) _)
                have x0 : (wr.alloc (.cells #[.int .i64 ef, .int .i64 et] 74)).cell? ⟨wr.heap.size, 0, none⟩ = some (.int .i64 ef) := by simp
                have x1 : (wr.alloc (.cells #[.int .i64 ef, .int .i64 et] 74)).cell? ⟨wr.heap.size, 1, none⟩ = some (.int .i64 et) := by simp
                have hxs : wr.heap.size < (wr.alloc (.cells #[.int .i64 ef, .int .i64 et] 74)).heap.size := by simp
                have y0 := bcl HX.out (by omega) hb0
                have y1 := bcl HX.out (by omega) d0
                have y2 := bcl HX.out (by omega) d1
                generalize wr.alloc (.cells #[.int .i64 ef, .int .i64 et] 74) = X at HX x0 x1 hxs y0 y1 y2 ⊢
                refine region_still (S := fun w' => w'.cell? ⟨wr.heap.size, 0, none⟩ = some (.int .i64 ef) ∧ w'.cell? ⟨wr.heap.size, 1, none⟩ = some (.int .i64 et) ∧ w'.cell? ⟨w.heap.size, 0, none⟩ = some (.slice (some ⟨pb, po, none⟩) L.length pc) ∧ w'.cell? ⟨pb, po + j * 2, none⟩ = some (.int .i64 pf) ∧ w'.cell? ⟨pb, po + j * 2 + 1, none⟩ = some (.int .i64 pt)) 12 (by kernel_rfl) ⟨x0, x1, y0, y1, y2⟩ (fun hHeld => ?_)
                refine Still.takeBy (i := 0) [2, 1] (v := ?v101) (by kernel_rfl) (by kernel_rfl) rfl (by kernel_rfl) (by kernel_rfl) (by kernel_rfl) (fun _ _ _ h => h) (Or.inl ⟨by rfl, ?y101⟩) hHeld ?r101
                case y101 => (intro w' hSw; (try dsimp only at hSw); obtain ⟨q0, q1, q2, q3, q4⟩ := hSw; go_simp; try with_reducible rfl)
                simp only [Act.put, List.getElem_toArray, List.getElem_cons_zero, List.getElem_cons_succ, List.setIfInBounds_toArray, List.set_cons_zero, List.set_cons_succ]
                refine Still.takeBy (i := 1) [2] (v := ?v102) (by kernel_rfl) (by kernel_rfl) rfl (by kernel_rfl) (by kernel_rfl) (by kernel_rfl) (fun _ _ _ h => h) (Or.inl ⟨by rfl, ?y102⟩) hHeld ?r102
                case y102 => (intro w' hSw; (try dsimp only at hSw); obtain ⟨q0, q1, q2, q3, q4⟩ := hSw; go_simp; try with_reducible rfl)
                simp only [Act.put, List.getElem_toArray, List.getElem_cons_zero, List.getElem_cons_succ, List.setIfInBounds_toArray, List.set_cons_zero, List.set_cons_succ]
                refine Still.takeBy (i := 2) [] (v := ?v103) (by kernel_rfl) (by kernel_rfl) rfl (by kernel_rfl) (by kernel_rfl) (by kernel_rfl) (fun _ _ _ h => h) (Or.inl ⟨by rfl, ?y103⟩) hHeld ?r103
                case y103 => (intro w' hSw; (try dsimp only at hSw); obtain ⟨q0, q1, q2, q3, q4⟩ := hSw; go_simp; try with_reducible rfl)
                simp only [Act.put, List.getElem_toArray, List.getElem_cons_zero, List.getElem_cons_succ, List.setIfInBounds_toArray, List.set_cons_zero, List.set_cons_succ]
                refine Still.takeBy (i := 3) [11, 10, 8, 7, 4] (v := ?v104) (by kernel_rfl) (by kernel_rfl) rfl (by kernel_rfl) (by kernel_rfl) (by kernel_rfl) (fun _ _ _ h => h) (Or.inl ⟨by rfl, ?y104⟩) hHeld ?r104
                case y104 => (intro w' hSw; (try dsimp only at hSw); obtain ⟨q0, q1, q2, q3, q4⟩ := hSw; go_simp; try with_reducible rfl)
                simp only [Act.put, List.getElem_toArray, List.getElem_cons_zero, List.getElem_cons_succ, List.setIfInBounds_toArray, List.set_cons_zero, List.set_cons_succ]
                refine Still.takeBy (i := 4) [11, 10, 8, 7] (v := ?v105) (by kernel_rfl) (by kernel_rfl) rfl (by kernel_rfl) (by kernel_rfl) (by kernel_rfl) (fun _ _ _ h => h) (Or.inl ⟨by rfl, ?y105⟩) hHeld ?r105
                case y105 => (intro w' hSw; (try dsimp only at hSw); obtain ⟨q0, q1, q2, q3, q4⟩ := hSw; go_simp; try with_reducible rfl)
                simp only [Act.put, List.getElem_toArray, List.getElem_cons_zero, List.getElem_cons_succ, List.setIfInBounds_toArray, List.set_cons_zero, List.set_cons_succ]
                refine Still.takeBy (i := 5) [11, 10, 8, 7, 6] (v := ?v106) (by kernel_rfl) (by kernel_rfl) rfl (by kernel_rfl) (by kernel_rfl) (by kernel_rfl) (fun _ _ _ h => h) (Or.inl ⟨by rfl, ?y106⟩) hHeld ?r106
                case y106 => (intro w' hSw; (try dsimp only at hSw); obtain ⟨q0, q1, q2, q3, q4⟩ := hSw; go_simp; try with_reducible rfl)
                simp only [Act.put, List.getElem_toArray, List.getElem_cons_zero, List.getElem_cons_succ, List.setIfInBounds_toArray, List.set_cons_zero, List.set_cons_succ]
                refine Still.takeBy (i := 6) [11, 10, 8, 7] (v := ?v107) (by kernel_rfl) (by kernel_rfl) rfl (by kernel_rfl) (by kernel_rfl) (by kernel_rfl) (fun _ _ _ h => h) (Or.inl ⟨by rfl, ?y107⟩) hHeld ?r107
                case y107 => (intro w' hSw; (try dsimp only at hSw); obtain ⟨q0, q1, q2, q3, q4⟩ := hSw; go_simp; try with_reducible rfl)
                simp only [Act.put, List.getElem_toArray, List.getElem_cons_zero, List.getElem_cons_succ, List.setIfInBounds_toArray, List.set_cons_zero, List.set_cons_succ]
                refine Still.takeBy (i := 7) [11, 10, 8] (v := ?v108) (by kernel_rfl) (by kernel_rfl) rfl (by kernel_rfl) (by kernel_rfl) (by kernel_rfl) (fun _ _ _ h => h) (Or.inl ⟨by rfl, ?y108⟩) hHeld ?r108
                case y108 => (intro w' hSw; (try dsimp only at hSw); obtain ⟨q0, q1, q2, q3, q4⟩ := hSw; go_simp; try with_reducible rfl)
                simp only [Act.put, List.getElem_toArray, List.getElem_cons_zero, List.getElem_cons_succ, List.setIfInBounds_toArray, List.set_cons_zero, List.set_cons_succ]
                refine Still.takeBy (i := 8) [11, 10] (v := ?v109) (by kernel_rfl) (by kernel_rfl) rfl (by kernel_rfl) (by kernel_rfl) (by kernel_rfl) (fun _ _ _ h => h) (Or.inl ⟨by rfl, ?y109⟩) hHeld ?r109
                case y109 => (intro w' hSw; (try dsimp only at hSw); obtain ⟨q0, q1, q2, q3, q4⟩ := hSw; go_simp; try with_reducible rfl)
                simp only [Act.put, List.getElem_toArray, List.getElem_cons_zero, List.getElem_cons_succ, List.setIfInBounds_toArray, List.set_cons_zero, List.set_cons_succ]
                refine Still.takeBy (i := 9) [11, 10] (v := ?v110) (by kernel_rfl) (by kernel_rfl) rfl (by kernel_rfl) (by kernel_rfl) (by kernel_rfl) (fun _ _ _ h => h) (Or.inl ⟨by rfl, ?y110⟩) hHeld ?r110
                case y110 => (intro w' hSw; (try dsimp only at hSw); obtain ⟨q0, q1, q2, q3, q4⟩ := hSw; go_simp; try with_reducible rfl)
                simp only [Act.put, List.getElem_toArray, List.getElem_cons_zero, List.getElem_cons_succ, List.setIfInBounds_toArray, List.set_cons_zero, List.set_cons_succ]
                refine Still.all (rs := [10]) (by kernel_rfl) (by simp) (Still.oneG (i := 10) rfl (by rfl) (fun K hK => ?_) (by simp))
                refine wp_call 135 _ _ rfl ent_less #[(⟨pf, pt⟩ : Edg).v, (⟨ef, et⟩ : Edg).v] (by first | rfl | simp [Act.eval, Act.put, Edg.v]) ((less_any _ _ _).mono ?_)
                rintro e V1 ⟨rfl, b5⟩
                have HV : Hid (RowKit.Below wr.heap.size wr V1) := Lib.hid ((HX.out.trans (RowKit.Below.refl _ _).drew).trans (b5.mono HX.out.size))
                refine ⟨_, rfl, hK _ _ (fun _ => ⟨bcl b5 hxs x0, bcl b5 hxs x1, bcl b5 (by show w.heap.size < X.heap.size; omega) y0, bcl b5 (by show pb < X.heap.size; omega) y1, bcl b5 (by show pb < X.heap.size; omega) y2⟩) (fun hh => ?_)⟩
                have hHeld := hh (by decide)
                clear hK K hh b5
                try simp only [Act.put, List.getElem_toArray, List.getElem_cons_zero, List.getElem_cons_succ, List.setIfInBounds_toArray, List.set_cons_zero, List.set_cons_succ]
                rw [hls]
                refine Still.takeBy (i := 11) [] (v := ?v111) (by kernel_rfl) (by kernel_rfl) rfl (by kernel_rfl) (by kernel_rfl) (by kernel_rfl) (fun _ _ _ h => h) (Or.inl ⟨by rfl, ?y111⟩) hHeld ?r111
                case y111 => (intro w' hSw; (try dsimp only at hSw); obtain ⟨q0, q1, q2, q3, q4⟩ := hSw; go_simp; try with_reducible rfl)
                simp only [Act.put, List.getElem_toArray, List.getElem_cons_zero, List.getElem_cons_succ, List.setIfInBounds_toArray, List.set_cons_zero, List.set_cons_succ]
                refine Still.all (rs := [12]) (by kernel_rfl) (by simp) (Still.one (i := 12) rfl rfl (fun K hK => ?_) (by simp))
                go_simp
                refine hK _ _ (fun h => absurd rfl h) (fun _ => ?_)
                clear hK K
                refine Still.over (by kernel_rfl) ?_ _
                clear hHeld
                go_wp2
                go_roundw
                case rel => exact ⟨k + 1, by go_num, by omega, HS2, bcl HV.out hws hb0, Nat.lt_of_lt_of_le hws HV.out.size, Lib.hid (HT.out.trans (HV.out.mono HT.out.size))⟩
                case measure => simp [intOf]; omega
              | false =>
                have HBAD := Lib.hid (HB2.out h0 hls)
                clear HB1 HB2 HST hC
                generalize (L[k - 1]'(by omega)) = pd at d0 d1 hls
                obtain ⟨pf, pt⟩ := pd
                simp only at d0 d1
                have hwr : IntKind.i64.wrap ((k : Int) - 1) = ((k - 1 : Nat) : Int) := by simp [IntKind.wrap, IntKind.bits, IntKind.signed]; omega
                have hkl : ((k - 1 : Nat) : Int) < L.length := by omega
                generalize k - 1 = j at d0 d1 hwr hkl
                go_upto_region 6 with (go_at_call 102; refine (ceIsPart_any _ _ _).mono ?_; rintro e w' ⟨rfl, rfl⟩)
                have HX : Hid (RowKit.Below wr.heap.size wr (wr.alloc (.cells #[.int .i64 ef, .int .i64 et] 74))) := Lib.hid ((RowKit.Below.refl _ _).alloc (Nat.le_refl _) _)
                have x0 : (wr.alloc (.cells #[.int .i64 ef, .int .i64 et] 74)).cell? ⟨wr.heap.size, 0, none⟩ = some (.int .i64 ef) := by simp
                have x1 : (wr.alloc (.cells #[.int .i64 ef, .int .i64 et] 74)).cell? ⟨wr.heap.size, 1, none⟩ = some (.int .i64 et) := by simp
                have hxs : wr.heap.size < (wr.alloc (.cells #[.int .i64 ef, .int .i64 et] 74)).heap.size := by simp
                have y0 := bcl HX.out (by omega) hb0
                have y1 := bcl HX.out (by omega) d0
                have y2 := bcl HX.out (by omega) d1
                generalize wr.alloc (.cells #[.int .i64 ef, .int .i64 et] 74) = X at HX x0 x1 hxs y0 y1 y2 ⊢
                refine region_still (S := fun w' => w'.cell? ⟨wr.heap.size, 0, none⟩ = some (.int .i64 ef) ∧ w'.cell? ⟨wr.heap.size, 1, none⟩ = some (.int .i64 et) ∧ w'.cell? ⟨w.heap.size, 0, none⟩ = some (.slice (some ⟨pb, po, none⟩) L.length pc) ∧ w'.cell? ⟨pb, po + j * 2, none⟩ = some (.int .i64 pf) ∧ w'.cell? ⟨pb, po + j * 2 + 1, none⟩ = some (.int .i64 pt)) 12 (by kernel_rfl) ⟨x0, x1, y0, y1, y2⟩ (fun hHeld => ?_)
                refine Still.takeBy (i := 0) [2, 1] (v := ?v201) (by kernel_rfl) (by kernel_rfl) rfl (by kernel_rfl) (by kernel_rfl) (by kernel_rfl) (fun _ _ _ h => h) (Or.inl ⟨by rfl, ?y201⟩) hHeld ?r201
                case y201 => (intro w' hSw; (try dsimp only at hSw); obtain ⟨q0, q1, q2, q3, q4⟩ := hSw; go_simp; try with_reducible rfl)
                simp only [Act.put, List.getElem_toArray, List.getElem_cons_zero, List.getElem_cons_succ, List.setIfInBounds_toArray, List.set_cons_zero, List.set_cons_succ]
                refine Still.takeBy (i := 1) [2] (v := ?v202) (by kernel_rfl) (by kernel_rfl) rfl (by kernel_rfl) (by kernel_rfl) (by kernel_rfl) (fun _ _ _ h => h) (Or.inl ⟨by rfl, ?y202⟩) hHeld ?r202
                case y202 => (intro w' hSw; (try dsimp only at hSw); obtain ⟨q0, q1, q2, q3, q4⟩ := hSw; go_simp; try with_reducible rfl)
                simp only [Act.put, List.getElem_toArray, List.getElem_cons_zero, List.getElem_cons_succ, List.setIfInBounds_toArray, List.set_cons_zero, List.set_cons_succ]
                refine Still.takeBy (i := 2) [] (v := ?v203) (by kernel_rfl) (by kernel_rfl) rfl (by kernel_rfl) (by kernel_rfl) (by kernel_rfl) (fun _ _ _ h => h) (Or.inl ⟨by rfl, ?y203⟩) hHeld ?r203
                case y203 => (intro w' hSw; (try dsimp only at hSw); obtain ⟨q0, q1, q2, q3, q4⟩ := hSw; go_simp; try with_reducible rfl)
                simp only [Act.put, List.getElem_toArray, List.getElem_cons_zero, List.getElem_cons_succ, List.setIfInBounds_toArray, List.set_cons_zero, List.set_cons_succ]
                refine Still.takeBy (i := 3) [11, 10, 8, 7, 4] (v := ?v204) (by kernel_rfl) (by kernel_rfl) rfl (by kernel_rfl) (by kernel_rfl) (by kernel_rfl) (fun _ _ _ h => h) (Or.inl ⟨by rfl, ?y204⟩) hHeld ?r204
                case y204 => (intro w' hSw; (try dsimp only at hSw); obtain ⟨q0, q1, q2, q3, q4⟩ := hSw; go_simp; try with_reducible rfl)
                simp only [Act.put, List.getElem_toArray, List.getElem_cons_zero, List.getElem_cons_succ, List.setIfInBounds_toArray, List.set_cons_zero, List.set_cons_succ]
                refine Still.takeBy (i := 4) [11, 10, 8, 7] (v := ?v205) (by kernel_rfl) (by kernel_rfl) rfl (by kernel_rfl) (by kernel_rfl) (by kernel_rfl) (fun _ _ _ h => h) (Or.inl ⟨by rfl, ?y205⟩) hHeld ?r205
                case y205 => (intro w' hSw; (try dsimp only at hSw); obtain ⟨q0, q1, q2, q3, q4⟩ := hSw; go_simp; try with_reducible rfl)
                simp only [Act.put, List.getElem_toArray, List.getElem_cons_zero, List.getElem_cons_succ, List.setIfInBounds_toArray, List.set_cons_zero, List.set_cons_succ]
                refine Still.takeBy (i := 5) [11, 10, 8, 7, 6] (v := ?v206) (by kernel_rfl) (by kernel_rfl) rfl (by kernel_rfl) (by kernel_rfl) (by kernel_rfl) (fun _ _ _ h => h) (Or.inl ⟨by rfl, ?y206⟩) hHeld ?r206
                case y206 => (intro w' hSw; (try dsimp only at hSw); obtain ⟨q0, q1, q2, q3, q4⟩ := hSw; go_simp; try with_reducible rfl)
                simp only [Act.put, List.getElem_toArray, List.getElem_cons_zero, List.getElem_cons_succ, List.setIfInBounds_toArray, List.set_cons_zero, List.set_cons_succ]
                refine Still.takeBy (i := 6) [11, 10, 8, 7] (v := ?v207) (by kernel_rfl) (by kernel_rfl) rfl (by kernel_rfl) (by kernel_rfl) (by kernel_rfl) (fun _ _ _ h => h) (Or.inl ⟨by rfl, ?y207⟩) hHeld ?r207
                case y207 => (intro w' hSw; (try dsimp only at hSw); obtain ⟨q0, q1, q2, q3, q4⟩ := hSw; go_simp; try with_reducible rfl)
                simp only [Act.put, List.getElem_toArray, List.getElem_cons_zero, List.getElem_cons_succ, List.setIfInBounds_toArray, List.set_cons_zero, List.set_cons_succ]
                refine Still.takeBy (i := 7) [11, 10, 8] (v := ?v208) (by kernel_rfl) (by kernel_rfl) rfl (by kernel_rfl) (by kernel_rfl) (by kernel_rfl) (fun _ _ _ h => h) (Or.inl ⟨by rfl, ?y208⟩) hHeld ?r208
                case y208 => (intro w' hSw; (try dsimp only at hSw); obtain ⟨q0, q1, q2, q3, q4⟩ := hSw; go_simp; try with_reducible rfl)
                simp only [Act.put, List.getElem_toArray, List.getElem_cons_zero, List.getElem_cons_succ, List.setIfInBounds_toArray, List.set_cons_zero, List.set_cons_succ]
                refine Still.takeBy (i := 8) [11, 10] (v := ?v209) (by kernel_rfl) (by kernel_rfl) rfl (by kernel_rfl) (by kernel_rfl) (by kernel_rfl) (fun _ _ _ h => h) (Or.inl ⟨by rfl, ?y209⟩) hHeld ?r209
                case y209 => (intro w' hSw; (try dsimp only at hSw); obtain ⟨q0, q1, q2, q3, q4⟩ := hSw; go_simp; try with_reducible rfl)
                simp only [Act.put, List.getElem_toArray, List.getElem_cons_zero, List.getElem_cons_succ, List.setIfInBounds_toArray, List.set_cons_zero, List.set_cons_succ]
                refine Still.takeBy (i := 9) [11, 10] (v := ?v210) (by kernel_rfl) (by kernel_rfl) rfl (by kernel_rfl) (by kernel_rfl) (by kernel_rfl) (fun _ _ _ h => h) (Or.inl ⟨by rfl, ?y210⟩) hHeld ?r210
                case y210 => (intro w' hSw; (try dsimp only at hSw); obtain ⟨q0, q1, q2, q3, q4⟩ := hSw; go_simp; try with_reducible rfl)
                simp only [Act.put, List.getElem_toArray, List.getElem_cons_zero, List.getElem_cons_succ, List.setIfInBounds_toArray, List.set_cons_zero, List.set_cons_succ]
                refine Still.all (rs := [10]) (by kernel_rfl) (by simp) (Still.oneG (i := 10) rfl (by rfl) (fun K hK => ?_) (by simp))
                refine wp_call 135 _ _ rfl ent_less #[(⟨pf, pt⟩ : Edg).v, (⟨ef, et⟩ : Edg).v] (by first | rfl | simp [Act.eval, Act.put, Edg.v]) ((less_any _ _ _).mono ?_)
                rintro e V1 ⟨rfl, b5⟩
                have HV : Hid (RowKit.Below wr.heap.size wr V1) := Lib.hid ((HX.out.trans (RowKit.Below.refl _ _).drew).trans (b5.mono HX.out.size))
                refine ⟨_, rfl, hK _ _ (fun _ => ⟨bcl b5 hxs x0, bcl b5 hxs x1, bcl b5 (by show w.heap.size < X.heap.size; omega) y0, bcl b5 (by show pb < X.heap.size; omega) y1, bcl b5 (by show pb < X.heap.size; omega) y2⟩) (fun hh => ?_)⟩
                have hHeld := hh (by decide)
                clear hK K hh b5
                try simp only [Act.put, List.getElem_toArray, List.getElem_cons_zero, List.getElem_cons_succ, List.setIfInBounds_toArray, List.set_cons_zero, List.set_cons_succ]
                rw [hls]
                refine Still.takeBy (i := 11) [] (v := ?v211) (by kernel_rfl) (by kernel_rfl) rfl (by kernel_rfl) (by kernel_rfl) (by kernel_rfl) (fun _ _ _ h => h) (Or.inl ⟨by rfl, ?y211⟩) hHeld ?r211
                case y211 => (intro w' hSw; (try dsimp only at hSw); obtain ⟨q0, q1, q2, q3, q4⟩ := hSw; go_simp; try with_reducible rfl)
                simp only [Act.put, List.getElem_toArray, List.getElem_cons_zero, List.getElem_cons_succ, List.setIfInBounds_toArray, List.set_cons_zero, List.set_cons_succ]
                refine Still.all (rs := [12]) (by kernel_rfl) (by simp) (Still.one (i := 12) rfl rfl (fun K hK => ?_) (by simp))
                go_simp
                refine hK _ _ (fun h => absurd rfl h) (fun _ => ?_)
                clear hK K
                refine Still.over (by kernel_rfl) ?_ _
                clear hHeld
                go_wp2
                go_ret
                exact ⟨ret_bool HBAD.out.symm, HT.out.trans (HV.out.mono HT.out.size)⟩
    · have hli : ¬ (k : Int) < L.length := by omega
      have HG := Lib.hid (polUp_all HP.out hlt)
      go_wp2
      go_ret
      exact ⟨ret_bool HG.out.symm, HT.out⟩
noncomputable def polE (S : SysD) (L : List Edg) : Int := if chkS S = 0 then (if polB S.parts.length L = true then 0 else 1) else chkS S
set_option maxHeartbeats 2000000 in
theorem ceCheck_any (S : SysD) (L : List Edg) (vp vc vs vL : Value) (w : World) (he : Env w) (hS : Sys w vp vc vs S) (hL : Sl w 2 vL L.length (rowC Edg.cells L)) :
    Calls Tryz.prog 57 #[.agg #[vp, vc, vs], .agg #[vL]] w fun e w' => e = .returned (.int .i64 (polE S L)) ∧ RowKit.Below w.heap.size w w' := by
  generalize hc : polE S L = c
  obtain ⟨pa, pc, rfl⟩ := hS.p.form
  obtain ⟨ca, cc, rfl⟩ := hS.c.form
  obtain ⟨sa, sc, rfl⟩ := hS.s.form
  obtain ⟨la, lc, rfl⟩ := hL.form
  unfold polE at hc
  generalize hr : chkS S = r at hc
  have HS := Lib.hid hS
  have HR := Lib.hid hr
  have HL := Lib.hid hL
  clear hS hr hL
  go_enter Tryz.func57, Tryz.ntmps57
  go_wp2_with fail
  refine (confCheck_any S _ _ _ _ (he.up (by repeat (first | exact Below.refl _ _ | assumption | refine Below.drew ?_ | refine Below.alloc ?_ (by first | (simp; done) | (simp; omega)) _ | refine Below.setCell ?_ (by first | (simp; done) | (simp; omega)) _))) (HS.out.up (by repeat (first | exact Below.refl _ _ | assumption | refine Below.drew ?_ | refine Below.alloc ?_ (by first | (simp; done) | (simp; omega)) _ | refine Below.setCell ?_ (by first | (simp; done) | (simp; omega)) _)))).mono ?_
  rw [HR.out]
  rintro e w1 ⟨rfl, bb⟩
  have k0 := (((box_new w (.slice pa S.parts.length pc) (.slice ca S.chans.length cc) (.slice sa S.slots.length sc) 26 _ rfl).up ((RowKit.Below.refl _ _).alloc (Nat.le_refl _) (.cells #[.slice la L.length lc] 67))).up bb).p
  have k1 : w1.cell? ⟨w.heap.size + 1, 0, none⟩ = some (.slice la L.length lc) := bcl bb (by simp) (by simp)
  have D := Lib.hid (RowKit.Below.trans (show RowKit.Below w.heap.size w _ from (by repeat (first | exact Below.refl _ _ | assumption | refine Below.drew ?_ | refine Below.alloc ?_ (by first | (simp; done) | (simp; omega)) _ | refine Below.setCell ?_ (by first | (simp; done) | (simp; omega)) _))) (bb.mono (by simp; omega)))
  clear bb
  by_cases h0 : r = 0
  · subst h0
    rw [if_pos rfl] at hc
    have sm := (chk_flow HR.out).1
    go_wp2_with fail
    refine (rightPolicy_any S.parts.length sm L _ _ (HL.out.up D.out)).mono ?_
    rintro e w2 ⟨rfl, b2⟩
    have D2 := Lib.hid (D.out.trans (b2.mono D.out.size))
    clear b2 D k0 k1
    cases hw : polB S.parts.length L
    all_goals
      rw [hw] at hc
      simp at hc
      subst hc
      go_wp2
      go_ret
      exact ⟨rfl, D2.out⟩
  · have h0' : (r != 0) = true := by simpa using h0
    rw [if_neg h0] at hc
    subst hc
    clear h0
    go_wp2
    go_ret
    exact ⟨rfl, D.out⟩
end Go.Proofs.YtehhhiodfcdnmaaGreatDoor

namespace Go.Proofs.YtehhhiodfcdnmaaGreatDoor
set_option linter.unusedSimpArgs false
set_option linter.unusedVariables false
open Go.RowKit Go.Sort Go.Shelf Go.Lib Go.Maps
end Go.Proofs.YtehhhiodfcdnmaaGreatDoor

namespace Go.Proofs.YtehhhiodfcdnmaaGreatDoor
set_option linter.unusedSimpArgs false
set_option linter.unusedVariables false
open Go.RowKit Go.Sort Go.Shelf Go.Lib Go.Maps
def inB (l : List Int) (x : Int) : Bool := l.any fun y => y == x
theorem inB_iff {l : List Int} {x : Int} : inB l x = true ↔ x ∈ l := by
  unfold inB
  rw [List.any_eq_true]
  constructor
  · rintro ⟨y, hy, e⟩
    rw [beq_iff_eq] at e
    exact e ▸ hy
  · intro h
    exact ⟨x, h, by simp⟩
set_option maxHeartbeats 1000000 in
theorem slIndex_any (l : List Int) (x : Int) (v : Value) (w : World) (hS : Sl w 1 v l.length (ints l)) (hl : l.length < 4294967281) :
    Calls Tryz.prog 103 #[v, .int .i64 x] w fun e w' => ∃ i : Int, e = .returned (.int .i64 i) ∧ decide (0 ≤ i) = inB l x ∧ w' = w := by
  obtain ⟨ao, cap, rfl⟩ := hS.form
  have HS := Lib.hid hS
  clear hS
  go_enter Tryz.func103, Tryz.ntmps103
  go_wp2
  go_loopw [8] (fun i wr => ∃ k : Nat, i = .int .i64 k ∧ k ≤ l.length ∧ Hid ((l.take k).any (fun y => y == x) = false) ∧ wr = w) (fun i _ => l.length - (intOf i).toNat)
  case atStart => exact ⟨0, rfl, Nat.zero_le _, Lib.hid (by simp), rfl⟩
  case round =>
    obtain ⟨k, rfl, hk, HZ, rfl⟩ := hrel
    by_cases hlt : k < l.length
    · have hli : (k : Int) < l.length := by omega
      obtain ⟨b, off, cap', e1, hcap, hbw, hc⟩ := HS.out.open (by omega)
      cases e1
      have c0 := hc k _ (ints_at l k hlt)
      by_cases hq : l[k] = x
      · have HZ1 := Lib.hid (any_mem (p := fun y => y == x) hlt (by simpa using hq))
        have hq' : (x == l[k]) = true := by simpa using hq.symm
        clear hc hq
        go_wp2
        go_ret
        exact ⟨_, rfl, by unfold inB; rw [HZ1.out]; simp, rfl⟩
      · have HZ1 := Lib.hid (any_take (p := fun y => y == x) hlt HZ.out (by simpa using hq))
        have hq' : (x == l[k]) = false := by simpa using Ne.symm hq
        clear hc hq
        go_wp2
        go_roundw
        case rel => exact ⟨k + 1, by go_num, by omega, HZ1, by first | rfl | trivial⟩
        case measure => simp [intOf]; omega
    · have hli : ¬ (k : Int) < l.length := by omega
      have HZ1 := Lib.hid (any_all hlt HZ.out)
      go_wp2
      go_ret
      exact ⟨_, rfl, by unfold inB; rw [HZ1.out]; decide, rfl⟩
theorem slContains_any (l : List Int) (x : Int) (v : Value) (w : World) (hS : Sl w 1 v l.length (ints l)) (hl : l.length < 4294967281) :
    Calls Tryz.prog 61 #[v, .int .i64 x] w fun e w' => e = .returned (.bool (inB l x)) ∧ w' = w := by
  obtain ⟨ao, cap, rfl⟩ := hS.form
  have HS := Lib.hid hS
  clear hS
  go_enter Tryz.func61, Tryz.ntmps61
  go_wp2_with fail
  refine (slIndex_any l x _ _ HS.out hl).mono ?_
  rintro e w1 ⟨i, rfl, hi, rfl⟩
  have HI := Lib.hid hi
  clear hi
  by_cases h0 : 0 ≤ i
  · go_wp2
    go_ret
    exact ⟨ret_bool (by first | (rw [← HI.out]; done) | (rw [← HI.out]; simp [h0])), rfl⟩
  · go_wp2
    go_ret
    exact ⟨ret_bool (by first | (rw [← HI.out]; done) | (rw [← HI.out]; simp [h0])), rfl⟩
set_option maxHeartbeats 1000000 in
theorem slIndexF_any (l : List Int) (v : Value) (f : Nat) (hen : Enters f) (caps : Array Value) (p : Int → Bool) (w : World) (hS : Sl w 1 v l.length (ints l)) (hl : l.length < 4294967281)
    (hf : ∀ k (hk : k < l.length) w1, RowKit.Below w.heap.size w w1 → Calls Tryz.prog f (#[.int .i64 l[k]] ++ caps) w1 fun e w2 => e = .returned (.bool (p l[k])) ∧ RowKit.Below w1.heap.size w1 w2) :
    Calls Tryz.prog 106 #[v, .func (.func f) #[] caps] w fun e w' => ∃ i : Int, e = .returned (.int .i64 i) ∧ decide (0 ≤ i) = l.any p ∧ RowKit.Below w.heap.size w w' := by
  obtain ⟨ao, cap, rfl⟩ := hS.form
  have HS := Lib.hid hS
  have HF := Lib.hid hf
  clear hS hf
  unfold Enters at hen
  go_enter Tryz.func106, Tryz.ntmps106
  go_wp2
  go_loopw [8] (fun i wr => ∃ k : Nat, i = .int .i64 k ∧ k ≤ l.length ∧ Hid ((l.take k).any p = false) ∧ Hid (RowKit.Below w.heap.size w wr)) (fun i _ => l.length - (intOf i).toNat)
  case atStart => exact ⟨0, rfl, Nat.zero_le _, Lib.hid (by simp), Lib.hid (RowKit.Below.refl _ _)⟩
  case round =>
    obtain ⟨k, rfl, hk, HZ, HT⟩ := hrel
    by_cases hlt : k < l.length
    · have hli : (k : Int) < l.length := by omega
      obtain ⟨b, off, cap', e1, hcap, hbw, hc⟩ := (HS.out.up HT.out).open (by omega)
      cases e1
      have c0 := hc k _ (ints_at l k hlt)
      have HC := Lib.hid (HF.out k hlt)
      generalize hq : p l[k] = q at HC
      have HQ := Lib.hid hq
      clear hc hq
      go_wp2_with fail
      refine (HC.out _ HT.out).mono ?_
      rintro e w2 ⟨rfl, bb⟩
      have D := Lib.hid (HT.out.trans (bb.mono HT.out.size))
      clear bb HC c0
      cases q
      · have HZ1 := Lib.hid (any_take hlt HZ.out HQ.out)
        go_wp2
        go_roundw
        case rel => exact ⟨k + 1, by go_num, by omega, HZ1, D⟩
        case measure => simp [intOf]; omega
      · have HZ1 := Lib.hid (any_mem hlt HQ.out)
        go_wp2
        go_ret
        exact ⟨_, rfl, by rw [HZ1.out]; simp, D.out⟩
    · have hli : ¬ (k : Int) < l.length := by omega
      have HZ1 := Lib.hid (any_all hlt HZ.out)
      go_wp2
      go_ret
      exact ⟨_, rfl, by rw [HZ1.out]; decide, HT.out⟩
theorem slContF_any (l : List Int) (v : Value) (f : Nat) (hen : Enters f) (caps : Array Value) (p : Int → Bool) (w : World) (hS : Sl w 1 v l.length (ints l)) (hl : l.length < 4294967281)
    (hf : ∀ k (hk : k < l.length) w1, RowKit.Below w.heap.size w w1 → Calls Tryz.prog f (#[.int .i64 l[k]] ++ caps) w1 fun e w2 => e = .returned (.bool (p l[k])) ∧ RowKit.Below w1.heap.size w1 w2) :
    Calls Tryz.prog 63 #[v, .func (.func f) #[] caps] w fun e w' => e = .returned (.bool (l.any p)) ∧ RowKit.Below w.heap.size w w' := by
  obtain ⟨ao, cap, rfl⟩ := hS.form
  have HS := Lib.hid hS
  have HF := Lib.hid hf
  clear hS hf
  go_enter Tryz.func63, Tryz.ntmps63
  go_wp2_with fail
  refine (slIndexF_any l _ f hen caps p _ HS.out hl HF.out).mono ?_
  rintro e w1 ⟨i, rfl, hi, bb⟩
  have D := Lib.hid bb
  have HI := Lib.hid hi
  clear bb hi
  by_cases h0 : 0 ≤ i
  · go_wp2
    go_ret
    exact ⟨ret_bool (by first | (rw [← HI.out]; done) | (rw [← HI.out]; simp [h0])), D.out⟩
  · go_wp2
    go_ret
    exact ⟨ret_bool (by first | (rw [← HI.out]; done) | (rw [← HI.out]; simp [h0])), D.out⟩
set_option maxHeartbeats 1000000 in
theorem slIndexE_any (l : List Edg) (v : Value) (f : Nat) (hen : Enters f) (caps : Array Value) (p : Edg → Bool) (w : World) (hS : Sl w 2 v l.length (rowC Edg.cells l)) (hl : l.length < 4294967281)
    (hf : ∀ k (hk : k < l.length) w1, RowKit.Below w.heap.size w w1 → Calls Tryz.prog f (#[l[k].v] ++ caps) w1 fun e w2 => e = .returned (.bool (p l[k])) ∧ RowKit.Below w1.heap.size w1 w2) :
    Calls Tryz.prog 136 #[v, .func (.func f) #[] caps] w fun e w' => ∃ i : Int, e = .returned (.int .i64 i) ∧ decide (0 ≤ i) = l.any p ∧ RowKit.Below w.heap.size w w' := by
  obtain ⟨ao, cap, rfl⟩ := hS.form
  have HS := Lib.hid hS
  have HF := Lib.hid hf
  clear hS hf
  unfold Enters at hen
  go_enter Tryz.func136, Tryz.ntmps136
  go_wp2
  go_loopw [8] (fun i wr => ∃ k : Nat, i = .int .i64 k ∧ k ≤ l.length ∧ Hid ((l.take k).any p = false) ∧ Hid (RowKit.Below w.heap.size w wr)) (fun i _ => l.length - (intOf i).toNat)
  case atStart => exact ⟨0, rfl, Nat.zero_le _, Lib.hid (by simp), Lib.hid (RowKit.Below.refl _ _)⟩
  case round =>
    obtain ⟨k, rfl, hk, HZ, HT⟩ := hrel
    by_cases hlt : k < l.length
    · have hli : (k : Int) < l.length := by omega
      obtain ⟨b, off, cap', e1, hcap, hbw, hc⟩ := (HS.out.up HT.out).open (by omega)
      cases e1
      obtain ⟨c0, c1⟩ := edge_cells hc k hlt
      have HC := Lib.hid (HF.out k hlt)
      generalize hq : p l[k] = q at HC
      have HQ := Lib.hid hq
      clear hc hq
      go_wp2_with fail
      refine (HC.out _ HT.out).mono ?_
      rintro e w2 ⟨rfl, bb⟩
      have D := Lib.hid (HT.out.trans (bb.mono HT.out.size))
      clear bb HC c0 c1
      cases q
      · have HZ1 := Lib.hid (any_take hlt HZ.out HQ.out)
        go_wp2
        go_roundw
        case rel => exact ⟨k + 1, by go_num, by omega, HZ1, D⟩
        case measure => simp [intOf]; omega
      · have HZ1 := Lib.hid (any_mem hlt HQ.out)
        go_wp2
        go_ret
        exact ⟨_, rfl, by rw [HZ1.out]; simp, D.out⟩
    · have hli : ¬ (k : Int) < l.length := by omega
      have HZ1 := Lib.hid (any_all hlt HZ.out)
      go_wp2
      go_ret
      exact ⟨_, rfl, by rw [HZ1.out]; decide, HT.out⟩
theorem slContE_any (l : List Edg) (v : Value) (f : Nat) (hen : Enters f) (caps : Array Value) (p : Edg → Bool) (w : World) (hS : Sl w 2 v l.length (rowC Edg.cells l)) (hl : l.length < 4294967281)
    (hf : ∀ k (hk : k < l.length) w1, RowKit.Below w.heap.size w w1 → Calls Tryz.prog f (#[l[k].v] ++ caps) w1 fun e w2 => e = .returned (.bool (p l[k])) ∧ RowKit.Below w1.heap.size w1 w2) :
    Calls Tryz.prog 104 #[v, .func (.func f) #[] caps] w fun e w' => e = .returned (.bool (l.any p)) ∧ RowKit.Below w.heap.size w w' := by
  obtain ⟨ao, cap, rfl⟩ := hS.form
  have HS := Lib.hid hS
  have HF := Lib.hid hf
  clear hS hf
  go_enter Tryz.func104, Tryz.ntmps104
  go_wp2_with fail
  refine (slIndexE_any l _ f hen caps p _ HS.out hl HF.out).mono ?_
  rintro e w1 ⟨i, rfl, hi, bb⟩
  have D := Lib.hid bb
  have HI := Lib.hid hi
  clear bb hi
  by_cases h0 : 0 ≤ i
  · go_wp2
    go_ret
    exact ⟨ret_bool (by first | (rw [← HI.out]; done) | (rw [← HI.out]; simp [h0])), D.out⟩
  · go_wp2
    go_ret
    exact ⟨ret_bool (by first | (rw [← HI.out]; done) | (rw [← HI.out]; simp [h0])), D.out⟩
end Go.Proofs.YtehhhiodfcdnmaaGreatDoor

namespace Go.Proofs.YtehhhiodfcdnmaaGreatDoor
set_option linter.unusedSimpArgs false
set_option linter.unusedVariables false
open Go.RowKit Go.Sort Go.Shelf Go.Lib Go.Maps
def edIs (a b : Int) (e : Edg) : Bool := e == ⟨a, b⟩
def mayB (L : List Edg) (a b : Int) : Bool := (a == b) || L.any (edIs a b)
theorem saysHas_any (b n : Nat) (V : List Edg) (e : Edg) (we : e.wf) (w : World) (hM : SaysM w b n V) :
    Calls Tryz.prog 65 #[.map (some b), .int .i64 e.fr, .int .i64 e.tt] w fun r w' => r = .returned (.bool (decide (e ∈ V))) ∧ RowKit.Below w.heap.size w w' := by
  have HM := Lib.hid hM
  clear hM
  generalize hd : decide (e ∈ V) = d
  have HD := Lib.hid hd
  clear hd
  go_enter Tryz.func65, Tryz.ntmps65
  go_wp2_with (at_lookup; refine wpList_says_has rfl _ _ rfl b n V rfl HM.out e rfl we ?_; rw [HD.out])
  go_ret
  exact ⟨rfl, (by repeat (first | exact Below.refl _ _ | assumption | refine Below.drew ?_ | refine Below.alloc ?_ (by first | (simp; done) | (simp; omega)) _ | refine Below.setCell ?_ (by first | (simp; done) | (simp; omega)) _))⟩
def selfL (n : Nat) : List Edg := (List.range n).map fun (i : Nat) => ⟨i, i⟩
theorem selfL_step (n : Nat) : selfL (n + 1) = selfL n ++ [⟨n, n⟩] := by
  unfold selfL
  rw [List.range_succ, List.map_append]
  rfl
theorem allowed_has {n : Nat} {L : List Edg} {a b : Int} (ha : 0 ≤ a ∧ a < n) : decide ((⟨a, b⟩ : Edg) ∈ selfL n ++ L) = mayB L a b := by
  unfold mayB
  by_cases h1 : a = b
  · subst h1
    have : (⟨a, a⟩ : Edg) ∈ selfL n := by
      unfold selfL
      rw [List.mem_map]
      exact ⟨a.toNat, List.mem_range.2 (by omega), by rw [Int.toNat_of_nonneg ha.1]⟩
    simp [this]
  · have h2 : (⟨a, b⟩ : Edg) ∉ selfL n := by
      unfold selfL
      rw [List.mem_map]
      rintro ⟨i, _, e⟩
      injection e with e1 e2
      exact h1 (e1.symm.trans e2)
    have h3 : (L.any (edIs a b)) = decide ((⟨a, b⟩ : Edg) ∈ L) := by
      by_cases h : (⟨a, b⟩ : Edg) ∈ L
      · rw [decide_eq_true h, List.any_eq_true]
        exact ⟨_, h, by simp [edIs]⟩
      · rw [decide_eq_false h, List.any_eq_false]
        intro e he
        simp only [edIs, beq_iff_eq]
        exact fun e2 => h (e2 ▸ he)
    rw [h3]
    simp [h1, h2]
set_option maxRecDepth 100000 in
set_option maxHeartbeats 4000000 in
theorem allowed_any (n : Nat) (hn : n ≤ 4) (L : List Edg) (hLl : L.length ≤ 16) (hwf : ∀ e ∈ L, e.wf) (vL : Value) (w : World) (hL : Sl w 2 vL L.length (rowC Edg.cells L)) :
    Calls Tryz.prog 59 #[.int .i64 (n : Int), .agg #[vL]] w fun e w' => ∃ b, e = .returned (.map (some b)) ∧ (∃ m, SaysM w' b m (selfL n ++ L)) ∧ RowKit.Below w.heap.size w w' := by
  obtain ⟨la, lc, rfl⟩ := hL.form
  have HL := Lib.hid hL
  have HWF := Lib.hid hwf
  clear hL hwf
  have hmm := @run_makeMap Tryz.prog
  go_enter Tryz.func59, Tryz.ntmps59
  go_wp2
  clear hmm
  go_loopw [11] (fun i wr => ∃ k : Nat, i = .int .i64 k ∧ k ≤ n ∧ Hid (SaysM wr (w.heap.size + 1) k (selfL k)) ∧ wr.cell? ⟨w.heap.size, 0, none⟩ = some (.slice la L.length lc) ∧ w.heap.size + 1 < wr.heap.size ∧ Hid (RowKit.Below w.heap.size w wr)) (fun i _ => n - (intOf i).toNat)
  case atStart => exact ⟨0, rfl, Nat.zero_le _, Lib.hid (by have := says_made (w.alloc (.cells #[.slice la L.length lc] 67)); simpa [selfL] using this), by simp, by simp, (by repeat (first | exact Below.refl _ _ | assumption | refine Below.drew ?_ | refine Below.alloc ?_ (by first | (simp; done) | (simp; omega)) _ | refine Below.setCell ?_ (by first | (simp; done) | (simp; omega)) _))⟩
  case round =>
    obtain ⟨k, rfl, hk, HM, hb0, hws, HT⟩ := hrel
    by_cases hlt : k < n
    · have hli : (k : Int) < n := by omega
      have we : (⟨k, k⟩ : Edg).wf := ⟨wf_small (by simp) (by simp; omega), wf_small (by simp) (by simp; omega)⟩
      go_wp2_with (refine wpList_says_put rfl _ _ _ rfl (w.heap.size + 1) k (selfL k) rfl HM.out (by omega) ⟨k, k⟩ rfl rfl we ?_)
      intro W hM hg
      have hb1 := (hg.cell_far ⟨w.heap.size, 0, none⟩ (by show w.heap.size < wr.heap.size; omega) (by simp)).trans hb0
      have HM2 : Hid (SaysM W (w.heap.size + 1) (k + 1) (selfL (k + 1))) := Lib.hid (by rw [selfL_step]; exact hM)
      have HT2 := Lib.hid (HT.out.grown hg HT.out.size (fun q e => by cases e; omega))
      have hws2 := Nat.lt_of_lt_of_le hws hg.size
      clear hM hg HM HT hb0
      go_wp2
      go_roundw
      case rel => exact ⟨k + 1, by go_num, by omega, HM2, hb1, hws2, HT2⟩
      case measure => simp [intOf]; omega
    · have hli : ¬ (k : Int) < n := by omega
      have hkn : k = n := by omega
      subst hkn
      go_wp2
      go_loopw [23] (fun i wr => ∃ j : Nat, i = .int .i64 j ∧ j ≤ L.length ∧ Hid (SaysM wr (w.heap.size + 1) (k + j) (selfL k ++ L.take j)) ∧ w.heap.size + 1 < wr.heap.size ∧ Hid (RowKit.Below w.heap.size w wr)) (fun i _ => L.length - (intOf i).toNat)
      case atStart => exact ⟨0, rfl, Nat.zero_le _, by simpa using HM, hws, HT⟩
      case round =>
        clear HM hb0 hws HT
        obtain ⟨j, rfl, hj, HM, hws, HT⟩ := hrel
        by_cases hjl : j < L.length
        · have hji : (j : Int) < L.length := by omega
          obtain ⟨pb, po, pc', e1, hpc, hpb, hpx⟩ := (HL.out.up HT.out).open (by omega)
          cases e1
          obtain ⟨c0, c1⟩ := edge_cells hpx j hjl
          have we := HWF.out _ (List.getElem_mem hjl)
          have HTK := Lib.hid (List.take_succ_eq_append_getElem hjl)
          generalize L[j] = ed at c0 c1 we HTK
          obtain ⟨ef, et⟩ := ed
          simp only at c0 c1
          clear hpx
          have HM1 := Lib.hid (HM.out.alloc (.cells #[.int .i64 ef, .int .i64 et] 74))
          go_wp2_with (refine wpList_says_put rfl _ _ _ rfl (w.heap.size + 1) (k + j) (selfL k ++ L.take j) rfl HM1.out (by omega) ⟨ef, et⟩ rfl rfl we ?_)
          intro W hM hg
          have hsz := HT.out.size
          have HM2 : Hid (SaysM W (w.heap.size + 1) (k + (j + 1)) (selfL k ++ L.take (j + 1))) := Lib.hid (by rw [HTK.out]; first | exact hM | (rw [← List.append_assoc]; exact hM))
          have HT2 := Lib.hid ((HT.out.alloc HT.out.size _).grown hg (by simp; omega) (fun q e => by cases e; omega))
          have hws2 : w.heap.size + 1 < W.heap.size := Nat.lt_of_lt_of_le (by simp; omega) hg.size
          clear hM hg HM HM1 HT
          go_wp2
          go_roundw
          case rel => exact ⟨j + 1, by go_num, by omega, HM2, hws2, HT2⟩
          case measure => simp [intOf]; omega
        · have hji : ¬ (j : Int) < L.length := by omega
          have HM2 : Hid (SaysM wr (w.heap.size + 1) (k + j) (selfL k ++ L)) := Lib.hid (by have := HM.out; rwa [List.take_of_length_le (by omega)] at this)
          go_wp2
          go_ret
          exact ⟨_, rfl, ⟨_, HM2.out⟩, HT.out⟩
def SetUp (n : Nat) (l : List Int) (k : Nat) : Prop := ∀ j (h : j < l.length), j < k → withinB l[j] 0 ((n : Int) - 1) = true ∧ (∀ h0 : 0 < j, l[j - 1]'(by omega) < l[j])
noncomputable def setB (n : Nat) (l : List Int) : Bool := @decide (SetUp n l l.length) (Classical.propDecidable _)
theorem setB_is {n : Nat} {l : List Int} (h : setB n l = true) : SetUp n l l.length := by unfold setB at h; simpa using h
theorem setB_true {n : Nat} {l : List Int} (h : SetUp n l l.length) : setB n l = true := by unfold setB; simpa using h
theorem setB_false {n : Nat} {l : List Int} (h : ¬ SetUp n l l.length) : setB n l = false := by unfold setB; simpa using h
theorem setUp_step {n : Nat} {l : List Int} {k : Nat} (h : SetUp n l k) (hk : k < l.length) (h1 : withinB l[k] 0 ((n : Int) - 1) = true) (h2 : ∀ h0 : 0 < k, l[k - 1]'(by omega) < l[k]) : SetUp n l (k + 1) := fun j hj hjk => by
  by_cases e : j = k
  · subst e; exact ⟨h1, h2⟩
  · exact h j hj (by omega)
theorem setUp_len {n : Nat} {l : List Int} {k : Nat} (h : SetUp n l k) (hk : k ≤ l.length) : k ≤ n := by
  have key : ∀ j (hj : j < l.length), j < k → (j : Int) ≤ l[j] := by
    intro j
    induction j with
    | zero =>
      intro hj hjk
      have := (h 0 hj hjk).1
      unfold withinB at this
      simp at this
      omega
    | succ j ih =>
      intro hj hjk
      have a := ih (by omega) (by omega)
      have := (h (j + 1) hj hjk).2 (by omega)
      simp at this
      omega
  rcases Nat.eq_zero_or_pos k with e | e
  · omega
  · have a := key (k - 1) (by omega) (by omega)
    have := (h (k - 1) (by omega) (by omega)).1
    unfold withinB at this
    simp at this
    omega
set_option maxRecDepth 100000 in
set_option maxHeartbeats 4000000 in
theorem isSet_any (n : Nat) (hn : n ≤ 4) (l : List Int) (v : Value) (w : World) (hS : Sl w 1 v l.length (ints l)) :
    Calls Tryz.prog 60 #[.int .i64 (n : Int), v] w fun e w' => e = .returned (.bool (setB n l)) ∧ w' = w := by
  obtain ⟨ao, cap, rfl⟩ := hS.form
  have HS := Lib.hid hS
  clear hS
  go_enter Tryz.func60, Tryz.ntmps60
  go_wp2
  go_loopw [9] (fun i wr => ∃ k : Nat, i = .int .i64 k ∧ k ≤ l.length ∧ Hid (SetUp n l k) ∧ wr = w) (fun i _ => l.length - (intOf i).toNat)
  case atStart => exact ⟨0, rfl, Nat.zero_le _, Lib.hid (fun j _ h => by omega), rfl⟩
  case round =>
    obtain ⟨k, rfl, hk, HP, rfl⟩ := hrel
    by_cases hlt : k < l.length
    · have hli : (k : Int) < l.length := by omega
      have hk4 := setUp_len HP.out hk
      obtain ⟨b, off, cap', e1, hcap, hbw, hc⟩ := HS.out.open (by omega)
      cases e1
      have c0 := hc k _ (ints_at l k hlt)
      cases hA : withinB l[k] 0 ((n : Int) - 1) with
      | false =>
        have HBAD := Lib.hid (setB_false (n := n) (l := l) (fun h => by have := (h k hlt hlt).1; rw [hA] at this; cases this))
        clear hc
        go_wp2_with (go_at_call 102; refine (ceIsPart_any _ _ _).mono ?_; rintro e w' ⟨rfl, rfl⟩)
        go_ret
        exact ⟨ret_bool HBAD.out.symm, rfl⟩
      | true =>
        rcases Nat.eq_zero_or_pos k with e0 | h0
        · subst e0
          have HS2 := Lib.hid (setUp_step HP.out hlt hA (fun h => by omega))
          simp only [Nat.add_zero] at c0
          clear hc
          go_wp2_with (go_at_call 102; refine (ceIsPart_any _ _ _).mono ?_; rintro e w' ⟨rfl, rfl⟩)
          go_roundw
          case rel => exact ⟨1, by go_num, by omega, HS2, by first | rfl | trivial⟩
          case measure => simp [intOf]; omega
        · have hk0 : (0 : Int) < k := by omega
          have d0 := hc (k - 1) _ (ints_at l (k - 1) (by omega))
          by_cases hls : l[k - 1]'(by omega) < l[k]
          · have HS2 := Lib.hid (setUp_step HP.out hlt hA (fun _ => hls))
            have hls' : decide (l[k] ≤ l[k - 1]'(by omega)) = false := by simpa using hls
            clear hc
            go_wp2_with (go_at_call 102; refine (ceIsPart_any _ _ _).mono ?_; rintro e w' ⟨rfl, rfl⟩)
            go_roundw
            case rel => exact ⟨k + 1, by go_num, by omega, HS2, by first | rfl | trivial⟩
            case measure => simp [intOf]; omega
          · have HBAD := Lib.hid (setB_false (n := n) (l := l) (fun h => hls ((h k hlt hlt).2 h0)))
            have hls' : decide (l[k] ≤ l[k - 1]'(by omega)) = true := by simpa using hls
            clear hc
            go_wp2_with (go_at_call 102; refine (ceIsPart_any _ _ _).mono ?_; rintro e w' ⟨rfl, rfl⟩)
            go_ret
            exact ⟨ret_bool HBAD.out.symm, rfl⟩
    · have hli : ¬ (k : Int) < l.length := by omega
      have HG := Lib.hid (setB_true (n := n) (l := l) (fun j hj _ => HP.out j hj (by omega)))
      go_wp2
      go_ret
      exact ⟨ret_bool HG.out.symm, rfl⟩
end Go.Proofs.YtehhhiodfcdnmaaGreatDoor

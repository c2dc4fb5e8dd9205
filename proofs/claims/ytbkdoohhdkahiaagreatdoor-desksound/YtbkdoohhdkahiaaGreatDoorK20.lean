/- A set of edges: a map with edges as its keys. -/
import Derived.Test.YtbkdoohhdkahiaaGreatDoorK19
import Derived.Maps.OwnOps
import Derived.Maps.OwnSet
import Derived.DeepKeys4
namespace Go.Proofs.YtbkdoohhdkahiaaGreatDoor
set_option linter.unusedSimpArgs false
set_option linter.unusedVariables false
open Go.RowKit Go.Sort Go.Shelf Go.Lib Go.Maps Go.WideMaps
theorem ceLaid : laidOutB Tryz.prog = true := by kernel_rfl
theorem ceRow : (53 : TypeId) < Tryz.prog.types.size := of_decide_eq_true (by kernel_rfl)
theorem ceWide : (match Tryz.prog.underlying 53 with | some (.array _ _) | some (.struct _) => true | _ => false) = true := by rw [Tryz.underlying53]
set_option maxRecDepth 100000 in
theorem ceLaw : KeyLaw Tryz.prog 53 := deep_law_laid ceLaid (m := 2) (by omega) ceRow (by kernel_rfl) ceWide
theorem keyE : Keyed Tryz.prog 53 := Keyed.of_law ceLaw
def Edg.v (e : Edg) : Value := .agg #[.int .i64 e.fr, .int .i64 e.tt]
def Edg.wf (e : Edg) : Prop := wfI e.fr ∧ wfI e.tt
theorem ceType : Tryz.prog.keyType 53 = true := by kernel_rfl
theorem ceCells : Tryz.prog.cellsOf 53 = 2 := by kernel_rfl
theorem ceCellsI : Tryz.prog.cellsOf 3 = 1 := by kernel_rfl
theorem pos_succ {n : Nat} (h : 0 < n) : ∃ m, n = m + 1 := ⟨n - 1, by omega⟩
theorem ceSize : ∃ m, Tryz.prog.types.size = m + 1 := pos_succ (Nat.lt_of_le_of_lt (Nat.zero_le _) ceRow)
theorem keyOf_two {P : Program} {k e : TypeId} {f0 f1 : Field} {q : IntKind} (hu : P.underlying k = some (.struct #[f0, f1])) (he : P.underlying e = some (.int q)) (ht0 : f0.type = e) (ht1 : f1.type = e) (ho0 : f0.offset = 0) (ho1 : f1.offset = 1) (hn0 : (f0.name != "_") = true) (hn1 : (f1.name != "_") = true)
    (hkt : P.keyType k = true) (hc : P.cellsOf k = 2) (hce : P.cellsOf e = 1) (hsz : ∃ m, P.types.size = m + 1) {a b : Int} (wa : (Lit.int q a).wf = true) (wb : (Lit.int q b).wf = true) :
    keyOf P k (.agg #[.int q a, .int q b]) = some (.string (keyBytes [.int q a, .int q b])) := by
  obtain ⟨m, hm⟩ := hsz
  unfold keyOf
  simp only [hu]
  rw [if_pos (by simp [hkt, Value.formed, hu, hc]), hm]
  unfold Program.keyLits
  simp only [hu, Value.cells]
  rw [if_pos (by simp [hc, hn0, hn1])]
  simp [ht0, ht1, ho0, ho1, hce, Program.keyLits, he, wa, wb]
theorem key_edge {e : Edg} (h : e.wf) : ∃ l, keyOf Tryz.prog 53 e.v = some l :=
  ⟨_, keyOf_two Tryz.underlying53 Tryz.underlying3 rfl rfl rfl rfl (by decide) (by decide) ceType ceCells ceCellsI ceSize h.1 h.2⟩
theorem edg_v_inj {e e' : Edg} (h : e.v = e'.v) : e = e' := by
  obtain ⟨a, b⟩ := e
  obtain ⟨c, d⟩ := e'
  simp [Edg.v] at h
  rw [h.1, h.2]
def SaysM (w : World) (b n : Nat) (L : List Edg) : Prop :=
  ∃ D : DataW Unit, w.ownsMap Tryz.prog 53 unitElem b n D ∧ ∀ e : Edg, ∀ l, keyOf Tryz.prog 53 e.v = some l → Maps.has D l = decide (e ∈ L)
theorem says_made (w : World) : SaysM (w.alloc (.map #[] 0)) w.heap.size 0 [] := ⟨.map [], World.ownsMap_made _ _ _ _, fun e l _ => by simp [Maps.has]⟩
theorem SaysM.lt {w : World} {b n : Nat} {V : List Edg} (h : SaysM w b n V) : b < w.heap.size := let ⟨_, h, _⟩ := h; h.lt
theorem SaysM.kept {w w' : World} {b n : Nat} {V : List Edg} {row : Option Nat} (h : SaysM w b n V) (hg : w.grownBy w' row) (hne : some b ≠ row) : SaysM w' b n V := let ⟨D, h, r⟩ := h; ⟨D, h.kept hg hne, r⟩
theorem SaysM.alloc {w : World} {b n : Nat} {V : List Edg} (h : SaysM w b n V) (o : Obj) : SaysM (w.alloc o) b n V := let ⟨D, h, r⟩ := h; ⟨D, h.alloc o, r⟩
theorem SaysM.up {w w' : World} {b n : Nat} {V : List Edg} (h : SaysM w b n V) (hb : RowKit.Below w.heap.size w w') : SaysM w' b n V := by
  have hl := h.lt
  obtain ⟨D, ⟨es, clock, h1, h2⟩, r⟩ := h
  exact ⟨D, ⟨es, clock, by rw [hb.block _ hl]; exact h1, h2⟩, r⟩
theorem zeroU (w : World) : (zeroValue 141).run Tryz.prog w = .ok (.agg #[]) w := by kernel_rfl
section
variable {w : World} {ops : Array Oper} {rest : List Oper} {o : Oper} {a : Act} {Q : Exit → Act → World → Prop}
set_option maxRecDepth 100000 in
theorem wpList_says_put (hg : o.guard = none) (m x v : Operand) (hop : o.op = Op.mapUpdate 92 m x v) (b n : Nat) (V : List Edg) (hm : a.eval m = .map (some b)) (hown : SaysM w b n V) (hn : n < 1000)
    (e : Edg) (hx : a.eval x = e.v) (hv : a.eval v = .agg #[]) (we : e.wf)
    (hK : ∀ w', SaysM w' b (n + 1) (V ++ [e]) → w.grownBy w' (some b) → wpList Tryz.prog ops Q rest (a.put o.dst undef) w') : wpList Tryz.prog ops Q (o :: rest) a w := by
  obtain ⟨D, h1, h2⟩ := hown
  obtain ⟨kl, hkl⟩ := key_edge we
  refine wpList_plain hg fun K' hK' => ?_
  obtain ⟨w', hrun, r1, r2⟩ := h1.update keyE Tryz.underlying92 (by unfold maxLen; omega) hkl unitElem_mk
  have hfin := hK w' ⟨_, r1, fun e' l' hl' => by
    by_cases he : e' = e
    · subst he
      rw [hkl] at hl'
      injection hl' with hl'
      subst hl'
      rw [Maps.has_put_same h1.isMap (keyE.key hkl)]
      simp
    · have hne : l' ≠ kl := fun h => he (edg_v_inj (keyE.inj hl' (h ▸ hkl)))
      rw [Maps.has_put_other hne, h2 e' l' hl']
      simp [he]⟩ r2
  unfold Oper.wp
  simp [execOp, hop, hm, hx, hv, hrun, Result.andThen]
  exact hK' _ _ hfin
theorem wpList_says_has (hg : o.guard = none) (m x : Operand) (hop : o.op = Op.lookup 92 m x true) (b n : Nat) (V : List Edg) (hm : a.eval m = .map (some b)) (hown : SaysM w b n V)
    (e : Edg) (hx : a.eval x = e.v) (we : e.wf)
    (hK : wpList Tryz.prog ops Q rest (a.put o.dst (.tuple #[.agg #[], .bool (decide (e ∈ V))])) w) : wpList Tryz.prog ops Q (o :: rest) a w := by
  obtain ⟨D, h1, h2⟩ := hown
  obtain ⟨kl, hkl⟩ := key_edge we
  refine wpList_lookup_own_unit _ hg m x _ hop 53 141 keyE Tryz.underlying92 (zeroU _) b n D hm h1 _ kl hx hkl ?_
  rw [h2 e kl hkl]
  exact hK
end
end Go.Proofs.YtbkdoohhdkahiaaGreatDoor
namespace Go.Proofs.YtbkdoohhdkahiaaGreatDoor
set_option linter.unusedSimpArgs false
set_option linter.unusedVariables false
open Go.RowKit Go.Sort Go.Shelf Go.Lib Go.Maps
def ltEB (a b : Edg) : Bool := decide (a.fr < b.fr) || (a.fr == b.fr && decide (a.tt < b.tt))
def edIn (n : Nat) (e : Edg) : Prop := withinB e.fr 0 ((n : Int) - 1) = true ∧ withinB e.tt 0 ((n : Int) - 1) = true ∧ e.fr ≠ e.tt
def PolUp (n : Nat) (L : List Edg) (k : Nat) : Prop := ∀ j (h : j < L.length), j < k → edIn n L[j] ∧ (∀ h0 : 0 < j, ltEB (L[j - 1]'(by omega)) L[j] = true)
noncomputable def polB (n : Nat) (L : List Edg) : Bool := @decide (PolUp n L L.length) (Classical.propDecidable _)
theorem polB_true {n : Nat} {L : List Edg} (h : PolUp n L L.length) : polB n L = true := by unfold polB; simpa using h
theorem polB_is {n : Nat} {L : List Edg} (h : polB n L = true) : PolUp n L L.length := by unfold polB at h; simpa using h
theorem polB_false {n : Nat} {L : List Edg} (h : ¬ PolUp n L L.length) : polB n L = false := by unfold polB; simpa using h
theorem polUp_zero (n : Nat) (L : List Edg) : PolUp n L 0 := fun j _ h => by omega
theorem polUp_step {n : Nat} {L : List Edg} {k : Nat} (h : PolUp n L k) (hk : k < L.length) (h1 : edIn n L[k]) (h2 : ∀ h0 : 0 < k, ltEB (L[k - 1]'(by omega)) L[k] = true) : PolUp n L (k + 1) := fun j hj hjk => by
  by_cases e : j = k
  · subst e; exact ⟨h1, h2⟩
  · exact h j hj (by omega)
theorem polUp_bad1 {n : Nat} {L : List Edg} {k : Nat} (hk : k < L.length) (h1 : ¬ edIn n L[k]) : polB n L = false := polB_false (fun h => h1 (h k hk hk).1)
theorem polUp_bad2 {n : Nat} {L : List Edg} {k : Nat} (hk : k < L.length) (h0 : 0 < k) (h2 : ltEB (L[k - 1]'(by omega)) L[k] = false) : polB n L = false := polB_false (fun h => by have := (h k hk hk).2 h0; rw [h2] at this; cases this)
theorem polUp_all {n : Nat} {L : List Edg} {k : Nat} (h : PolUp n L k) (hk : ¬ k < L.length) : polB n L = true := polB_true (fun j hj _ => h j hj (by omega))
theorem polUp_len {n : Nat} (hn : n ≤ 4) {L : List Edg} {k : Nat} (h : PolUp n L k) (hk : k ≤ L.length) : k ≤ 16 := by
  have key : ∀ j (hj : j < L.length), j < k → (j : Int) ≤ L[j].fr * 4 + L[j].tt := by
    intro j
    induction j with
    | zero =>
      intro hj hjk
      obtain ⟨⟨h1, h2, _⟩, _⟩ := h 0 hj hjk
      unfold withinB at h1 h2
      simp at h1 h2
      omega
    | succ j ih =>
      intro hj hjk
      have a := ih (by omega) (by omega)
      obtain ⟨⟨h1, h2, _⟩, h3⟩ := h (j + 1) hj hjk
      obtain ⟨⟨g1, g2, _⟩, _⟩ := h j (by omega) (by omega)
      have h4 := h3 (by omega)
      unfold withinB at h1 h2 g1 g2
      unfold ltEB at h4
      simp at h1 h2 g1 g2 h4
      omega
  rcases Nat.eq_zero_or_pos k with e | e
  · omega
  · have a := key (k - 1) (by omega) (by omega)
    obtain ⟨⟨h1, h2, _⟩, _⟩ := h (k - 1) (by omega) (by omega)
    unfold withinB at h1 h2
    simp at h1 h2
    omega
theorem polUp_wf {n : Nat} (hn : n ≤ 4) {L : List Edg} (h : PolUp n L L.length) {e : Edg} (he : e ∈ L) : e.wf := by
  obtain ⟨j, hj, rfl⟩ := List.getElem_of_mem he
  obtain ⟨⟨h1, h2, _⟩, _⟩ := h j hj hj
  unfold withinB at h1 h2
  simp at h1 h2
  exact ⟨wf_small (by omega) (by omega), wf_small (by omega) (by omega)⟩
theorem ceIsPart_any (n : Nat) (x : Int) (w : World) : Calls Tryz.prog 117 #[.int .i64 (n : Int), .int .i64 x] w fun e w' => e = .returned (.bool (withinB x 0 ((n : Int) - 1))) ∧ w' = w := by
  by_cases h0 : 0 ≤ x
  · by_cases h1 : x < n
    · have e : withinB x 0 ((n : Int) - 1) = true := by unfold withinB; simp; omega
      rw [e]
      clear e
      go_enter Tryz.func117, Tryz.ntmps117
      go_wp2
      go_ret
      exact ⟨rfl, rfl⟩
    · have e : withinB x 0 ((n : Int) - 1) = false := by unfold withinB; simp; omega
      rw [e]
      clear e
      go_enter Tryz.func117, Tryz.ntmps117
      go_wp2
      go_ret
      exact ⟨rfl, rfl⟩
  · have e : withinB x 0 ((n : Int) - 1) = false := by unfold withinB; simp; omega
    rw [e]
    clear e
    go_enter Tryz.func117, Tryz.ntmps117
    go_wp2
    go_ret
    exact ⟨rfl, rfl⟩
theorem less_any (a b : Edg) (w : World) : Calls Tryz.prog 118 #[a.v, b.v] w fun e w' => e = .returned (.bool (ltEB a b)) ∧ RowKit.Below w.heap.size w w' := by
  obtain ⟨p, q⟩ := a
  obtain ⟨x, y⟩ := b
  unfold Edg.v
  by_cases h0 : p < x
  · have e : ltEB ⟨p, q⟩ ⟨x, y⟩ = true := by unfold ltEB; simp [h0]
    rw [e]
    clear e
    go_enter Tryz.func118, Tryz.ntmps118
    go_wp2
    go_ret
    exact ⟨rfl, up0⟩
  · by_cases h1 : p = x
    · subst h1
      by_cases h2 : q < y
      · have e : ltEB ⟨p, q⟩ ⟨p, y⟩ = true := by unfold ltEB; simp [h2]
        rw [e]
        clear e
        go_enter Tryz.func118, Tryz.ntmps118
        go_wp2
        go_ret
        exact ⟨rfl, up0⟩
      · have e : ltEB ⟨p, q⟩ ⟨p, y⟩ = false := by unfold ltEB; simp [h2]
        rw [e]
        clear e
        go_enter Tryz.func118, Tryz.ntmps118
        go_wp2
        go_ret
        exact ⟨rfl, up0⟩
    · have e : ltEB ⟨p, q⟩ ⟨x, y⟩ = false := by unfold ltEB; simp [h0, h1]
      have h1' : (p == x) = false := by simpa using h1
      rw [e]
      clear e
      go_enter Tryz.func118, Tryz.ntmps118
      go_wp2
      go_ret
      exact ⟨rfl, up0⟩
end Go.Proofs.YtbkdoohhdkahiaaGreatDoor
namespace Go.Proofs.YtbkdoohhdkahiaaGreatDoor
set_option linter.unusedSimpArgs false
set_option linter.unusedVariables false
open Go.RowKit Go.Sort Go.Shelf Go.Lib Go.Maps
theorem ent_less : Enters 118 := enters Tryz.func118 (by kernel_rfl) (by kernel_rfl)
set_option maxRecDepth 100000 in
set_option maxHeartbeats 8000000 in
theorem rightPolicy_any (n : Nat) (hn : n ≤ 4) (L : List Edg) (vL : Value) (w : World) (hL : Sl w 2 vL L.length (rowC Edg.cells L)) :
    Calls Tryz.prog 68 #[.int .i64 (n : Int), .agg #[vL]] w fun e w' => e = .returned (.bool (polB n L)) ∧ RowKit.Below w.heap.size w w' := by
  obtain ⟨pa, pc, rfl⟩ := hL.form
  have HL := Lib.hid hL
  clear hL
  go_enter Tryz.func68, Tryz.ntmps68
  go_wp2
  go_loopw [10] (fun i wr => ∃ k : Nat, i = .int .i64 k ∧ k ≤ L.length ∧ Hid (PolUp n L k) ∧ wr.cell? ⟨w.heap.size, 0, none⟩ = some (.slice pa L.length pc) ∧ w.heap.size < wr.heap.size ∧ Hid (RowKit.Below w.heap.size w wr)) (fun i _ => L.length - (intOf i).toNat)
  case atStart => exact ⟨0, rfl, Nat.zero_le _, Lib.hid (polUp_zero _ _), by simp, by simp, up0⟩
  case round =>
    obtain ⟨k, rfl, hk, HP, hb0, hws, HT⟩ := hrel
    by_cases hlt : k < L.length
    · have hli : (k : Int) < L.length := by omega
      have hk16 := polUp_len hn HP.out hk
      obtain ⟨pb, po, pc', e1, hpc, hpb, hpx⟩ := (HL.out.up HT.out).open (by omega)
      cases e1
      obtain ⟨c0, c1⟩ := edge_cells hpx k hlt
      have HB1 := Lib.hid (polUp_bad1 (n := n) hlt)
      have HB2 := Lib.hid (polUp_bad2 (n := n) hlt)
      have HST := Lib.hid (fun h1 h2 => polUp_step HP.out hlt h1 h2)
      have HPX := Lib.hid hpx
      clear hpx
      generalize hEd : L[k] = ed at c0 c1 HB1 HB2 HST
      obtain ⟨ef, et⟩ := ed
      have HEd := Lib.hid hEd
      clear hEd
      simp only at c0 c1
      unfold edIn at HB1 HST
      simp only at HB1 HST
      cases hA : withinB ef 0 ((n : Int) - 1) with
      | false =>
        have HBAD := Lib.hid (HB1.out (by rw [hA]; simp))
        clear HB1 HB2 HST
        skip
        go_wp2_with (go_at_call 117; refine (ceIsPart_any _ _ _).mono ?_; rintro e w' ⟨rfl, rfl⟩)
        go_ret
        exact ⟨ret_bool HBAD.out.symm, HT.out.trans (RowKit.Below.alloc (RowKit.Below.refl _ _) HT.out.size _)⟩
      | true =>
        cases hB : withinB et 0 ((n : Int) - 1) with
        | false =>
          have HBAD := Lib.hid (HB1.out (by rw [hB]; simp))
          clear HB1 HB2 HST
          skip
          go_wp2_with (go_at_call 117; refine (ceIsPart_any _ _ _).mono ?_; rintro e w' ⟨rfl, rfl⟩)
          go_ret
          exact ⟨ret_bool HBAD.out.symm, HT.out.trans (RowKit.Below.alloc (RowKit.Below.refl _ _) HT.out.size _)⟩
        | true =>
          by_cases hC : ef = et
          · have HBAD := Lib.hid (HB1.out (by simp [hC]))
            subst hC
            clear HB1 HB2 HST
            skip
            go_wp2_with (go_at_call 117; refine (ceIsPart_any _ _ _).mono ?_; rintro e w' ⟨rfl, rfl⟩)
            go_ret
            exact ⟨ret_bool HBAD.out.symm, HT.out.trans (RowKit.Below.alloc (RowKit.Below.refl _ _) HT.out.size _)⟩
          · have hC' : (ef == et) = false := by simpa using hC
            rcases Nat.eq_zero_or_pos k with e0 | h0
            · subst e0
              have HS2 := Lib.hid (HST.out ⟨hA, hB, hC⟩ (fun h => by omega))
              clear HB1 HB2 HST hC
              simp only [Nat.zero_mul, Nat.add_zero, Nat.zero_add] at c0 c1
              go_upto_region 6 with (go_at_call 117; refine (ceIsPart_any _ _ _).mono ?_; rintro e w' ⟨rfl, rfl⟩)
              have HX : Hid (RowKit.Below wr.heap.size wr (wr.alloc (.cells #[.int .i64 ef, .int .i64 et] 53))) := Lib.hid ((RowKit.Below.refl _ _).alloc (Nat.le_refl _) _)
              have x0 : (wr.alloc (.cells #[.int .i64 ef, .int .i64 et] 53)).cell? ⟨wr.heap.size, 0, none⟩ = some (.int .i64 ef) := by simp
              have x1 : (wr.alloc (.cells #[.int .i64 ef, .int .i64 et] 53)).cell? ⟨wr.heap.size, 1, none⟩ = some (.int .i64 et) := by simp
              have hxs : wr.heap.size < (wr.alloc (.cells #[.int .i64 ef, .int .i64 et] 53)).heap.size := by simp
              have y0 := bcl HX.out (by omega) hb0
              generalize wr.alloc (.cells #[.int .i64 ef, .int .i64 et] 53) = X at HX x0 x1 hxs y0 ⊢
              refine region_still (S := fun w' => w'.cell? ⟨w.heap.size, 0, none⟩ = some (.slice (some ⟨pb, po, none⟩) L.length pc)) 12 (by kernel_rfl) y0 (fun hHeld => ?_)
              refine Still.t 0 [2, 1] hHeld ?_
              refine Still.t 1 [2] hHeld ?_
              refine Still.t 2 [] hHeld ?_
              refine Still.y 3 [11, 10, 8, 7, 4] rfl (Or.inr ⟨by rfl, rfl⟩) hHeld ?_
              refine Still.y 4 [11, 10, 8, 7] rfl (Or.inr ⟨by rfl, rfl⟩) hHeld ?_
              refine Still.y 5 [11, 10, 8, 7, 6] rfl (Or.inr ⟨by rfl, rfl⟩) hHeld ?_
              refine Still.y 6 [11, 10, 8, 7] rfl (Or.inr ⟨by rfl, rfl⟩) hHeld ?_
              refine Still.y 7 [11, 10, 8] rfl (Or.inr ⟨by rfl, rfl⟩) hHeld ?_
              refine Still.y 8 [11, 10] rfl (Or.inr ⟨by rfl, rfl⟩) hHeld ?_
              refine Still.y 9 [11, 10] rfl (Or.inr ⟨by rfl, rfl⟩) hHeld ?_
              refine Still.y 10 [11] rfl (Or.inr ⟨by rfl, rfl⟩) hHeld ?_
              refine Still.y 11 [] rfl (Or.inr ⟨by rfl, rfl⟩) hHeld ?_
              refine Still.o 12 rfl rfl (fun K hK => ?_)
              go_simp
              refine hK _ _ (fun h => absurd rfl h) (fun _ => ?_)
              clear hK K
              refine Still.over (by kernel_rfl) ?_ _
              clear hHeld
              have HV : Hid (RowKit.Below wr.heap.size wr X.drew) := Lib.hid (HX.out.trans (RowKit.Below.refl _ _).drew)
              go_wp2
              go_roundw
              case rel => exact ⟨1, by go_num, by omega, HS2, bcl HV.out hws hb0, Nat.lt_of_lt_of_le hws HV.out.size, Lib.hid (HT.out.trans (HV.out.mono HT.out.size))⟩
              case measure => simp [intOf]; omega
            · have hk0 : (0 : Int) < k := by omega
              obtain ⟨d0, d1⟩ := edge_cells HPX.out (k - 1) (by omega)
              cases hls : ltEB (L[k - 1]'(by omega)) ⟨ef, et⟩ with
              | true =>
                have HS2 := Lib.hid (HST.out ⟨hA, hB, hC⟩ (fun _ => hls))
                clear HB1 HB2 HST hC
                generalize (L[k - 1]'(by omega)) = pd at d0 d1 hls
                obtain ⟨pf, pt⟩ := pd
                simp only at d0 d1
                have hwr : IntKind.i64.wrap ((k : Int) - 1) = ((k - 1 : Nat) : Int) := by simp [IntKind.wrap, IntKind.bits, IntKind.signed]; omega
                have hkl : ((k - 1 : Nat) : Int) < L.length := by omega
                generalize k - 1 = j at d0 d1 hwr hkl
                go_upto_region 6 with (go_at_call 117; refine (ceIsPart_any _ _ _).mono ?_; rintro e w' ⟨rfl, rfl⟩)
                have HX : Hid (RowKit.Below wr.heap.size wr (wr.alloc (.cells #[.int .i64 ef, .int .i64 et] 53))) := Lib.hid ((RowKit.Below.refl _ _).alloc (Nat.le_refl _) _)
                have x0 : (wr.alloc (.cells #[.int .i64 ef, .int .i64 et] 53)).cell? ⟨wr.heap.size, 0, none⟩ = some (.int .i64 ef) := by simp
                have x1 : (wr.alloc (.cells #[.int .i64 ef, .int .i64 et] 53)).cell? ⟨wr.heap.size, 1, none⟩ = some (.int .i64 et) := by simp
                have hxs : wr.heap.size < (wr.alloc (.cells #[.int .i64 ef, .int .i64 et] 53)).heap.size := by simp
                have y0 := bcl HX.out (by omega) hb0
                have y1 := bcl HX.out (by omega) d0
                have y2 := bcl HX.out (by omega) d1
                generalize wr.alloc (.cells #[.int .i64 ef, .int .i64 et] 53) = X at HX x0 x1 hxs y0 y1 y2 ⊢
                refine region_still (S := fun w' => w'.cell? ⟨wr.heap.size, 0, none⟩ = some (.int .i64 ef) ∧ w'.cell? ⟨wr.heap.size, 1, none⟩ = some (.int .i64 et) ∧ w'.cell? ⟨w.heap.size, 0, none⟩ = some (.slice (some ⟨pb, po, none⟩) L.length pc) ∧ w'.cell? ⟨pb, po + j * 2, none⟩ = some (.int .i64 pf) ∧ w'.cell? ⟨pb, po + j * 2 + 1, none⟩ = some (.int .i64 pt)) 12 (by kernel_rfl) ⟨x0, x1, y0, y1, y2⟩ (fun hHeld => ?_)
                refine Still.t 0 [2, 1] hHeld ?_
                refine Still.t 1 [2] hHeld ?_
                refine Still.t 2 [] hHeld ?_
                refine Still.t 3 [11, 10, 8, 7, 4] hHeld ?_
                refine Still.t 4 [11, 10, 8, 7] hHeld ?_
                refine Still.t 5 [11, 10, 8, 7, 6] hHeld ?_
                refine Still.t 6 [11, 10, 8, 7] hHeld ?_
                refine Still.t 7 [11, 10, 8] hHeld ?_
                refine Still.t 8 [11, 10] hHeld ?_
                refine Still.t 9 [11, 10] hHeld ?_
                refine Still.all (rs := [10]) (by kernel_rfl) (by simp) (Still.oneG (i := 10) rfl (by rfl) (fun K hK => ?_) (by simp))
                refine wp_call 118 _ _ rfl ent_less #[(⟨pf, pt⟩ : Edg).v, (⟨ef, et⟩ : Edg).v] (by first | rfl | simp [Act.eval, Act.put, Edg.v]) ((less_any _ _ _).mono ?_)
                rintro e V1 ⟨rfl, b5⟩
                have HV : Hid (RowKit.Below wr.heap.size wr V1) := Lib.hid ((HX.out.trans (RowKit.Below.refl _ _).drew).trans (b5.mono HX.out.size))
                refine ⟨_, rfl, hK _ _ (fun _ => ⟨bcl b5 hxs x0, bcl b5 hxs x1, bcl b5 (by show w.heap.size < X.heap.size; omega) y0, bcl b5 (by show pb < X.heap.size; omega) y1, bcl b5 (by show pb < X.heap.size; omega) y2⟩) (fun hh => ?_)⟩
                have hHeld := hh (by decide)
                clear hK K hh b5
                try simp only [Act.put, List.getElem_toArray, List.getElem_cons_zero, List.getElem_cons_succ, List.setIfInBounds_toArray, List.set_cons_zero, List.set_cons_succ]
                rw [hls]
                refine Still.t 11 [] hHeld ?_
                refine Still.o 12 rfl rfl (fun K hK => ?_)
                go_simp
                refine hK _ _ (fun h => absurd rfl h) (fun _ => ?_)
                clear hK K
                refine Still.over (by kernel_rfl) ?_ _
                clear hHeld
                go_wp2
                go_roundw
                case rel => exact ⟨k + 1, by go_num, by omega, HS2, bcl HV.out hws hb0, Nat.lt_of_lt_of_le hws HV.out.size, Lib.hid (HT.out.trans (HV.out.mono HT.out.size))⟩
                case measure => simp [intOf]; omega
              | false =>
                have HBAD := Lib.hid (HB2.out h0 hls)
                clear HB1 HB2 HST hC
                generalize (L[k - 1]'(by omega)) = pd at d0 d1 hls
                obtain ⟨pf, pt⟩ := pd
                simp only at d0 d1
                have hwr : IntKind.i64.wrap ((k : Int) - 1) = ((k - 1 : Nat) : Int) := by simp [IntKind.wrap, IntKind.bits, IntKind.signed]; omega
                have hkl : ((k - 1 : Nat) : Int) < L.length := by omega
                generalize k - 1 = j at d0 d1 hwr hkl
                go_upto_region 6 with (go_at_call 117; refine (ceIsPart_any _ _ _).mono ?_; rintro e w' ⟨rfl, rfl⟩)
                have HX : Hid (RowKit.Below wr.heap.size wr (wr.alloc (.cells #[.int .i64 ef, .int .i64 et] 53))) := Lib.hid ((RowKit.Below.refl _ _).alloc (Nat.le_refl _) _)
                have x0 : (wr.alloc (.cells #[.int .i64 ef, .int .i64 et] 53)).cell? ⟨wr.heap.size, 0, none⟩ = some (.int .i64 ef) := by simp
                have x1 : (wr.alloc (.cells #[.int .i64 ef, .int .i64 et] 53)).cell? ⟨wr.heap.size, 1, none⟩ = some (.int .i64 et) := by simp
                have hxs : wr.heap.size < (wr.alloc (.cells #[.int .i64 ef, .int .i64 et] 53)).heap.size := by simp
                have y0 := bcl HX.out (by omega) hb0
                have y1 := bcl HX.out (by omega) d0
                have y2 := bcl HX.out (by omega) d1
                generalize wr.alloc (.cells #[.int .i64 ef, .int .i64 et] 53) = X at HX x0 x1 hxs y0 y1 y2 ⊢
                refine region_still (S := fun w' => w'.cell? ⟨wr.heap.size, 0, none⟩ = some (.int .i64 ef) ∧ w'.cell? ⟨wr.heap.size, 1, none⟩ = some (.int .i64 et) ∧ w'.cell? ⟨w.heap.size, 0, none⟩ = some (.slice (some ⟨pb, po, none⟩) L.length pc) ∧ w'.cell? ⟨pb, po + j * 2, none⟩ = some (.int .i64 pf) ∧ w'.cell? ⟨pb, po + j * 2 + 1, none⟩ = some (.int .i64 pt)) 12 (by kernel_rfl) ⟨x0, x1, y0, y1, y2⟩ (fun hHeld => ?_)
                refine Still.t 0 [2, 1] hHeld ?_
                refine Still.t 1 [2] hHeld ?_
                refine Still.t 2 [] hHeld ?_
                refine Still.t 3 [11, 10, 8, 7, 4] hHeld ?_
                refine Still.t 4 [11, 10, 8, 7] hHeld ?_
                refine Still.t 5 [11, 10, 8, 7, 6] hHeld ?_
                refine Still.t 6 [11, 10, 8, 7] hHeld ?_
                refine Still.t 7 [11, 10, 8] hHeld ?_
                refine Still.t 8 [11, 10] hHeld ?_
                refine Still.t 9 [11, 10] hHeld ?_
                refine Still.all (rs := [10]) (by kernel_rfl) (by simp) (Still.oneG (i := 10) rfl (by rfl) (fun K hK => ?_) (by simp))
                refine wp_call 118 _ _ rfl ent_less #[(⟨pf, pt⟩ : Edg).v, (⟨ef, et⟩ : Edg).v] (by first | rfl | simp [Act.eval, Act.put, Edg.v]) ((less_any _ _ _).mono ?_)
                rintro e V1 ⟨rfl, b5⟩
                have HV : Hid (RowKit.Below wr.heap.size wr V1) := Lib.hid ((HX.out.trans (RowKit.Below.refl _ _).drew).trans (b5.mono HX.out.size))
                refine ⟨_, rfl, hK _ _ (fun _ => ⟨bcl b5 hxs x0, bcl b5 hxs x1, bcl b5 (by show w.heap.size < X.heap.size; omega) y0, bcl b5 (by show pb < X.heap.size; omega) y1, bcl b5 (by show pb < X.heap.size; omega) y2⟩) (fun hh => ?_)⟩
                have hHeld := hh (by decide)
                clear hK K hh b5
                try simp only [Act.put, List.getElem_toArray, List.getElem_cons_zero, List.getElem_cons_succ, List.setIfInBounds_toArray, List.set_cons_zero, List.set_cons_succ]
                rw [hls]
                refine Still.t 11 [] hHeld ?_
                refine Still.o 12 rfl rfl (fun K hK => ?_)
                go_simp
                refine hK _ _ (fun h => absurd rfl h) (fun _ => ?_)
                clear hK K
                refine Still.over (by kernel_rfl) ?_ _
                clear hHeld
                go_wp2
                go_ret
                exact ⟨ret_bool HBAD.out.symm, HT.out.trans (HV.out.mono HT.out.size)⟩
    · have hli : ¬ (k : Int) < L.length := by omega
      have HG := Lib.hid (polUp_all HP.out hlt)
      go_wp2
      go_ret
      exact ⟨ret_bool HG.out.symm, HT.out⟩
noncomputable def polE (S : SysD) (L : List Edg) : Int := if chkS S = 0 then (if polB S.parts.length L = true then 0 else 1) else chkS S
set_option maxHeartbeats 2000000 in
theorem ceCheck_any (S : SysD) (L : List Edg) (vp vc vs vL : Value) (w : World) (he : Env w) (hS : Sys w vp vc vs S) (hL : Sl w 2 vL L.length (rowC Edg.cells L)) :
    Calls Tryz.prog 34 #[.agg #[vp, vc, vs], .agg #[vL]] w fun e w' => e = .returned (.int .i64 (polE S L)) ∧ RowKit.Below w.heap.size w w' := by
  generalize hc : polE S L = c
  obtain ⟨pa, pc, rfl⟩ := hS.p.form
  obtain ⟨ca, cc, rfl⟩ := hS.c.form
  obtain ⟨sa, sc, rfl⟩ := hS.s.form
  obtain ⟨la, lc, rfl⟩ := hL.form
  unfold polE at hc
  generalize hr : chkS S = r at hc
  have HS := Lib.hid hS
  have HR := Lib.hid hr
  have HL := Lib.hid hL
  clear hS hr hL
  go_enter Tryz.func34, Tryz.ntmps34
  go_wp2_with fail
  refine (confCheck_any S _ _ _ _ (he.up up0) (HS.out.up up0)).mono ?_
  rw [HR.out]
  rintro e w1 ⟨rfl, bb⟩
  have k0 := (((box_new w (.slice pa S.parts.length pc) (.slice ca S.chans.length cc) (.slice sa S.slots.length sc) 39 _ rfl).up ((RowKit.Below.refl _ _).alloc (Nat.le_refl _) (.cells #[.slice la L.length lc] 27))).up bb).p
  have k1 : w1.cell? ⟨w.heap.size + 1, 0, none⟩ = some (.slice la L.length lc) := bcl bb (by simp) (by simp)
  have D := Lib.hid (RowKit.Below.trans (show RowKit.Below w.heap.size w _ from up0) (bb.mono (by simp; omega)))
  clear bb
  by_cases h0 : r = 0
  · subst h0
    rw [if_pos rfl] at hc
    have sm := (chk_flow HR.out).1
    go_wp2_with fail
    refine (rightPolicy_any S.parts.length sm L _ _ (HL.out.up D.out)).mono ?_
    rintro e w2 ⟨rfl, b2⟩
    have D2 := Lib.hid (D.out.trans (b2.mono D.out.size))
    clear b2 D k0 k1
    cases hw : polB S.parts.length L
    all_goals
      rw [hw] at hc
      simp at hc
      subst hc
      go_wp2
      go_ret
      exact ⟨rfl, D2.out⟩
  · have h0' : (r != 0) = true := by simpa using h0
    rw [if_neg h0] at hc
    subst hc
    clear h0
    go_wp2
    go_ret
    exact ⟨rfl, D.out⟩
end Go.Proofs.YtbkdoohhdkahiaaGreatDoor
namespace Go.Proofs.YtbkdoohhdkahiaaGreatDoor
set_option linter.unusedSimpArgs false
set_option linter.unusedVariables false
open Go.RowKit Go.Sort Go.Shelf Go.Lib Go.Maps
theorem polE_zero {S : SysD} {L : List Edg} (h0 : chkS S = 0) (h : polB S.parts.length L = true) : polE S L = 0 := by unfold polE; rw [if_pos h0, h]; rfl
end Go.Proofs.YtbkdoohhdkahiaaGreatDoor
namespace Go.Proofs.YtbkdoohhdkahiaaGreatDoor
set_option linter.unusedSimpArgs false
set_option linter.unusedVariables false
open Go.RowKit Go.Sort Go.Shelf Go.Lib Go.Maps
def inB (l : List Int) (x : Int) : Bool := l.any fun y => y == x
theorem inB_iff {l : List Int} {x : Int} : inB l x = true ↔ x ∈ l := by
  unfold inB
  rw [List.any_eq_true]
  constructor
  · rintro ⟨y, hy, e⟩
    rw [beq_iff_eq] at e
    exact e ▸ hy
  · intro h
    exact ⟨x, h, by simp⟩
end Go.Proofs.YtbkdoohhdkahiaaGreatDoor
namespace Go.Proofs.YtbkdoohhdkahiaaGreatDoor
set_option linter.unusedSimpArgs false
set_option linter.unusedVariables false
open Go.RowKit Go.Sort Go.Shelf Go.Lib Go.Maps
def edIs (a b : Int) (e : Edg) : Bool := e == ⟨a, b⟩
def mayB (L : List Edg) (a b : Int) : Bool := (a == b) || L.any (edIs a b)
theorem saysHas_any (b n : Nat) (V : List Edg) (e : Edg) (we : e.wf) (w : World) (hM : SaysM w b n V) :
    Calls Tryz.prog 39 #[.map (some b), .int .i64 e.fr, .int .i64 e.tt] w fun r w' => r = .returned (.bool (decide (e ∈ V))) ∧ RowKit.Below w.heap.size w w' := by
  have HM := Lib.hid hM
  clear hM
  generalize hd : decide (e ∈ V) = d
  have HD := Lib.hid hd
  clear hd
  go_enter Tryz.func39, Tryz.ntmps39
  go_wp2_with (at_lookup; refine wpList_says_has rfl _ _ rfl b n V rfl HM.out e rfl we ?_; rw [HD.out])
  go_ret
  exact ⟨rfl, up0⟩
def selfL (n : Nat) : List Edg := (List.range n).map fun (i : Nat) => ⟨i, i⟩
theorem selfL_step (n : Nat) : selfL (n + 1) = selfL n ++ [⟨n, n⟩] := by
  unfold selfL
  rw [List.range_succ, List.map_append]
  rfl
theorem allowed_has {n : Nat} {L : List Edg} {a b : Int} (ha : 0 ≤ a ∧ a < n) : decide ((⟨a, b⟩ : Edg) ∈ selfL n ++ L) = mayB L a b := by
  unfold mayB
  by_cases h1 : a = b
  · subst h1
    have : (⟨a, a⟩ : Edg) ∈ selfL n := by
      unfold selfL
      rw [List.mem_map]
      exact ⟨a.toNat, List.mem_range.2 (by omega), by rw [Int.toNat_of_nonneg ha.1]⟩
    simp [this]
  · have h2 : (⟨a, b⟩ : Edg) ∉ selfL n := by
      unfold selfL
      rw [List.mem_map]
      rintro ⟨i, _, e⟩
      injection e with e1 e2
      exact h1 (e1.symm.trans e2)
    have h3 : (L.any (edIs a b)) = decide ((⟨a, b⟩ : Edg) ∈ L) := by
      by_cases h : (⟨a, b⟩ : Edg) ∈ L
      · rw [decide_eq_true h, List.any_eq_true]
        exact ⟨_, h, by simp [edIs]⟩
      · rw [decide_eq_false h, List.any_eq_false]
        intro e he
        simp only [edIs, beq_iff_eq]
        exact fun e2 => h (e2 ▸ he)
    rw [h3]
    simp [h1, h2]
set_option maxRecDepth 100000 in
set_option maxHeartbeats 4000000 in
theorem allowed_any (n : Nat) (hn : n ≤ 4) (L : List Edg) (hLl : L.length ≤ 16) (hwf : ∀ e ∈ L, e.wf) (vL : Value) (w : World) (hL : Sl w 2 vL L.length (rowC Edg.cells L)) :
    Calls Tryz.prog 36 #[.int .i64 (n : Int), .agg #[vL]] w fun e w' => ∃ b, e = .returned (.map (some b)) ∧ (∃ m, SaysM w' b m (selfL n ++ L)) ∧ RowKit.Below w.heap.size w w' := by
  obtain ⟨la, lc, rfl⟩ := hL.form
  have HL := Lib.hid hL
  have HWF := Lib.hid hwf
  clear hL hwf
  have hmm := @run_makeMap Tryz.prog
  go_enter Tryz.func36, Tryz.ntmps36
  go_wp2
  clear hmm
  go_loopw [11] (fun i wr => ∃ k : Nat, i = .int .i64 k ∧ k ≤ n ∧ Hid (SaysM wr (w.heap.size + 1) k (selfL k)) ∧ wr.cell? ⟨w.heap.size, 0, none⟩ = some (.slice la L.length lc) ∧ w.heap.size + 1 < wr.heap.size ∧ Hid (RowKit.Below w.heap.size w wr)) (fun i _ => n - (intOf i).toNat)
  case atStart => exact ⟨0, rfl, Nat.zero_le _, Lib.hid (by have := says_made (w.alloc (.cells #[.slice la L.length lc] 27)); simpa [selfL] using this), by simp, by simp, up0⟩
  case round =>
    obtain ⟨k, rfl, hk, HM, hb0, hws, HT⟩ := hrel
    by_cases hlt : k < n
    · have hli : (k : Int) < n := by omega
      have we : (⟨k, k⟩ : Edg).wf := ⟨wf_small (by simp) (by simp; omega), wf_small (by simp) (by simp; omega)⟩
      go_wp2_with (refine wpList_says_put rfl _ _ _ rfl (w.heap.size + 1) k (selfL k) rfl HM.out (by omega) ⟨k, k⟩ rfl rfl we ?_)
      intro W hM hg
      have hb1 := (hg.cell_far ⟨w.heap.size, 0, none⟩ (by show w.heap.size < wr.heap.size; omega) (by simp)).trans hb0
      have HM2 : Hid (SaysM W (w.heap.size + 1) (k + 1) (selfL (k + 1))) := Lib.hid (by rw [selfL_step]; exact hM)
      have HT2 := Lib.hid (HT.out.grown hg HT.out.size (fun q e => by cases e; omega))
      have hws2 := Nat.lt_of_lt_of_le hws hg.size
      clear hM hg HM HT hb0
      go_wp2
      go_roundw
      case rel => exact ⟨k + 1, by go_num, by omega, HM2, hb1, hws2, HT2⟩
      case measure => simp [intOf]; omega
    · have hli : ¬ (k : Int) < n := by omega
      have hkn : k = n := by omega
      subst hkn
      go_wp2
      go_loopw [23] (fun i wr => ∃ j : Nat, i = .int .i64 j ∧ j ≤ L.length ∧ Hid (SaysM wr (w.heap.size + 1) (k + j) (selfL k ++ L.take j)) ∧ w.heap.size + 1 < wr.heap.size ∧ Hid (RowKit.Below w.heap.size w wr)) (fun i _ => L.length - (intOf i).toNat)
      case atStart => exact ⟨0, rfl, Nat.zero_le _, by simpa using HM, hws, HT⟩
      case round =>
        clear HM hb0 hws HT
        obtain ⟨j, rfl, hj, HM, hws, HT⟩ := hrel
        by_cases hjl : j < L.length
        · have hji : (j : Int) < L.length := by omega
          obtain ⟨pb, po, pc', e1, hpc, hpb, hpx⟩ := (HL.out.up HT.out).open (by omega)
          cases e1
          obtain ⟨c0, c1⟩ := edge_cells hpx j hjl
          have we := HWF.out _ (List.getElem_mem hjl)
          have HTK := Lib.hid (List.take_succ_eq_append_getElem hjl)
          generalize L[j] = ed at c0 c1 we HTK
          obtain ⟨ef, et⟩ := ed
          simp only at c0 c1
          clear hpx
          have HM1 := Lib.hid (HM.out.alloc (.cells #[.int .i64 ef, .int .i64 et] 53))
          go_wp2_with (refine wpList_says_put rfl _ _ _ rfl (w.heap.size + 1) (k + j) (selfL k ++ L.take j) rfl HM1.out (by omega) ⟨ef, et⟩ rfl rfl we ?_)
          intro W hM hg
          have hsz := HT.out.size
          have HM2 : Hid (SaysM W (w.heap.size + 1) (k + (j + 1)) (selfL k ++ L.take (j + 1))) := Lib.hid (by rw [HTK.out]; first | exact hM | (rw [← List.append_assoc]; exact hM))
          have HT2 := Lib.hid ((HT.out.alloc HT.out.size _).grown hg (by simp; omega) (fun q e => by cases e; omega))
          have hws2 : w.heap.size + 1 < W.heap.size := Nat.lt_of_lt_of_le (by simp; omega) hg.size
          clear hM hg HM HM1 HT
          go_wp2
          go_roundw
          case rel => exact ⟨j + 1, by go_num, by omega, HM2, hws2, HT2⟩
          case measure => simp [intOf]; omega
        · have hji : ¬ (j : Int) < L.length := by omega
          have HM2 : Hid (SaysM wr (w.heap.size + 1) (k + j) (selfL k ++ L)) := Lib.hid (by have := HM.out; rwa [List.take_of_length_le (by omega)] at this)
          go_wp2
          go_ret
          exact ⟨_, rfl, ⟨_, HM2.out⟩, HT.out⟩
def SetUp (n : Nat) (l : List Int) (k : Nat) : Prop := ∀ j (h : j < l.length), j < k → withinB l[j] 0 ((n : Int) - 1) = true ∧ (∀ h0 : 0 < j, l[j - 1]'(by omega) < l[j])
theorem setUp_step {n : Nat} {l : List Int} {k : Nat} (h : SetUp n l k) (hk : k < l.length) (h1 : withinB l[k] 0 ((n : Int) - 1) = true) (h2 : ∀ h0 : 0 < k, l[k - 1]'(by omega) < l[k]) : SetUp n l (k + 1) := fun j hj hjk => by
  by_cases e : j = k
  · subst e; exact ⟨h1, h2⟩
  · exact h j hj (by omega)
end Go.Proofs.YtbkdoohhdkahiaaGreatDoor
namespace Go.Proofs.YtbkdoohhdkahiaaGreatDoor
set_option linter.unusedSimpArgs false
set_option linter.unusedVariables false
open Go.RowKit Go.Sort Go.Shelf Go.Lib Go.Maps
def rowP (p : Nat → Nat → Bool) (a : Nat) (m : Nat) : List Edg := ((List.range m).filter fun (b : Nat) => p a b).map fun (b : Nat) => ⟨a, b⟩
def outP (p : Nat → Nat → Bool) (n : Nat) (k : Nat) : List Edg := (List.range k).flatMap fun a => rowP p a n
def pairsL (n : Nat) (p : Nat → Nat → Bool) : List Edg := outP p n n
theorem rowP_step (p : Nat → Nat → Bool) (a m : Nat) : rowP p a (m + 1) = rowP p a m ++ if p a m then [⟨a, m⟩] else [] := by
  unfold rowP
  rw [List.range_succ, List.filter_append, List.map_append]
  congr 1
  by_cases h : p a m = true
  · simp [h]
  · simp [h]
theorem outP_step (p : Nat → Nat → Bool) (n k : Nat) : outP p n (k + 1) = outP p n k ++ rowP p k n := by
  unfold outP
  rw [List.range_succ, List.flatMap_append]
  simp
theorem rowP_len (p : Nat → Nat → Bool) (a m : Nat) : (rowP p a m).length ≤ m := by
  unfold rowP
  rw [List.length_map]
  refine Nat.le_trans (List.length_filter_le _ _) ?_
  simp
theorem outP_len (p : Nat → Nat → Bool) (n : Nat) : ∀ k, (outP p n k).length ≤ k * n
  | 0 => by simp [outP]
  | k + 1 => by
    have := outP_len p n k
    have := rowP_len p k n
    rw [outP_step, List.length_append, Nat.succ_mul]
    omega
theorem pairsL_len (n : Nat) (hn : n ≤ 4) (p : Nat → Nat → Bool) : (pairsL n p).length ≤ 16 := by
  have := outP_len p n n
  have h : n * n ≤ 4 * 4 := Nat.mul_le_mul hn hn
  unfold pairsL
  omega
set_option maxRecDepth 100000 in
set_option maxHeartbeats 8000000 in
theorem pairs_any (n : Nat) (hn : n ≤ 4) (p : Nat → Nat → Bool) (f : Nat) (hen : Enters f) (caps : Array Value) (w : World)
    (hf : ∀ a b : Nat, a < n → b < n → ∀ w1, RowKit.Below w.heap.size w w1 → Calls Tryz.prog f (#[.int .i64 a, .int .i64 b] ++ caps) w1 fun e w2 => e = .returned (.bool (p a b)) ∧ RowKit.Below w1.heap.size w1 w2) :
    Calls Tryz.prog 37 #[.int .i64 (n : Int), .func (.func f) #[] caps] w fun e w' => ∃ v, e = .returned v ∧ Sl w' 2 v (pairsL n p).length (rowC Edg.cells (pairsL n p)) ∧ (∀ b, v.ownBlock = some b → w.heap.size ≤ b ∧ b < w'.heap.size) ∧ RowKit.Below w.heap.size w w' := by
  obtain ⟨i1, hi1, hy0, hy1, hy2⟩ := info_parts infoEdg
  have HF := Lib.hid hf
  clear hf
  unfold Enters at hen
  go_enter Tryz.func37, Tryz.ntmps37
  go_wp2
  go_loopw [9, 5] (fun i l wr => ∃ k : Nat, i = .int .i64 k ∧ k ≤ n ∧ Hid (wr.ownsRow w.heap.size 53 2 l (outP p n k).length (rowC Edg.cells (outP p n k))) ∧ Hid (RowKit.Below w.heap.size w wr)) (fun i _ _ => n - (intOf i).toNat)
  case atStart => exact ⟨0, rfl, Nat.zero_le _, Lib.hid (World.ownsRow_nil _ _ _ _), Lib.hid (RowKit.Below.refl _ _)⟩
  case round =>
    obtain ⟨k, rfl, hk, HO, HT⟩ := hrel
    by_cases hlt : k < n
    · have hli : (k : Int) < n := by omega
      go_wp2
      go_loopw [13, 5] (fun i l wr => ∃ j : Nat, i = .int .i64 j ∧ j ≤ n ∧ Hid (wr.ownsRow w.heap.size 53 2 l (outP p n k ++ rowP p k j).length (rowC Edg.cells (outP p n k ++ rowP p k j))) ∧ Hid (RowKit.Below w.heap.size w wr)) (fun i _ _ => n - (intOf i).toNat)
      case atStart => exact ⟨0, rfl, Nat.zero_le _, by rw [show rowP p k 0 = [] from rfl, List.append_nil]; exact HO, HT⟩
      case round =>
        clear HO HT
        obtain ⟨j, rfl, hj, HO, HT⟩ := hrel
        obtain ⟨a3, c3, hform⟩ := own_form HO.out
        subst hform
        by_cases hjl : j < n
        · have hji : (j : Int) < n := by omega
          have hol := outP_len p n k
          have hrl := rowP_len p k j
          have hkn : k * n ≤ 3 * 4 := Nat.mul_le_mul (by omega) hn
          have hstep := rowP_step p k j
          have HLL : Hid ((outP p n k ++ rowP p k j).length ≤ 16) := Lib.hid (by rw [List.length_append]; omega)
          have HST : Hid (outP p n k ++ rowP p k (j + 1) = (outP p n k ++ rowP p k j) ++ if p k j then [⟨k, j⟩] else []) := Lib.hid (by rw [hstep, List.append_assoc])
          have HC := Lib.hid (HF.out k j hlt hjl)
          generalize outP p n k ++ rowP p k j = L at HO HLL HST
          clear hol hrl hkn hstep
          go_wp2_with fail
          refine (HC.out _ HT.out).mono ?_
          rintro e w2 ⟨rfl, hb2⟩
          have HO2 := Lib.hid (own_upF HO.out hb2)
          have HT2 := Lib.hid (HT.out.trans (hb2.mono HT.out.size))
          clear HO HT hb2 HC
          cases hle : p k j with
          | true =>
            have HST2 := Lib.hid (HST.out.trans (by rw [if_pos hle]))
            clear HST hle
            have hw2 := HT2.out.size
            have HO3 := Lib.hid (HO2.out.alloc (.cells #[.int .i64 k, .int .i64 j] 53))
            go_wp2_with (at_builtin; refine wpList_append_lies _ rfl (.tmp 20) (.tmp 24) 25 rfl w.heap.size 53 i1 _ 2 16 Tryz.underlying25 hi1 hy0 hy1 hy2 rfl (by decide) _ L.length (rowC Edg.cells L) rfl HO3.out ⟨w2.heap.size,0,none⟩ 1 1 [.int .i64 k, .int .i64 j] rfl rfl (new_rangeE _ _ _ _ rfl) (two_one _ _) (by decide) (by have := HLL.out; unfold maxLen; omega) (by have := HLL.out; omega) (by simp; omega) _ rfl ?_)
            intro g4 cap4 W4 hown hgrow hat hg4
            have HO4 : Hid (W4.ownsRow w.heap.size 53 2 (.slice (some ⟨g4, 0, none⟩) (L.length + 1) cap4) (L ++ [(⟨k, j⟩ : Edg)]).length (rowC Edg.cells (L ++ [(⟨k, j⟩ : Edg)]))) := Lib.hid (by rw [rowE_snoc, List.length_append]; exact hown)
            have HT4 := Lib.hid ((HT2.out.alloc hw2 _).grown hgrow (by simp; omega) (fun q e => by have := own_block HO3.out q e; omega))
            clear hown hgrow hat HO2 HO3 HT2
            go_wp2
            go_roundw
            case rel => exact ⟨j + 1, by go_num, by omega, by rw [HST2.out]; exact HO4, HT4⟩
            case measure => simp [intOf]; omega
          | false =>
            have HST2 := Lib.hid (HST.out.trans (by rw [hle]; simp) : _ = L)
            clear HST hle
            go_wp2
            go_roundw
            case rel => exact ⟨j + 1, by go_num, by omega, by rw [HST2.out]; exact HO2, HT2⟩
            case measure => simp [intOf]; omega
        · have hji : ¬ (j : Int) < n := by omega
          have hje : j = n := by omega
          go_wp2
          go_roundw
          case rel => exact ⟨k + 1, by go_num, by omega, by rw [outP_step, ← hje]; rw [← hje] at HO; exact HO, HT⟩
          case measure => simp [intOf]; omega
    · have hli : ¬ (k : Int) < n := by omega
      have hke : k = n := by omega
      subst hke
      go_wp2
      go_ret
      exact ⟨_, rfl, own_sl HO.out, fun b e => ⟨own_block HO.out b e, (HO.out.lt b e).2⟩, HT.out⟩
theorem ent_reachers1 : Enters 74 := enters Tryz.func74 (by kernel_rfl) (by kernel_rfl)
theorem ent_certify1 : Enters 38 := enters Tryz.func38 (by kernel_rfl) (by kernel_rfl)
set_option maxHeartbeats 1000000 in
theorem reachers1_any (n a b g : Nat) (ha : a < n) (hb : b < n) (F : Nat → Nat → Bool) (vm : Value) (w : World) (hg : w.cell? ⟨g, 0, none⟩ = some vm) (hM : TabR w vm F n n) :
    Calls Tryz.prog 74 #[.int .i64 (a : Int), .int .i64 (b : Int), .pointer (some ⟨g, 0, none⟩)] w fun e w' => e = .returned (.bool (F a b)) ∧ w' = w := by
  obtain ⟨mb, mo, mc, rfl, hmc, hmb, hrows⟩ := hM.row (by omega) (by omega)
  obtain ⟨rb, ro, rc, hm0, hrc, hrb, hr⟩ := hrows a ha
  have hm1 := hr b hb
  have hai : (a : Int) < n := by omega
  have hbi : (b : Int) < n := by omega
  clear hrows hr hM
  go_enter Tryz.func74, Tryz.ntmps74
  go_wp2
  go_ret
  exact ⟨rfl, rfl⟩
set_option maxHeartbeats 1000000 in
theorem certify1_any (n a b g g2 sb sn : Nat) (hn : n ≤ 4) (ha : a < n) (hb : b < n) (F : Nat → Nat → Bool) (L : List Edg) (vm : Value) (w : World) (hg : w.cell? ⟨g, 0, none⟩ = some vm) (hg2 : w.cell? ⟨g2, 0, none⟩ = some (.map (some sb))) (hM : TabR w vm F n n) (hSy : SaysM w sb sn (selfL n ++ L)) :
    Calls Tryz.prog 38 #[.int .i64 (a : Int), .int .i64 (b : Int), .pointer (some ⟨g, 0, none⟩), .pointer (some ⟨g2, 0, none⟩)] w fun e w' => e = .returned (.bool (F a b && !(mayB L a b))) ∧ RowKit.Below w.heap.size w w' := by
  obtain ⟨mb, mo, mc, rfl, hmc, hmb, hrows⟩ := hM.row (by omega) (by omega)
  obtain ⟨rb, ro, rc, hm0, hrc, hrb, hr⟩ := hrows a ha
  have hm1 := hr b hb
  have hai : (a : Int) < n := by omega
  have hbi : (b : Int) < n := by omega
  have HSY := Lib.hid hSy
  have we : (⟨a, b⟩ : Edg).wf := ⟨wf_small (by simp) (by simp; omega), wf_small (by simp) (by simp; omega)⟩
  have HMY := Lib.hid (allowed_has (n := n) (L := L) (a := a) (b := b) (by omega))
  clear hrows hr hM hSy
  cases hF : F a b with
  | false =>
    rw [hF] at hm1
    go_enter Tryz.func38, Tryz.ntmps38
    go_wp2
    go_ret
    exact ⟨rfl, RowKit.Below.refl _ _⟩
  | true =>
    rw [hF] at hm1
    go_enter Tryz.func38, Tryz.ntmps38
    go_wp2_with fail
    refine (saysHas_any sb sn (selfL n ++ L) ⟨a, b⟩ we _ HSY.out).mono ?_
    rw [HMY.out]
    rintro e w1 ⟨rfl, bb⟩
    have D := Lib.hid bb
    clear bb
    cases hmy : mayB L a b
    all_goals
      go_wp2
      go_ret
      exact ⟨ret_bool (by rw [hmy]; rfl), D.out⟩
def closedB (E : List Edg) (l : List Int) : Bool := !(E.any fun e => inB l e.tt && !(inB l e.fr))
end Go.Proofs.YtbkdoohhdkahiaaGreatDoor
namespace Go.Proofs.YtbkdoohhdkahiaaGreatDoor
set_option linter.unusedSimpArgs false
set_option linter.unusedVariables false
open Go.RowKit Go.Sort Go.Shelf Go.Lib Go.Maps
def SetsR (w : World) (v : Value) (ss : List (List Int)) : Prop :=
  ∃ vs : List Value, vs.length = ss.length ∧ Sl w 1 v ss.length vs ∧ ∀ k (h : k < vs.length) (h' : k < ss.length), Sl w 1 vs[k] ss[k].length (ints ss[k])
theorem SetsR.up {w w' : World} {v : Value} {ss : List (List Int)} (h : SetsR w v ss) (hb : RowKit.Below w.heap.size w w') : SetsR w' v ss := by
  obtain ⟨vs, h1, h2, h3⟩ := h
  exact ⟨vs, h1, h2.up hb, fun k hk hk' => (h3 k hk hk').up hb⟩
theorem SetsR.form {w : World} {v : Value} {ss : List (List Int)} (h : SetsR w v ss) : ∃ ao cap, v = .slice ao ss.length cap := let ⟨_, _, h2, _⟩ := h; h2.form
theorem SetsR.nil (w : World) : SetsR w (.slice none 0 0) [] := ⟨[], rfl, Sl.nil _ _, fun k h => absurd h (Nat.not_lt_zero _)⟩
theorem SetsR.open {w : World} {v : Value} {ss : List (List Int)} (h : SetsR w v ss) (h0 : 0 < ss.length) : ∃ b off cap, v = .slice (some ⟨b, off, none⟩) ss.length cap ∧ b < w.heap.size ∧ ∀ k (hk : k < ss.length), ∃ la lc, w.cell? ⟨b, off + k, none⟩ = some (.slice la ss[k].length lc) ∧ Sl w 1 (.slice la ss[k].length lc) ss[k].length (ints ss[k]) := by
  obtain ⟨vs, h1, h2, h3⟩ := h
  obtain ⟨b, off, cap, rfl, hcap, hb, hc⟩ := h2.open h0
  refine ⟨b, off, cap, rfl, hb, fun k hk => ?_⟩
  have h4 := h3 k (by omega) hk
  obtain ⟨la, lc, e⟩ := h4.form
  refine ⟨la, lc, ?_, e ▸ h4⟩
  exact hc k _ (by rw [List.getElem?_eq_getElem (by omega), e])
def SetRight (S : SysD) (L : List Edg) (l : List Int) (u : Nat) : Prop := SetUp S.parts.length l l.length ∧ inB l u = true ∧ closedB (edgesL S) l = true ∧ ∀ x ∈ l, mayB L x u = true
theorem polE_is {S : SysD} {L : List Edg} (h : polE S L = 0) : chkS S = 0 ∧ PolUp S.parts.length L L.length := by
  unfold polE at h
  split at h
  · rename_i h0
    split at h
    · rename_i h1
      exact ⟨h0, polB_is h1⟩
    · omega
  · rename_i h0
    exact absurd h h0
end Go.Proofs.YtbkdoohhdkahiaaGreatDoor

/- pairs, and the closures that are handed on. -/
import Derived.Test.YthpljbbhpbijgaaDoorCe5
namespace Go.Proofs.YthpljbbhpbijgaaDoor
set_option linter.unusedSimpArgs false
set_option linter.unusedVariables false
open Go.RowKit Go.Sort Go.Shelf Go.Lib Go.Maps

def rowP (p : Nat → Nat → Bool) (a : Nat) (m : Nat) : List Edg := ((List.range m).filter fun (b : Nat) => p a b).map fun (b : Nat) => ⟨a, b⟩
def outP (p : Nat → Nat → Bool) (n : Nat) (k : Nat) : List Edg := (List.range k).flatMap fun a => rowP p a n
def pairsL (n : Nat) (p : Nat → Nat → Bool) : List Edg := outP p n n
theorem rowP_step (p : Nat → Nat → Bool) (a m : Nat) : rowP p a (m + 1) = rowP p a m ++ if p a m then [⟨a, m⟩] else [] := by
  unfold rowP
  rw [List.range_succ, List.filter_append, List.map_append]
  congr 1
  by_cases h : p a m = true
  · simp [h]
  · simp [h]
theorem outP_step (p : Nat → Nat → Bool) (n k : Nat) : outP p n (k + 1) = outP p n k ++ rowP p k n := by
  unfold outP
  rw [List.range_succ, List.flatMap_append]
  simp
theorem rowP_len (p : Nat → Nat → Bool) (a m : Nat) : (rowP p a m).length ≤ m := by
  unfold rowP
  rw [List.length_map]
  refine Nat.le_trans (List.length_filter_le _ _) ?_
  simp
theorem outP_len (p : Nat → Nat → Bool) (n : Nat) : ∀ k, (outP p n k).length ≤ k * n
  | 0 => by simp [outP]
  | k + 1 => by
    have := outP_len p n k
    have := rowP_len p k n
    rw [outP_step, List.length_append, Nat.succ_mul]
    omega
theorem pairsL_len (n : Nat) (hn : n ≤ 4) (p : Nat → Nat → Bool) : (pairsL n p).length ≤ 16 := by
  have := outP_len p n n
  have h : n * n ≤ 4 * 4 := Nat.mul_le_mul hn hn
  unfold pairsL
  omega
set_option maxRecDepth 100000 in
set_option maxHeartbeats 8000000 in
theorem pairs_any (n : Nat) (hn : n ≤ 4) (p : Nat → Nat → Bool) (f : Nat) (hen : Enters f) (caps : Array Value) (w : World)
    (hf : ∀ a b : Nat, a < n → b < n → ∀ w1, RowKit.Below w.heap.size w w1 → Calls Tryd.prog f (#[.int .i64 a, .int .i64 b] ++ caps) w1 fun e w2 => e = .returned (.bool (p a b)) ∧ RowKit.Below w1.heap.size w1 w2) :
    Calls Tryd.prog 42 #[.int .i64 (n : Int), .func (.func f) #[] caps] w fun e w' => ∃ v, e = .returned v ∧ Sl w' 2 v (pairsL n p).length (rowC Edg.cells (pairsL n p)) ∧ (∀ b, v.ownBlock = some b → w.heap.size ≤ b ∧ b < w'.heap.size) ∧ RowKit.Below w.heap.size w w' := by
  obtain ⟨i1, hi1, hy0, hy1, hy2⟩ := info_parts infoEdg
  have HF := Lib.hid hf
  clear hf
  unfold Enters at hen
  go_enter Tryd.func42, Tryd.ntmps42
  go_wp2
  go_loopw [9, 5] (fun i l wr => ∃ k : Nat, i = .int .i64 k ∧ k ≤ n ∧ Hid (wr.ownsRow w.heap.size 37 2 l (outP p n k).length (rowC Edg.cells (outP p n k))) ∧ Hid (RowKit.Below w.heap.size w wr)) (fun i _ _ => n - (intOf i).toNat)
  case atStart => exact ⟨0, rfl, Nat.zero_le _, Lib.hid (World.ownsRow_nil _ _ _ _), Lib.hid (RowKit.Below.refl _ _)⟩
  case round =>
    obtain ⟨k, rfl, hk, HO, HT⟩ := hrel
    by_cases hlt : k < n
    · have hli : (k : Int) < n := by omega
      go_wp2
      go_loopw [13, 5] (fun i l wr => ∃ j : Nat, i = .int .i64 j ∧ j ≤ n ∧ Hid (wr.ownsRow w.heap.size 37 2 l (outP p n k ++ rowP p k j).length (rowC Edg.cells (outP p n k ++ rowP p k j))) ∧ Hid (RowKit.Below w.heap.size w wr)) (fun i _ _ => n - (intOf i).toNat)
      case atStart => exact ⟨0, rfl, Nat.zero_le _, by rw [show rowP p k 0 = [] from rfl, List.append_nil]; exact HO, HT⟩
      case round =>
        clear HO HT
        obtain ⟨j, rfl, hj, HO, HT⟩ := hrel
        obtain ⟨a3, c3, hform⟩ := own_form HO.out
        subst hform
        by_cases hjl : j < n
        · have hji : (j : Int) < n := by omega
          have hol := outP_len p n k
          have hrl := rowP_len p k j
          have hkn : k * n ≤ 3 * 4 := Nat.mul_le_mul (by omega) hn
          have hstep := rowP_step p k j
          have HLL : Hid ((outP p n k ++ rowP p k j).length ≤ 16) := Lib.hid (by rw [List.length_append]; omega)
          have HST : Hid (outP p n k ++ rowP p k (j + 1) = (outP p n k ++ rowP p k j) ++ if p k j then [⟨k, j⟩] else []) := Lib.hid (by rw [hstep, List.append_assoc])
          have HC := Lib.hid (HF.out k j hlt hjl)
          generalize outP p n k ++ rowP p k j = L at HO HLL HST
          clear hol hrl hkn hstep
          go_wp2_with fail
          refine (HC.out _ HT.out).mono ?_
          rintro e w2 ⟨rfl, hb2⟩
          have HO2 := Lib.hid (own_upF HO.out hb2)
          have HT2 := Lib.hid (HT.out.trans (hb2.mono HT.out.size))
          clear HO HT hb2 HC
          cases hle : p k j with
          | true =>
            have HST2 := Lib.hid (HST.out.trans (by rw [if_pos hle]))
            clear HST hle
            have hw2 := HT2.out.size
            have HO3 := Lib.hid (HO2.out.alloc (.cells #[.int .i64 k, .int .i64 j] 37))
            go_wp2_with (at_builtin; refine wpList_append_lies _ rfl (.tmp 20) (.tmp 24) 27 rfl w.heap.size 37 i1 _ 2 16 Tryd.underlying27 hi1 hy0 hy1 hy2 rfl (by decide) _ L.length (rowC Edg.cells L) rfl HO3.out ⟨w2.heap.size,0,none⟩ 1 1 [.int .i64 k, .int .i64 j] rfl rfl (new_rangeE _ _ _ _ rfl) (two_one _ _) (by decide) (by have := HLL.out; unfold maxLen; omega) (by have := HLL.out; omega) (by simp; omega) _ rfl ?_)
            intro g4 cap4 W4 hown hgrow hat hg4
            have HO4 : Hid (W4.ownsRow w.heap.size 37 2 (.slice (some ⟨g4, 0, none⟩) (L.length + 1) cap4) (L ++ [(⟨k, j⟩ : Edg)]).length (rowC Edg.cells (L ++ [(⟨k, j⟩ : Edg)]))) := Lib.hid (by rw [rowE_snoc, List.length_append]; exact hown)
            have HT4 := Lib.hid ((HT2.out.alloc hw2 _).grown hgrow (by simp; omega) (fun q e => by have := own_block HO3.out q e; omega))
            clear hown hgrow hat HO2 HO3 HT2
            go_wp2
            go_roundw
            case rel => exact ⟨j + 1, by go_num, by omega, by rw [HST2.out]; exact HO4, HT4⟩
            case measure => simp [intOf]; omega
          | false =>
            have HST2 := Lib.hid (HST.out.trans (by rw [hle]; simp) : _ = L)
            clear HST hle
            go_wp2
            go_roundw
            case rel => exact ⟨j + 1, by go_num, by omega, by rw [HST2.out]; exact HO2, HT2⟩
            case measure => simp [intOf]; omega
        · have hji : ¬ (j : Int) < n := by omega
          have hje : j = n := by omega
          go_wp2
          go_roundw
          case rel => exact ⟨k + 1, by go_num, by omega, by rw [outP_step, ← hje]; rw [← hje] at HO; exact HO, HT⟩
          case measure => simp [intOf]; omega
    · have hli : ¬ (k : Int) < n := by omega
      have hke : k = n := by omega
      subst hke
      go_wp2
      go_ret
      exact ⟨_, rfl, own_sl HO.out, fun b e => ⟨own_block HO.out b e, (HO.out.lt b e).2⟩, HT.out⟩
theorem ent_reachers1 : Enters 70 := enters Tryd.func70 (by kernel_rfl) (by kernel_rfl)
theorem ent_certify1 : Enters 43 := enters Tryd.func43 (by kernel_rfl) (by kernel_rfl)
theorem ent_closed1 : Enters 75 := enters Tryd.func75 (by kernel_rfl) (by kernel_rfl)
theorem ent_verify1 : Enters 54 := enters Tryd.func54 (by kernel_rfl) (by kernel_rfl)
set_option maxHeartbeats 1000000 in
theorem reachers1_any (n a b g : Nat) (ha : a < n) (hb : b < n) (F : Nat → Nat → Bool) (vm : Value) (w : World) (hg : w.cell? ⟨g, 0, none⟩ = some vm) (hM : TabR w vm F n n) :
    Calls Tryd.prog 70 #[.int .i64 (a : Int), .int .i64 (b : Int), .pointer (some ⟨g, 0, none⟩)] w fun e w' => e = .returned (.bool (F a b)) ∧ w' = w := by
  obtain ⟨mb, mo, mc, rfl, hmc, hmb, hrows⟩ := hM.row (by omega) (by omega)
  obtain ⟨rb, ro, rc, hm0, hrc, hrb, hr⟩ := hrows a ha
  have hm1 := hr b hb
  have hai : (a : Int) < n := by omega
  have hbi : (b : Int) < n := by omega
  clear hrows hr hM
  go_enter Tryd.func70, Tryd.ntmps70
  go_wp2
  go_ret
  exact ⟨rfl, rfl⟩
set_option maxHeartbeats 1000000 in
theorem certify1_any (n a b g g2 sb sn : Nat) (hn : n ≤ 4) (ha : a < n) (hb : b < n) (F : Nat → Nat → Bool) (L : List Edg) (vm : Value) (w : World) (hg : w.cell? ⟨g, 0, none⟩ = some vm) (hg2 : w.cell? ⟨g2, 0, none⟩ = some (.map (some sb))) (hM : TabR w vm F n n) (hSy : SaysM w sb sn (selfL n ++ L)) :
    Calls Tryd.prog 43 #[.int .i64 (a : Int), .int .i64 (b : Int), .pointer (some ⟨g, 0, none⟩), .pointer (some ⟨g2, 0, none⟩)] w fun e w' => e = .returned (.bool (F a b && !(mayB L a b))) ∧ RowKit.Below w.heap.size w w' := by
  obtain ⟨mb, mo, mc, rfl, hmc, hmb, hrows⟩ := hM.row (by omega) (by omega)
  obtain ⟨rb, ro, rc, hm0, hrc, hrb, hr⟩ := hrows a ha
  have hm1 := hr b hb
  have hai : (a : Int) < n := by omega
  have hbi : (b : Int) < n := by omega
  have HSY := Lib.hid hSy
  have we : (⟨a, b⟩ : Edg).wf := ⟨wf_small (by simp) (by simp; omega), wf_small (by simp) (by simp; omega)⟩
  have HMY := Lib.hid (allowed_has (n := n) (L := L) (a := a) (b := b) (by omega))
  clear hrows hr hM hSy
  cases hF : F a b with
  | false =>
    rw [hF] at hm1
    go_enter Tryd.func43, Tryd.ntmps43
    go_wp2
    go_ret
    exact ⟨rfl, RowKit.Below.refl _ _⟩
  | true =>
    rw [hF] at hm1
    go_enter Tryd.func43, Tryd.ntmps43
    go_wp2_with fail
    refine (saysHas_any sb sn (selfL n ++ L) ⟨a, b⟩ we _ HSY.out).mono ?_
    rw [HMY.out]
    rintro e w1 ⟨rfl, bb⟩
    have D := Lib.hid bb
    clear bb
    cases hmy : mayB L a b
    all_goals
      go_wp2
      go_ret
      exact ⟨ret_bool (by rw [hmy]; rfl), D.out⟩
set_option maxHeartbeats 1000000 in
theorem closed1_any (e : Edg) (l : List Int) (hl : l.length < 4294967281) (g : Nat) (vl : Value) (w : World) (hg : w.cell? ⟨g, 0, none⟩ = some vl) (hgl : g < w.heap.size) (hS : Sl w 1 vl l.length (ints l)) :
    Calls Tryd.prog 75 #[e.v, .pointer (some ⟨g, 0, none⟩)] w fun r w' => r = .returned (.bool (inB l e.tt && !(inB l e.fr))) ∧ RowKit.Below w.heap.size w w' := by
  obtain ⟨ef, et⟩ := e
  unfold Edg.v
  simp only
  obtain ⟨la, lc, rfl⟩ := hS.form
  have HS := Lib.hid hS
  clear hS
  have hg1 := cl_alloc (.cells #[.int .i64 ef, .int .i64 et] 37) hgl hg
  go_enter Tryd.func75, Tryd.ntmps75
  go_wp2_with fail
  refine (slContains_any l et _ _ (HS.out.up ((RowKit.Below.refl _ _).alloc (Nat.le_refl _) _)) hl).mono ?_
  rintro r w1 ⟨rfl, rfl⟩
  cases ht : inB l et with
  | false =>
    go_wp2
    go_ret
    exact ⟨ret_bool (by rw [ht]; rfl), (by repeat (first | exact Below.refl _ _ | assumption | refine Below.drew ?_ | refine Below.alloc ?_ (by first | (simp; done) | (simp; omega)) _ | refine Below.setCell ?_ (by first | (simp; done) | (simp; omega)) _))⟩
  | true =>
    go_wp2_with fail
    refine (slContains_any l ef _ _ (HS.out.up ((RowKit.Below.refl _ _).alloc (Nat.le_refl _) _)) hl).mono ?_
    rintro r w1 ⟨rfl, rfl⟩
    cases hf : inB l ef
    all_goals
      go_wp2
      go_ret
      exact ⟨ret_bool (by rw [ht, hf]; rfl), (by repeat (first | exact Below.refl _ _ | assumption | refine Below.drew ?_ | refine Below.alloc ?_ (by first | (simp; done) | (simp; omega)) _ | refine Below.setCell ?_ (by first | (simp; done) | (simp; omega)) _))⟩
def closedB (E : List Edg) (l : List Int) : Bool := !(E.any fun e => inB l e.tt && !(inB l e.fr))
set_option maxHeartbeats 1000000 in
theorem closed_any (E : List Edg) (hE : E.length < 4294967281) (l : List Int) (hl : l.length < 4294967281) (ve vl : Value) (w : World) (hSE : Sl w 2 ve E.length (rowC Edg.cells E)) (hS : Sl w 1 vl l.length (ints l)) :
    Calls Tryd.prog 52 #[ve, vl] w fun r w' => r = .returned (.bool (closedB E l)) ∧ RowKit.Below w.heap.size w w' := by
  obtain ⟨la, lc, rfl⟩ := hS.form
  obtain ⟨ea, ec, rfl⟩ := hSE.form
  have HS := Lib.hid hS
  have HE := Lib.hid hSE
  clear hS hSE
  go_enter Tryd.func52, Tryd.ntmps52
  go_wp2_with fail
  refine (slContE_any E _ 75 ent_closed1 #[.pointer (some ⟨w.heap.size, 0, none⟩)] (fun e => inB l e.tt && !(inB l e.fr)) _ (HE.out.up ((RowKit.Below.refl _ _).alloc (Nat.le_refl _) _)) hE (fun k hk w1 hb => closed1_any E[k] l hl w.heap.size _ w1 (bcl hb (by simp) (by simp)) (Nat.lt_of_lt_of_le (by simp) hb.size) ((HS.out.up ((RowKit.Below.refl _ _).alloc (Nat.le_refl _) _)).up hb))).mono ?_
  rintro r w1 ⟨rfl, bb⟩
  have D := Lib.hid (RowKit.Below.trans (show RowKit.Below w.heap.size w _ from (by repeat (first | exact Below.refl _ _ | assumption | refine Below.drew ?_ | refine Below.alloc ?_ (by first | (simp; done) | (simp; omega)) _ | refine Below.setCell ?_ (by first | (simp; done) | (simp; omega)) _))) (bb.mono (by simp)))
  clear bb
  go_wp2
  go_ret
  exact ⟨rfl, D.out⟩
set_option maxHeartbeats 1000000 in
theorem verify1_any (n sb sn g g2 : Nat) (hn : n ≤ 4) (L : List Edg) (x : Int) (hx : 0 ≤ x ∧ x < n) (me : Nat) (hme : me < n) (w : World) (hg : w.cell? ⟨g, 0, none⟩ = some (.map (some sb))) (hg2 : w.cell? ⟨g2, 0, none⟩ = some (.int .i64 (me : Int))) (hSy : SaysM w sb sn (selfL n ++ L)) :
    Calls Tryd.prog 54 #[.int .i64 x, .pointer (some ⟨g, 0, none⟩), .pointer (some ⟨g2, 0, none⟩)] w fun r w' => r = .returned (.bool (!(mayB L x me))) ∧ RowKit.Below w.heap.size w w' := by
  have HSY := Lib.hid hSy
  have we : (⟨x, me⟩ : Edg).wf := ⟨wf_small hx.1 (by simp; omega), wf_small (by simp) (by simp; omega)⟩
  have HMY := Lib.hid (allowed_has (n := n) (L := L) (a := x) (b := me) hx)
  clear hSy
  go_enter Tryd.func54, Tryd.ntmps54
  go_wp2_with fail
  refine (saysHas_any sb sn (selfL n ++ L) ⟨x, me⟩ we _ HSY.out).mono ?_
  rw [HMY.out]
  rintro e w1 ⟨rfl, bb⟩
  have D := Lib.hid bb
  clear bb
  go_wp2
  go_ret
  exact ⟨rfl, D.out⟩
end Go.Proofs.YthpljbbhpbijgaaDoor

namespace Go.Proofs.YthpljbbhpbijgaaDoor
set_option linter.unusedSimpArgs false
set_option linter.unusedVariables false
open Go.RowKit Go.Sort Go.Shelf Go.Lib Go.Maps

/-- Rows of numbers that are read. -/
def SetsR (w : World) (v : Value) (ss : List (List Int)) : Prop :=
  ∃ vs : List Value, vs.length = ss.length ∧ Sl w 1 v ss.length vs ∧ ∀ k (h : k < vs.length) (h' : k < ss.length), Sl w 1 vs[k] ss[k].length (ints ss[k])
theorem SetsR.up {w w' : World} {v : Value} {ss : List (List Int)} (h : SetsR w v ss) (hb : RowKit.Below w.heap.size w w') : SetsR w' v ss := by
  obtain ⟨vs, h1, h2, h3⟩ := h
  exact ⟨vs, h1, h2.up hb, fun k hk hk' => (h3 k hk hk').up hb⟩
theorem SetsR.form {w : World} {v : Value} {ss : List (List Int)} (h : SetsR w v ss) : ∃ ao cap, v = .slice ao ss.length cap := let ⟨_, _, h2, _⟩ := h; h2.form
theorem SetsR.nil (w : World) : SetsR w (.slice none 0 0) [] := ⟨[], rfl, Sl.nil _ _, fun k h => absurd h (Nat.not_lt_zero _)⟩
theorem SetsR.open {w : World} {v : Value} {ss : List (List Int)} (h : SetsR w v ss) (h0 : 0 < ss.length) : ∃ b off cap, v = .slice (some ⟨b, off, none⟩) ss.length cap ∧ b < w.heap.size ∧ ∀ k (hk : k < ss.length), ∃ la lc, w.cell? ⟨b, off + k, none⟩ = some (.slice la ss[k].length lc) ∧ Sl w 1 (.slice la ss[k].length lc) ss[k].length (ints ss[k]) := by
  obtain ⟨vs, h1, h2, h3⟩ := h
  obtain ⟨b, off, cap, rfl, hcap, hb, hc⟩ := h2.open h0
  refine ⟨b, off, cap, rfl, hb, fun k hk => ?_⟩
  have h4 := h3 k (by omega) hk
  obtain ⟨la, lc, e⟩ := h4.form
  refine ⟨la, lc, ?_, e ▸ h4⟩
  exact hc k _ (by rw [List.getElem?_eq_getElem (by omega), e])
def SetRight (S : SysD) (L : List Edg) (l : List Int) (u : Nat) : Prop := SetUp S.parts.length l l.length ∧ inB l u = true ∧ closedB (edgesL S) l = true ∧ ∀ x ∈ l, mayB L x u = true
def CertRight (S : SysD) (L : List Edg) (ss : List (List Int)) : Prop := ss.length = S.parts.length ∧ ∀ u (h : u < ss.length), SetRight S L ss[u] u
noncomputable def verB (S : SysD) (L : List Edg) (ss : List (List Int)) : Bool := @decide (CertRight S L ss) (Classical.propDecidable _)
theorem verB_true {S : SysD} {L : List Edg} {ss : List (List Int)} (h : CertRight S L ss) : verB S L ss = true := by unfold verB; simpa using h
theorem verB_is {S : SysD} {L : List Edg} {ss : List (List Int)} (h : verB S L ss = true) : CertRight S L ss := by unfold verB at h; simpa using h
theorem verB_false {S : SysD} {L : List Edg} {ss : List (List Int)} (h : ¬ CertRight S L ss) : verB S L ss = false := by unfold verB; simpa using h
theorem verB_bad {S : SysD} {L : List Edg} {ss : List (List Int)} {u : Nat} (hu : u < ss.length) (h : ¬ SetRight S L ss[u] u) : verB S L ss = false := verB_false (fun hh => h (hh.2 u hu))
/-- What Verify answers. -/
noncomputable def verQ (S : SysD) (L : List Edg) (ss : List (List Int)) : Bool := if polE S L = 0 then verB S L ss else false
theorem polE_is {S : SysD} {L : List Edg} (h : polE S L = 0) : chkS S = 0 ∧ PolUp S.parts.length L L.length := by
  unfold polE at h
  split at h
  · rename_i h0
    split at h
    · rename_i h1
      exact ⟨h0, polB_is h1⟩
    · omega
  · rename_i h0
    exact absurd h h0
set_option maxRecDepth 100000 in
set_option maxHeartbeats 8000000 in
theorem ceVerify_any (S : SysD) (L : List Edg) (ss : List (List Int)) (vp vc vs vL vC : Value) (w : World) (he : Env w) (hS : Sys w vp vc vs S) (hL : Sl w 2 vL L.length (rowC Edg.cells L)) (hC : SetsR w vC ss) :
    Calls Tryd.prog 26 #[.agg #[vp, vc, vs], .agg #[vL], .agg #[vC]] w fun e w' => e = .returned (.tuple #[.bool (verQ S L ss), .int .i64 (polE S L)]) ∧ RowKit.Below w.heap.size w w' := by
  generalize hv : verQ S L ss = vq
  generalize hc : polE S L = c
  unfold verQ at hv
  rw [hc] at hv
  obtain ⟨pa, pc, rfl⟩ := hS.p.form
  obtain ⟨ca, cc, rfl⟩ := hS.c.form
  obtain ⟨sa, sc, rfl⟩ := hS.s.form
  obtain ⟨la, lc, rfl⟩ := hL.form
  obtain ⟨ta, tc, rfl⟩ := hC.form
  have HS := Lib.hid hS
  have HC := Lib.hid hc
  have HL := Lib.hid hL
  have HCS := Lib.hid hC
  clear hS hc hL hC
  go_enter Tryd.func26, Tryd.ntmps26
  go_wp2_with fail
  refine (ceCheck_any S L _ _ _ _ _ (he.up (by repeat (first | exact Below.refl _ _ | assumption | refine Below.drew ?_ | refine Below.alloc ?_ (by first | (simp; done) | (simp; omega)) _ | refine Below.setCell ?_ (by first | (simp; done) | (simp; omega)) _))) (HS.out.up (by repeat (first | exact Below.refl _ _ | assumption | refine Below.drew ?_ | refine Below.alloc ?_ (by first | (simp; done) | (simp; omega)) _ | refine Below.setCell ?_ (by first | (simp; done) | (simp; omega)) _))) (HL.out.up (by repeat (first | exact Below.refl _ _ | assumption | refine Below.drew ?_ | refine Below.alloc ?_ (by first | (simp; done) | (simp; omega)) _ | refine Below.setCell ?_ (by first | (simp; done) | (simp; omega)) _)))).mono ?_
  rw [HC.out]
  rintro e w1 ⟨rfl, bb⟩
  have HB := Lib.hid (((box_new w (.slice pa S.parts.length pc) (.slice ca S.chans.length cc) (.slice sa S.slots.length sc) 26 _ rfl).up (((RowKit.Below.refl _ _).alloc (Nat.le_refl _) (.cells #[.slice la L.length lc] 52)).alloc (by simp) (.cells #[.slice ta ss.length tc] 55))).up bb)
  have b3 : RowKit.Below ((w.alloc (.cells #[.slice pa S.parts.length pc, .slice ca S.chans.length cc, .slice sa S.slots.length sc] 26)).alloc (.cells #[.slice la L.length lc] 52)).heap.size ((w.alloc (.cells #[.slice pa S.parts.length pc, .slice ca S.chans.length cc, .slice sa S.slots.length sc] 26)).alloc (.cells #[.slice la L.length lc] 52)) w1 := RowKit.Below.trans ((RowKit.Below.refl _ _).alloc (Nat.le_refl _) _) (bb.mono (by simp))
  have k3 : w1.cell? ⟨w.heap.size + 1, 0, none⟩ = some (.slice la L.length lc) := bcl b3 (by simp) (by simp)
  clear b3
  have k4 : w1.cell? ⟨w.heap.size + 1 + 1, 0, none⟩ = some (.slice ta ss.length tc) := bcl bb (by simp) ((Rw.new _ _ _ (by simp)).cell (j := 0) rfl)
  have hw1 : w.heap.size + 2 < w1.heap.size := by have := bb.size; simp at this; omega
  have D := Lib.hid (RowKit.Below.trans (show RowKit.Below w.heap.size w _ from (by repeat (first | exact Below.refl _ _ | assumption | refine Below.drew ?_ | refine Below.alloc ?_ (by first | (simp; done) | (simp; omega)) _ | refine Below.setCell ?_ (by first | (simp; done) | (simp; omega)) _))) (bb.mono (by simp; omega)))
  clear bb
  by_cases h0 : c = 0
  · subst h0
    rw [if_pos rfl] at hv
    have HV := Lib.hid hv
    clear hv
    obtain ⟨hch, hpu⟩ := polE_is HC.out
    obtain ⟨h4, h1, hcl, _⟩ := chk_flow hch
    have hLl := polUp_len h4 hpu (Nat.le_refl _)
    have HCH := Lib.hid hch
    have HPU := Lib.hid hpu
    clear hch hpu
    have k0 := HB.out.p
    have k1 := HB.out.c
    have k2 := HB.out.s
    by_cases hsl : ss.length = S.parts.length
    · have hsl' : ((ss.length : Int) != (S.parts.length : Int)) = false := by simp; omega
      have HSL := Lib.hid hsl
      clear hsl
      go_wp2_with fail
      refine (flEdges_any S _ _ _ _ (he.up D.out) (HS.out.up D.out)).mono ?_
      rw [HCH.out, show edgesQ S = edgesL S by unfold edgesQ; rw [if_pos HCH.out]]
      rintro e w2 ⟨ve, rfl, hse, bb⟩
      have HSE := Lib.hid hse
      have HB2 := Lib.hid (HB.out.up bb)
      have k3b := bcl bb (by omega) k3
      have k4b := bcl bb (by omega) k4
      have hw2 : w.heap.size + 2 < w2.heap.size := by have := bb.size; omega
      have D2 := Lib.hid (D.out.trans (bb.mono D.out.size))
      clear bb hse HB k0 k1 k2 k3 k4 hw1 D
      have k0 := HB2.out.p
      go_wp2_with fail
      refine (allowed_any S.parts.length h4 L hLl (fun e he => polUp_wf h4 HPU.out he) _ _ (HL.out.up D2.out)).mono ?_
      rintro e w3 ⟨sb, rfl, ⟨sn, hsy⟩, bb⟩
      have HSY := Lib.hid hsy
      have HSE3 := Lib.hid (HSE.out.up bb)
      have HB3 := Lib.hid (HB2.out.up bb)
      have k4c := bcl bb (by omega) k4b
      have hw3 : w.heap.size + 2 < w3.heap.size := by have := bb.size; omega
      have D3 := Lib.hid (D2.out.trans (bb.mono D2.out.size))
      clear bb hsy HB2 HSE k0 k3b k4b hw2 D2
      have k4d := cl_alloc (.cells #[.map (some sb)] 83) (show (⟨w.heap.size + 1 + 1, 0, none⟩ : Addr).block < w3.heap.size by show w.heap.size + 1 + 1 < _; omega) k4c
      go_wp2
      go_loopw [40] (fun i wr => ∃ k : Nat, i = .int .i64 k ∧ k ≤ ss.length ∧ Hid (∀ u (h : u < ss.length), u < k → SetRight S L ss[u] u) ∧ wr.cell? ⟨w3.heap.size, 0, none⟩ = some (.map (some sb)) ∧ w3.heap.size < wr.heap.size ∧ Hid (RowKit.Below w3.heap.size w3 wr)) (fun i _ => ss.length - (intOf i).toNat)
      case atStart => exact ⟨0, rfl, Nat.zero_le _, Lib.hid (fun u _ h => by omega), by simp, by simp, (by repeat (first | exact Below.refl _ _ | assumption | refine Below.drew ?_ | refine Below.alloc ?_ (by first | (simp; done) | (simp; omega)) _ | refine Below.setCell ?_ (by first | (simp; done) | (simp; omega)) _))⟩
      case round =>
        clear k4d k4c
        obtain ⟨k, rfl, hk, HP, hmp, hws, HT⟩ := hrel
        by_cases hlt : k < ss.length
        · have hli : (k : Int) < ss.length := by omega
          have hkn : k < S.parts.length := by have := HSL.out; omega
          have HBB := Lib.hid (HB3.out.up HT.out)
          have k0 := HBB.out.p
          obtain ⟨tb, tof, tcap, e1, htb, hts⟩ := (HCS.out.up (D3.out.trans (HT.out.mono D3.out.size))).open (by omega)
          cases e1
          obtain ⟨xa, xc, hx0, hxs⟩ := hts k hlt
          have HXS := Lib.hid hxs
          have HBAD := Lib.hid (fun h => HV.out.symm.trans (verB_bad (S := S) (L := L) hlt h))
          have HST : Hid (SetRight S L ss[k] k → ∀ u (h : u < ss.length), u < k + 1 → SetRight S L ss[u] u) := Lib.hid (fun hr u hu huk => by
            by_cases e : u = k
            · subst e; exact hr
            · exact HP.out u hu (by omega))
          clear hts hxs
          generalize ss[k] = l at hx0 HXS HBAD HST
          have k0a := cl_alloc (.cells #[.int .i64 (k : Int)] 3) (show (⟨w.heap.size, 0, none⟩ : Addr).block < wr.heap.size by show w.heap.size < _; have := HT.out.size; omega) k0
          have HT1 : Hid (RowKit.Below w3.heap.size w3 (wr.alloc (.cells #[.int .i64 (k : Int)] 3))) := Lib.hid (HT.out.alloc HT.out.size _)
          have HXS1 := Lib.hid (HXS.out.up ((RowKit.Below.refl _ _).alloc (Nat.le_refl _) (.cells #[.int .i64 (k : Int)] 3)))
          go_wp2_with fail
          refine (isSet_any S.parts.length h4 l _ _ HXS1.out).mono ?_
          rintro e W1 ⟨rfl, rfl⟩
          cases hset : setB S.parts.length l with
          | false =>
            have HB1 := Lib.hid (HBAD.out (fun h => by rw [setB_true h.1] at hset; cases hset))
            go_wp2
            go_ret2
            exact ⟨by rw [HB1.out]; rfl, D3.out.trans (HT1.out.mono D3.out.size)⟩
          | true =>
          have hup := setB_is hset
          have hl4 := setUp_len hup (Nat.le_refl _)
          have HUP := Lib.hid hup
          clear hup
          go_wp2_with fail
          refine (slContains_any l k _ _ HXS1.out (by omega)).mono ?_
          rintro e W1 ⟨rfl, rfl⟩
          cases hin : inB l k with
          | false =>
            have HB1 := Lib.hid (HBAD.out (fun h => by have := h.2.1; rw [hin] at this; cases this))
            go_wp2
            go_ret2
            exact ⟨by rw [HB1.out]; rfl, D3.out.trans (HT1.out.mono D3.out.size)⟩
          | true =>
          have hE16 : (edgesL S).length ≤ 16 := by
            have := outL_len S S.parts.length S.parts.length
            have h2 : S.parts.length * S.parts.length ≤ 4 * 4 := Nat.mul_le_mul h4 h4
            unfold edgesL
            omega
          have c12 : (wr.alloc (.cells #[.int .i64 (k : Int)] 3)).cell? ⟨wr.heap.size, 0, none⟩ = some (.int .i64 (k : Int)) := by simp
          have cmp := cl_alloc (.cells #[.int .i64 (k : Int)] 3) (show (⟨w3.heap.size, 0, none⟩ : Addr).block < wr.heap.size from hws) hmp
          have hX1 : wr.heap.size < (wr.alloc (.cells #[.int .i64 (k : Int)] 3)).heap.size := by simp
          obtain ⟨ea, ec, hef⟩ := HSE3.out.form
          subst hef
          generalize wr.alloc (.cells #[.int .i64 (k : Int)] 3) = X at HT1 HXS1 c12 cmp k0a hX1 ⊢
          go_wp2_with fail
          refine (closed_any (edgesL S) (by omega) l (by omega) _ _ _ (HSE3.out.up HT1.out) HXS1.out).mono ?_
          rintro e W2 ⟨rfl, bb⟩
          have HT2 := Lib.hid (HT1.out.trans (bb.mono HT1.out.size))
          have HXS2 := Lib.hid (HXS1.out.up bb)
          have c12b := bcl bb hX1 c12
          have cmpb := bcl bb (by show w3.heap.size < X.heap.size; omega) cmp
          have hX2 : wr.heap.size < W2.heap.size := by have := bb.size; omega
          clear bb HT1 HXS1 c12 cmp hX1 k0a
          cases hcl : closedB (edgesL S) l with
          | false =>
            have HB1 := Lib.hid (HBAD.out (fun h => by have := h.2.2.1; rw [hcl] at this; cases this))
            go_wp2
            go_ret2
            exact ⟨by rw [HB1.out]; rfl, D3.out.trans (HT2.out.mono D3.out.size)⟩
          | true =>
          have HSY2 := Lib.hid (HSY.out.up HT2.out)
          have hsz3 := HT2.out.size
          go_wp2_with fail
          refine (slContF_any l _ 54 ent_verify1 #[.pointer (some ⟨w3.heap.size, 0, none⟩), .pointer (some ⟨wr.heap.size, 0, none⟩)] (fun x => !(mayB L x k)) _ HXS2.out (by omega) (fun j hj V hb => verify1_any S.parts.length sb sn _ _ h4 L l[j] (by have := (HUP.out j hj hj).1; unfold withinB at this; simp at this; omega) k hkn V (bcl hb (by show w3.heap.size < W2.heap.size; omega) cmpb) (bcl hb hX2 c12b) (HSY2.out.up hb))).mono ?_
          rintro e W3 ⟨rfl, bb⟩
          have HT3 := Lib.hid (HT2.out.trans (bb.mono HT2.out.size))
          have cmpc := bcl bb (by show w3.heap.size < W2.heap.size; omega) cmpb
          have hX3 : w3.heap.size < W3.heap.size := by have := bb.size; omega
          clear bb HT2 HXS2 c12b cmpb HSY2
          cases hmy : l.any (fun x => !(mayB L x k)) with
          | true =>
            have HB1 := Lib.hid (HBAD.out (fun h => by
              obtain ⟨x, hx, hm⟩ := List.any_eq_true.1 hmy
              rw [h.2.2.2 x hx] at hm
              cases hm))
            go_wp2
            go_ret2
            exact ⟨by rw [HB1.out]; rfl, D3.out.trans (HT3.out.mono D3.out.size)⟩
          | false =>
            have HG := Lib.hid (HST.out ⟨HUP.out, hin, hcl, fun x hx => by
              rw [List.any_eq_false] at hmy
              have := hmy x hx
              simpa using this⟩)
            clear HST HBAD
            go_wp2
            go_roundw
            case rel => exact ⟨k + 1, by go_num, by omega, HG, cmpc, hX3, HT3⟩
            case measure => simp [intOf]; omega
        · have hli : ¬ (k : Int) < ss.length := by omega
          have HG := Lib.hid (HV.out.symm.trans (verB_true ⟨HSL.out, fun u hu => HP.out u hu (by omega)⟩))
          go_wp2
          go_ret2
          exact ⟨by rw [HG.out]; rfl, D3.out.trans (HT.out.mono D3.out.size)⟩
    · have hsl' : ((ss.length : Int) != (S.parts.length : Int)) = true := by simp; omega
      have HG := Lib.hid (HV.out.symm.trans (verB_false (fun h => hsl h.1)))
      clear hsl
      go_wp2
      go_ret2
      exact ⟨by rw [HG.out]; rfl, D.out⟩
  · have h0' : (c != 0) = true := by simpa using h0
    rw [if_neg h0] at hv
    subst hv
    clear h0
    go_wp2
    go_ret2
    exact ⟨rfl, D.out⟩
end Go.Proofs.YthpljbbhpbijgaaDoor

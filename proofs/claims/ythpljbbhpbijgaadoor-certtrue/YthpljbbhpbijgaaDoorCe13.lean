/- The same certificates; what CertifyOf gathers. -/
import Derived.Test.YthpljbbhpbijgaaDoorJy
namespace Go.Proofs.YthpljbbhpbijgaaDoor
set_option linter.unusedSimpArgs false
set_option linter.unusedVariables false
open Go.RowKit Go.Sort Go.Shelf Go.Lib Go.Maps

theorem ent_sameInts : Enters 18 := enters Tryd.func18 (by kernel_rfl) (by kernel_rfl)
set_option maxRecDepth 100000 in
set_option maxHeartbeats 8000000 in
theorem sameCerts_yes (ss : List (List Int)) (hsl : ss.length ≤ 100) (hss : ∀ l ∈ ss, l.length < 4294967281) (va vb : Value) (w : World) (hA : SetsR w va ss) (hB : SetsR w vb ss) :
    Calls Tryd.prog 25 #[.agg #[va], .agg #[vb]] w fun e w' => e = .returned (.bool true) ∧ RowKit.Below w.heap.size w w' := by
  obtain ⟨aa, ac, rfl⟩ := hA.form
  obtain ⟨ba, bc, rfl⟩ := hB.form
  have HSS := Lib.hid hss
  clear hss
  go_enter Tryd.func25, Tryd.ntmps25
  go_upto_region 1 with fail
  have y0 : ((w.alloc (.cells #[.slice aa ss.length ac] 55)).alloc (.cells #[.slice ba ss.length bc] 55)).cell? ⟨w.heap.size, 0, none⟩ = some (.slice aa ss.length ac) := bcl ((RowKit.Below.refl _ _).alloc (Nat.le_refl _) _) (by simp) (by simp)
  have y1 : ((w.alloc (.cells #[.slice aa ss.length ac] 55)).alloc (.cells #[.slice ba ss.length bc] 55)).cell? ⟨w.heap.size + 1, 0, none⟩ = some (.slice ba ss.length bc) := (Rw.new _ _ _ (by simp)).cell (j := 0) rfl
  have hw0 : w.heap.size + 1 < ((w.alloc (.cells #[.slice aa ss.length ac] 55)).alloc (.cells #[.slice ba ss.length bc] 55)).heap.size := by simp
  have D0 : Hid (RowKit.Below w.heap.size w ((w.alloc (.cells #[.slice aa ss.length ac] 55)).alloc (.cells #[.slice ba ss.length bc] 55))) := Lib.hid (by repeat (first | exact Below.refl _ _ | assumption | refine Below.drew ?_ | refine Below.alloc ?_ (by first | (simp; done) | (simp; omega)) _ | refine Below.setCell ?_ (by first | (simp; done) | (simp; omega)) _))
  generalize ((w.alloc (.cells #[.slice aa ss.length ac] 55)).alloc (.cells #[.slice ba ss.length bc] 55)) = W0 at y0 y1 hw0 D0 ⊢
  have HA := Lib.hid (hA.up D0.out)
  have HB := Lib.hid (hB.up D0.out)
  have HY0 := Lib.hid y0
  have HY1 := Lib.hid y1
  clear hA hB
  go_wp2
  clear y0 y1
  go_loopw [5] (fun i wr => ∃ k : Nat, i = .int .i64 k ∧ k ≤ ss.length ∧ Hid (RowKit.Below W0.heap.size W0 wr)) (fun i _ => ss.length - (intOf i).toNat)
  case atStart => exact ⟨0, rfl, Nat.zero_le _, Lib.hid (RowKit.Below.refl _ _)⟩
  case round =>
    obtain ⟨k, rfl, hk, HT⟩ := hrel
    have hws := HT.out.size
    have c0 := bcl HT.out (by show w.heap.size < _; omega) HY0.out
    have c1 := bcl HT.out (by show w.heap.size + 1 < _; omega) HY1.out
    by_cases hlt : k < ss.length
    · have hli : (k : Int) < ss.length := by omega
      obtain ⟨ab, ao, acap, e1, hab, hat⟩ := (HA.out.up HT.out).open (by omega)
      cases e1
      obtain ⟨xa, xc, hx0, hxs⟩ := hat k hlt
      obtain ⟨bb, bo, bcap, e2, hbb, hbt⟩ := (HB.out.up HT.out).open (by omega)
      cases e2
      obtain ⟨ya, yc, hy0, hys⟩ := hbt k hlt
      have HX := Lib.hid hxs
      have HY := Lib.hid hys
      have hll := HSS.out _ (List.getElem_mem hlt)
      clear hat hbt hxs hys
      generalize ss[k] = l at hx0 hy0 HX HY hll
      go_upto_region 6 with fail
      refine region_still (S := fun w' => w'.cell? ⟨w.heap.size, 0, none⟩ = some (.slice (some ⟨ab, ao, none⟩) ss.length ac) ∧ w'.cell? ⟨w.heap.size + 1, 0, none⟩ = some (.slice (some ⟨bb, bo, none⟩) ss.length bc) ∧ w'.cell? ⟨ab, ao + k, none⟩ = some (.slice xa l.length xc) ∧ w'.cell? ⟨bb, bo + k, none⟩ = some (.slice ya l.length yc)) 11 (by kernel_rfl) ⟨c0, c1, hx0, hy0⟩ (fun hHeld => ?_)
      refine Still.takeBy (i := 0) [10, 4, 3, 1] (v := ?v1) (by kernel_rfl) (by kernel_rfl) rfl (by kernel_rfl) (by kernel_rfl) (by kernel_rfl) (fun _ _ _ h => h) (Or.inl ⟨by rfl, ?y1⟩) hHeld ?r1
      case y1 => (intro w' hSw; (try dsimp only at hSw); obtain ⟨q0, q1, q2, q3⟩ := hSw; go_simp; try with_reducible rfl)
      simp only [Act.put, List.getElem_toArray, List.getElem_cons_zero, List.getElem_cons_succ, List.setIfInBounds_toArray, List.set_cons_zero, List.set_cons_succ]
      refine Still.takeBy (i := 1) [10, 4, 3] (v := ?v2) (by kernel_rfl) (by kernel_rfl) rfl (by kernel_rfl) (by kernel_rfl) (by kernel_rfl) (fun _ _ _ h => h) (Or.inl ⟨by rfl, ?y2⟩) hHeld ?r2
      case y2 => (intro w' hSw; (try dsimp only at hSw); obtain ⟨q0, q1, q2, q3⟩ := hSw; go_simp; try with_reducible rfl)
      simp only [Act.put, List.getElem_toArray, List.getElem_cons_zero, List.getElem_cons_succ, List.setIfInBounds_toArray, List.set_cons_zero, List.set_cons_succ]
      refine Still.takeBy (i := 2) [10, 4, 3] (v := ?v3) (by kernel_rfl) (by kernel_rfl) rfl (by kernel_rfl) (by kernel_rfl) (by kernel_rfl) (fun _ _ _ h => h) (Or.inl ⟨by rfl, ?y3⟩) hHeld ?r3
      case y3 => (intro w' hSw; (try dsimp only at hSw); obtain ⟨q0, q1, q2, q3⟩ := hSw; go_simp; try with_reducible rfl)
      simp only [Act.put, List.getElem_toArray, List.getElem_cons_zero, List.getElem_cons_succ, List.setIfInBounds_toArray, List.set_cons_zero, List.set_cons_succ]
      refine Still.takeBy (i := 3) [10, 4] (v := ?v4) (by kernel_rfl) (by kernel_rfl) rfl (by kernel_rfl) (by kernel_rfl) (by kernel_rfl) (fun _ _ _ h => h) (Or.inl ⟨by rfl, ?y4⟩) hHeld ?r4
      case y4 => (intro w' hSw; (try dsimp only at hSw); obtain ⟨q0, q1, q2, q3⟩ := hSw; go_simp; try with_reducible rfl)
      simp only [Act.put, List.getElem_toArray, List.getElem_cons_zero, List.getElem_cons_succ, List.setIfInBounds_toArray, List.set_cons_zero, List.set_cons_succ]
      refine Still.takeBy (i := 4) [10] (v := ?v5) (by kernel_rfl) (by kernel_rfl) rfl (by kernel_rfl) (by kernel_rfl) (by kernel_rfl) (fun _ _ _ h => h) (Or.inl ⟨by rfl, ?y5⟩) hHeld ?r5
      case y5 => (intro w' hSw; (try dsimp only at hSw); obtain ⟨q0, q1, q2, q3⟩ := hSw; go_simp; try with_reducible rfl)
      simp only [Act.put, List.getElem_toArray, List.getElem_cons_zero, List.getElem_cons_succ, List.setIfInBounds_toArray, List.set_cons_zero, List.set_cons_succ]
      refine Still.takeBy (i := 5) [10, 9, 8, 6] (v := ?v6) (by kernel_rfl) (by kernel_rfl) rfl (by kernel_rfl) (by kernel_rfl) (by kernel_rfl) (fun _ _ _ h => h) (Or.inl ⟨by rfl, ?y6⟩) hHeld ?r6
      case y6 => (intro w' hSw; (try dsimp only at hSw); obtain ⟨q0, q1, q2, q3⟩ := hSw; go_simp; try with_reducible rfl)
      simp only [Act.put, List.getElem_toArray, List.getElem_cons_zero, List.getElem_cons_succ, List.setIfInBounds_toArray, List.set_cons_zero, List.set_cons_succ]
      refine Still.takeBy (i := 6) [10, 9, 8] (v := ?v7) (by kernel_rfl) (by kernel_rfl) rfl (by kernel_rfl) (by kernel_rfl) (by kernel_rfl) (fun _ _ _ h => h) (Or.inl ⟨by rfl, ?y7⟩) hHeld ?r7
      case y7 => (intro w' hSw; (try dsimp only at hSw); obtain ⟨q0, q1, q2, q3⟩ := hSw; go_simp; try with_reducible rfl)
      simp only [Act.put, List.getElem_toArray, List.getElem_cons_zero, List.getElem_cons_succ, List.setIfInBounds_toArray, List.set_cons_zero, List.set_cons_succ]
      refine Still.takeBy (i := 7) [10, 9, 8] (v := ?v8) (by kernel_rfl) (by kernel_rfl) rfl (by kernel_rfl) (by kernel_rfl) (by kernel_rfl) (fun _ _ _ h => h) (Or.inl ⟨by rfl, ?y8⟩) hHeld ?r8
      case y8 => (intro w' hSw; (try dsimp only at hSw); obtain ⟨q0, q1, q2, q3⟩ := hSw; go_simp; try with_reducible rfl)
      simp only [Act.put, List.getElem_toArray, List.getElem_cons_zero, List.getElem_cons_succ, List.setIfInBounds_toArray, List.set_cons_zero, List.set_cons_succ]
      refine Still.takeBy (i := 8) [10, 9] (v := ?v9) (by kernel_rfl) (by kernel_rfl) rfl (by kernel_rfl) (by kernel_rfl) (by kernel_rfl) (fun _ _ _ h => h) (Or.inl ⟨by rfl, ?y9⟩) hHeld ?r9
      case y9 => (intro w' hSw; (try dsimp only at hSw); obtain ⟨q0, q1, q2, q3⟩ := hSw; go_simp; try with_reducible rfl)
      simp only [Act.put, List.getElem_toArray, List.getElem_cons_zero, List.getElem_cons_succ, List.setIfInBounds_toArray, List.set_cons_zero, List.set_cons_succ]
      refine Still.takeBy (i := 9) [10] (v := ?v10) (by kernel_rfl) (by kernel_rfl) rfl (by kernel_rfl) (by kernel_rfl) (by kernel_rfl) (fun _ _ _ h => h) (Or.inl ⟨by rfl, ?y10⟩) hHeld ?r10
      case y10 => (intro w' hSw; (try dsimp only at hSw); obtain ⟨q0, q1, q2, q3⟩ := hSw; go_simp; try with_reducible rfl)
      simp only [Act.put, List.getElem_toArray, List.getElem_cons_zero, List.getElem_cons_succ, List.setIfInBounds_toArray, List.set_cons_zero, List.set_cons_succ]
      refine Still.all (rs := [10]) (by kernel_rfl) (by simp) (Still.one (i := 10) rfl rfl (fun K hK => ?_) (by simp))
      refine wp_call 18 _ _ rfl ent_sameInts #[.slice xa l.length xc, .slice ya l.length yc] (by first | rfl | simp [Act.eval, Act.put]) ((sameInts_any l l _ _ _ (HX.out.up (RowKit.Below.refl _ _).drew) (HY.out.up (RowKit.Below.refl _ _).drew) hll true (by simp)).mono ?_)
      rintro e V1 ⟨rfl, b5⟩
      have HV : Hid (RowKit.Below W0.heap.size W0 V1) := Lib.hid ((HT.out.trans (RowKit.Below.refl _ _).drew).trans (b5.mono HT.out.size))
      refine ⟨_, rfl, hK _ _ (fun _ => ⟨bcl b5 (by show w.heap.size < wr.heap.size; omega) c0, bcl b5 (by show w.heap.size + 1 < wr.heap.size; omega) c1, bcl b5 hab hx0, bcl b5 hbb hy0⟩) (fun hh => ?_)⟩
      have hHeld := hh (by decide)
      clear hK K hh b5
      try simp only [Act.put, List.getElem_toArray, List.getElem_cons_zero, List.getElem_cons_succ, List.setIfInBounds_toArray, List.set_cons_zero, List.set_cons_succ]
      refine Still.all (rs := [11]) (by kernel_rfl) (by simp) (Still.one (i := 11) rfl rfl (fun K hK => ?_) (by simp))
      go_simp
      refine hK _ _ (fun h => absurd rfl h) (fun _ => ?_)
      clear hK K
      refine Still.over (by kernel_rfl) ?_ _
      clear hHeld
      go_wp2
      go_roundw
      case rel => exact ⟨k + 1, by go_num, by omega, HV⟩
      case measure => simp [intOf]; omega
    · have hli : ¬ (k : Int) < ss.length := by omega
      go_wp2
      go_ret
      exact ⟨rfl, D0.out.trans (HT.out.mono D0.out.size)⟩
/-- Nothing is found ahead of it. -/
theorem rowP_nil {p : Nat → Nat → Bool} {a m : Nat} (h : ∀ b, b < m → p a b = false) : rowP p a m = [] := by
  induction m with
  | zero => rfl
  | succ m ih => rw [rowP_step, ih (fun b hb => h b (by omega)), h m (by omega)]; rfl
theorem outP_nil {p : Nat → Nat → Bool} {n k : Nat} (h : ∀ a b, a < k → b < n → p a b = false) : outP p n k = [] := by
  induction k with
  | zero => rfl
  | succ k ih => rw [outP_step, ih (fun a b ha hb => h a b (by omega) hb), rowP_nil (fun b hb => h k b (by omega) hb)]; rfl
theorem rowP_head {p : Nat → Nat → Bool} {a b : Nat} (h : ∀ c, c < b → p a c = false) (hp : p a b = true) : ∀ m, b < m → (rowP p a m).head? = some ⟨a, b⟩ := by
  intro m
  induction m with
  | zero => intro h; omega
  | succ m ih =>
    intro hm
    rw [rowP_step]
    by_cases e : b = m
    · subst e
      rw [rowP_nil h, hp]
      rfl
    · have := ih (by omega)
      cases hr : rowP p a m with
      | nil => rw [hr] at this; cases this
      | cons x r => rw [hr] at this; simpa using this
theorem pairs_head {n : Nat} {p : Nat → Nat → Bool} {a b : Nat} (ha : a < n) (hb : b < n) (h1 : ∀ c d, c < a → d < n → p c d = false) (h2 : ∀ d, d < b → p a d = false) (hp : p a b = true) : (pairsL n p).head? = some ⟨a, b⟩ := by
  have key : ∀ k, a < k → (outP p n k).head? = some ⟨a, b⟩ := by
    intro k
    induction k with
    | zero => intro h; omega
    | succ k ih =>
      intro hk
      rw [outP_step]
      by_cases e : a = k
      · subst e
        rw [outP_nil h1, List.nil_append]
        exact rowP_head h2 hp n hb
      · have := ih (by omega)
        cases hr : outP p n k with
        | nil => rw [hr] at this; cases this
        | cons x r => rw [hr] at this; simpa using this
  exact key n ha
theorem certG_head {S : SysD} {L : List Edg} {a b : Nat} (h : (leakL S L).head? = some ⟨a, b⟩) : certG S L = ⟨[], pathL S a b, false⟩ := by
  unfold certG
  cases hr : leakL S L with
  | nil => rw [hr] at h; cases h
  | cons x r =>
    rw [hr] at h
    injection h with h
    subst h
    rfl
theorem certG_nil {S : SysD} {L : List Edg} (h : leakL S L = []) : certG S L = ⟨certS S, [], true⟩ := by
  unfold certG
  rw [h]
/-- Who reaches b, of the first k. -/
def setF (p : Nat → Nat → Bool) (k b : Nat) : List Int := ((List.range k).filter fun a => p a b).map fun (a : Nat) => (a : Int)
theorem setF_step (p : Nat → Nat → Bool) (k b : Nat) : setF p (k + 1) b = setF p k b ++ if p k b then [(k : Int)] else [] := by
  unfold setF
  rw [List.range_succ, List.filter_append, List.map_append]
  congr 1
  by_cases h : p k b = true
  · simp [h]
  · simp [h]
theorem setF_len (p : Nat → Nat → Bool) (k b : Nat) : (setF p k b).length ≤ k := by
  unfold setF
  rw [List.length_map]
  refine Nat.le_trans (List.length_filter_le _ _) ?_
  simp
theorem rowP_tt (p : Nat → Nat → Bool) (a b : Nat) : ∀ m, ((rowP p a m).filter fun e => e.tt == (b : Int)).map (·.fr) = if b < m ∧ p a b = true then [(a : Int)] else [] := by
  intro m
  induction m with
  | zero => simp [rowP]
  | succ m ih =>
    rw [rowP_step, List.filter_append, List.map_append, ih]
    by_cases e : b = m
    · subst e
      by_cases h : p a b = true
      · simp [h]
      · simp [h]
    · have e2 : ¬ ((m : Int) = (b : Int)) := by omega
      have e3 : (b < m + 1 ∧ p a b = true) ↔ (b < m ∧ p a b = true) := by constructor <;> (rintro ⟨h1, h2⟩; exact ⟨by omega, h2⟩)
      by_cases h : p a m = true
      · simp [h, e2, e3]
      · simp [h, e3]
theorem outP_tt (p : Nat → Nat → Bool) (n b : Nat) (hb : b < n) : ∀ k, ((outP p n k).filter fun e => e.tt == (b : Int)).map (·.fr) = setF p k b := by
  intro k
  induction k with
  | zero => rfl
  | succ k ih =>
    rw [outP_step, List.filter_append, List.map_append, ih, rowP_tt, setF_step]
    simp [hb]
theorem gath_is (n : Nat) (p : Nat → Nat → Bool) : gath n (pairsL n p) = (List.range n).map (setF p n) := by
  unfold gath
  apply List.map_congr_left
  intro b hb
  exact outP_tt p n b (List.mem_range.1 hb) n
set_option maxRecDepth 100000 in
set_option maxHeartbeats 8000000 in
theorem pathOf_new (S : SysD) (hp : S.parts.length ≤ 4) (hl : S.chans.length ≤ 6) (a b : Int) (ha : 0 ≤ a ∧ a < S.parts.length) (vp vc vs : Value) (w : World) (hS : Sys w vp vc vs S) :
    Calls Tryd.prog 17 #[.agg #[vp, vc, vs], .int .i64 a, .int .i64 b] w fun e w' => ∃ v, e = .returned (.tuple #[v, .bool (pathB S a b)]) ∧ Sl w' 1 v (pathL S a b).length (ints (pathL S a b)) ∧ (∀ c, v.ownBlock = some c → w.heap.size ≤ c) ∧ RowKit.Below w.heap.size w w' := by
  obtain ⟨i1, hi1, hy0, hy1, hy2⟩ := info_parts info3
  obtain ⟨pa, pc, rfl⟩ := hS.p.form
  obtain ⟨ca, cc, rfl⟩ := hS.c.form
  obtain ⟨sa, sc, rfl⟩ := hS.s.form
  have HS := Lib.hid hS
  have HA := Lib.hid ha
  clear hS ha
  go_enter Tryd.func17, Tryd.ntmps17
  go_wp2
  go_loopw [8] (fun i wr => ∃ k : Nat, i = .int .i64 k ∧ k ≤ S.parts.length ∧ Hid (∀ j : Nat, j < k → reachN S j a b = false) ∧ Hid (Box wr w.heap.size (.slice pa S.parts.length pc) (.slice ca S.chans.length cc) (.slice sa S.slots.length sc)) ∧ Hid (RowKit.Below w.heap.size w wr)) (fun i _ => S.parts.length - (intOf i).toNat)
  case atStart => exact ⟨0, rfl, Nat.zero_le _, fun j h => by omega, box_new w _ _ _ _ _ rfl, (by repeat (first | exact Below.refl _ _ | assumption | refine Below.drew ?_ | refine Below.alloc ?_ (by first | (simp; done) | (simp; omega)) _ | refine Below.setCell ?_ (by first | (simp; done) | (simp; omega)) _))⟩
  case round =>
    obtain ⟨k, rfl, hk, HNO, HB, HT⟩ := hrel
    have k0 := HB.out.p
    have k1 := HB.out.c
    have k2 := HB.out.s
    by_cases hlt : k < S.parts.length
    · have hli : (k : Int) < S.parts.length := by omega
      go_wp2_with fail
      refine (reachesBy_any S hp hl b k (by omega) _ _ _ _ _ (HS.out.up HT.out)).mono ?_
      rintro e w2 ⟨rfl, hb2⟩
      have HB2 := Lib.hid (HB.out.up hb2)
      have HT2 := Lib.hid (HT.out.trans (hb2.mono HT.out.size))
      clear HB HT hb2 k0 k1 k2
      cases hre : reachN S k a b with
      | true =>
        have HW := Lib.hid (onWay_start HA.out hre HNO.out)
        have HP := Lib.hid (path_at hlt hre HNO.out)
        clear HNO
        go_wp2
        go_loopw [8, 10, 9] (fun n x l wr => ∃ (m : Nat) (z : Int) (zs : List Int), n = .int .i64 m ∧ x = .int .i64 z ∧ m ≤ k ∧ Hid (zs.length + m = k) ∧ Hid (OnWay S a b k m z zs) ∧ Hid (wr.ownsRow (w.heap.size + 1) 3 1 l (zs ++ [z]).length (ints (zs ++ [z]))) ∧ Hid (Box wr w.heap.size (.slice pa S.parts.length pc) (.slice ca S.chans.length cc) (.slice sa S.slots.length sc)) ∧ Hid (RowKit.Below w.heap.size w wr)) (fun n _ _ _ => (intOf n).toNat)
        case atStart => exact ⟨k, a, [], rfl, rfl, Nat.le_refl _, Lib.hid (by simp), HW, Lib.hid (own_low (own_one w2 a) (by have := HB2.out.lt; omega)), Lib.hid (HB2.out.up ((RowKit.Below.refl _ _).alloc (Nat.le_refl _) _)), Lib.hid (HT2.out.alloc HT2.out.size _)⟩
        case round =>
          clear HB2 HT2 HW
          obtain ⟨m, z, zs, rfl, rfl, hm, HL, HW, HO, HB, HT⟩ := hrel
          obtain ⟨a3, c3, hform⟩ := own_form HO.out
          subst hform
          by_cases hzb : z = b
          · subst hzb
            have HE := Lib.hid (HW.out.none rfl)
            go_wp2
            go_ret2
            refine ⟨.slice a3 (zs ++ [z]).length c3, by rw [HP.out.2]; rfl, ?_, fun c e => Nat.le_of_succ_le (own_block HO.out c e), HT.out⟩
            rw [HP.out.1, HE.out]
            exact own_sl HO.out
          · obtain ⟨m', rfl⟩ := HW.out.pos hzb
            generalize hN : ((m' + 1 : Nat) : Int) = N
            have hN1 : IntKind.i64.wrap (N - 1) = (m' : Int) := by
              simp [IntKind.wrap, IntKind.bits, IntKind.signed]; omega
            have hmN : m' < N.toNat := by omega
            have hzb' : (z != b) = true := by simpa using hzb
            have HLL : Hid ((zs ++ [z]).length ≤ 101) := Lib.hid (HW.out.len HL.out (by omega))
            have HL2 : Hid ((zs ++ [z]).length + m' = k) := Lib.hid (by have := HL.out; simp; omega)
            have HW2 := Lib.hid (fun (c : Nat) h1 h2 h3 h4 => HW.out.next hzb (c := c) h1 h2 h3 h4)
            have HW3 := Lib.hid (HW.out.some hzb)
            clear hN HW HL
            generalize zs ++ [z] = ys at HO HLL HL2 HW2
            go_wp2
            go_loopw [11, 10, 9] (fun i x l wr => ∃ q : Nat, i = .int .i64 q ∧ x = .int .i64 z ∧ l = .slice a3 ys.length c3 ∧ q ≤ S.parts.length ∧ Hid (∀ j : Nat, j < q → (leadsB S z j && reachN S m' j b) = false) ∧ Hid (wr.ownsRow (w.heap.size + 1) 3 1 (.slice a3 ys.length c3) ys.length (ints ys)) ∧ Hid (Box wr w.heap.size (.slice pa S.parts.length pc) (.slice ca S.chans.length cc) (.slice sa S.slots.length sc)) ∧ Hid (RowKit.Below w.heap.size w wr)) (fun i _ _ _ => S.parts.length - (intOf i).toNat)
            case atStart => exact ⟨0, rfl, rfl, rfl, Nat.zero_le _, fun j h => by omega, HO, HB, HT⟩
            case round =>
              clear HO HB HT
              obtain ⟨q, rfl, rfl, rfl, hq, HNO, HO, HB, HT⟩ := hrel
              have k0 := HB.out.p
              have k1 := HB.out.c
              have k2 := HB.out.s
              by_cases hqlt : q < S.parts.length
              · have hqi : (q : Int) < S.parts.length := by omega
                go_wp2_with fail
                refine (leads_any S hl _ _ _ _ _ _ (HS.out.up HT.out)).mono ?_
                rintro e w3 ⟨rfl, hb3⟩
                have HB3 := Lib.hid (HB.out.up hb3)
                have HO3 := Lib.hid (own_upF HO.out hb3)
                have HT3 := Lib.hid (HT.out.trans (hb3.mono HT.out.size))
                clear HB HT HO hb3 k0 k1 k2
                have k0 := HB3.out.p
                have k1 := HB3.out.c
                have k2 := HB3.out.s
                cases hle : leadsB S z q with
                | true =>
                  go_wp2_with fail
                  refine (reachesBy_any S hp hl b m' (by omega) _ _ _ _ _ (HS.out.up HT3.out)).mono ?_
                  rintro e w4 ⟨rfl, hb4⟩
                  have HB4 := Lib.hid (HB3.out.up hb4)
                  have HO4 := Lib.hid (own_upF HO3.out hb4)
                  have HT4 := Lib.hid (HT3.out.trans (hb4.mono HT3.out.size))
                  clear HB3 HT3 HO3 hb4 k0 k1 k2
                  cases hre2 : reachN S m' q b with
                  | true =>
                    have HW5 := Lib.hid (HW2.out q hqlt hle hre2 HNO.out)
                    have hw4 := HT4.out.size
                    have hb4l := HB4.out.lt
                    have HO5 := Lib.hid (HO4.out.alloc (.cells #[.int .i64 q] 3))
                    go_wp2_with (at_builtin; refine wpList_append_lies _ rfl (.tmp 52) (.tmp 54) 42 rfl (w.heap.size + 1) 3 i1 (.int .i64 0) 1 8 Tryd.underlying42 hi1 hy0 hy1 hy2 rfl (by decide) _ ys.length (ints ys) rfl HO5.out ⟨w4.heap.size, 0, none⟩ 1 1 [.int .i64 q] rfl rfl (new_rangeE _ _ _ _ rfl) (int_cell _) (by decide) (by have := HLL.out; unfold maxLen; omega) (by have := HLL.out; omega) (by simp; omega) _ rfl ?_)
                    intro g5 cap5 W5 hown hgrow hat hg5
                    have HO6 : Hid (W5.ownsRow (w.heap.size + 1) 3 1 (.slice (some ⟨g5, 0, none⟩) (ys.length + 1) cap5) (ys ++ [(q : Int)]).length (ints (ys ++ [(q : Int)]))) := Lib.hid (by simpa [ints] using hown)
                    have HT6 := Lib.hid ((HT4.out.alloc hw4 _).grown hgrow (by simp; omega) (fun q e => by have := own_block HO5.out q e; omega))
                    have HB6 := Lib.hid ((HB4.out.up ((RowKit.Below.refl _ _).alloc (Nat.le_refl _) _)).grownF hgrow (fun e => by have := own_block HO5.out _ e.symm; omega))
                    clear hown hgrow hat HO4 HO5 HT4 HB4
                    go_wp2
                    go_roundw
                    case rel => exact ⟨m', (q : Int), ys, by first | rfl | (rw [hN1]), rfl, by omega, HL2, HW5, HO6, HB6, HT6⟩
                    case measure => simp [intOf]; omega
                  | false =>
                    have HN2 : Hid (∀ j : Nat, j < q + 1 → (leadsB S z j && reachN S m' j b) = false) := Lib.hid (fun j hj => by
                      by_cases e : j = q
                      · subst e; rw [hre2, Bool.and_false]
                      · exact HNO.out j (by omega))
                    clear HNO
                    go_wp2
                    go_roundw
                    case rel => exact ⟨q + 1, by go_num, rfl, rfl, by omega, HN2, HO4, HB4, HT4⟩
                    case measure => simp [intOf]; omega
                | false =>
                  have HN2 : Hid (∀ j : Nat, j < q + 1 → (leadsB S z j && reachN S m' j b) = false) := Lib.hid (fun j hj => by
                    by_cases e : j = q
                    · subst e; rw [hle, Bool.false_and]
                    · exact HNO.out j (by omega))
                  clear HNO
                  go_wp2
                  go_roundw
                  case rel => exact ⟨q + 1, by go_num, rfl, rfl, by omega, HN2, HO3, HB3, HT3⟩
                  case measure => simp [intOf]; omega
              · exact (HW3.out (fun d hd => HNO.out d (by omega))).elim
      | false =>
        have HN2 : Hid (∀ j : Nat, j < k + 1 → reachN S j a b = false) := Lib.hid (fun j hj => by
          by_cases e : j = k
          · subst e; exact hre
          · exact HNO.out j (by omega))
        clear HNO
        go_wp2
        go_roundw
        case rel => exact ⟨k + 1, by go_num, by omega, HN2, HB2, HT2⟩
        case measure => simp [intOf]; omega
    · have hli : ¬ (k : Int) < S.parts.length := by omega
      have HP := Lib.hid (path_no (S := S) (a := a) (b := b) (fun j hj => HNO.out j (by omega)))
      go_wp2
      go_ret2
      refine ⟨.slice none 0 0, by rw [HP.out.2]; rfl, ?_, (fun c e => by cases e), HT.out⟩
      rw [HP.out.1]
      exact Sl.nil _ _
end Go.Proofs.YthpljbbhpbijgaaDoor

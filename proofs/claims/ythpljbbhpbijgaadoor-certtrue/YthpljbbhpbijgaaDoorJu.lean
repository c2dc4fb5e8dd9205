/- The reference's reachesBy, Reaches. -/
import Derived.Test.YthpljbbhpbijgaaDoorJt
namespace Go.Proofs.YthpljbbhpbijgaaDoor
set_option linter.unusedSimpArgs false
set_option linter.unusedVariables false
open Go.RowKit Go.Sort Go.Shelf Go.Lib Go.Maps

theorem reachN_eq (S : SysD) (a : Int) : ∀ m, reachN S m a a = true
  | 0 => by simp [reachN]
  | m + 1 => by simp [reachN]
theorem reachN_yes {S : SysD} {m k : Nat} {a b : Int} (hk : k < S.parts.length) (h1 : leadsB S a k = true) (h2 : reachN S m k b = true) : reachN S (m + 1) a b = true := by
  simp only [reachN, Bool.or_eq_true, List.any_eq_true, List.mem_range, Bool.and_eq_true]
  exact .inr ⟨k, hk, h1, h2⟩
theorem reachN_no {S : SysD} {m : Nat} {a b : Int} (hne : a ≠ b) (h : ∀ k : Nat, k < S.parts.length → (leadsB S a k && reachN S m k b) = false) : reachN S (m + 1) a b = false := by
  simp only [reachN, Bool.or_eq_false_iff, List.any_eq_false, List.mem_range]
  exact ⟨by simpa using hne, fun k hk => by rw [h k hk]; decide⟩
set_option maxRecDepth 100000 in
set_option maxHeartbeats 8000000 in
theorem reachesBy_any (S : SysD) (hp : S.parts.length ≤ 4) (hl : S.chans.length ≤ 6) (b : Int) : ∀ (n : Nat), n ≤ 100 → ∀ (a : Int) (vp vc vs : Value) (w : World), Sys w vp vc vs S →
    Calls Tryd.prog 36 #[.agg #[vp, vc, vs], .int .i64 a, .int .i64 b, .int .i64 n] w fun e w' => e = .returned (.bool (reachN S n a b)) ∧ RowKit.Below w.heap.size w w' := by
  intro n
  induction n with
  | zero =>
    intro _ a vp vc vs w hS
    obtain ⟨pa, pc, rfl⟩ := hS.p.form
    obtain ⟨ca, cc, rfl⟩ := hS.c.form
    obtain ⟨sa, sc, rfl⟩ := hS.s.form
    by_cases hab : a = b
    · subst hab
      rw [reachN_eq]
      clear hS
      go_enter Tryd.func36, Tryd.ntmps36
      go_wp2
      go_ret
      exact ⟨rfl, (by repeat (first | exact Below.refl _ _ | assumption | refine Below.drew ?_ | refine Below.alloc ?_ (by first | (simp; done) | (simp; omega)) _ | refine Below.setCell ?_ (by first | (simp; done) | (simp; omega)) _))⟩
    · have hab' : (a == b) = false := by simpa using hab
      have hr : reachN S 0 a b = false := by simpa [reachN] using hab
      rw [hr]
      clear hr
      have HS := Lib.hid hS
      clear hS
      go_enter Tryd.func36, Tryd.ntmps36
      go_wp2
      go_loopw [9] (fun i wr => i = .int .i64 0 ∧ Hid (Box wr w.heap.size (.slice pa S.parts.length pc) (.slice ca S.chans.length cc) (.slice sa S.slots.length sc)) ∧ Hid (RowKit.Below w.heap.size w wr)) (fun _ _ => 0)
      case atStart => exact ⟨rfl, box_new w _ _ _ _ _ rfl, (by repeat (first | exact Below.refl _ _ | assumption | refine Below.drew ?_ | refine Below.alloc ?_ (by first | (simp; done) | (simp; omega)) _ | refine Below.setCell ?_ (by first | (simp; done) | (simp; omega)) _))⟩
      case round =>
        obtain ⟨rfl, HB, HT⟩ := hrel
        have k0 := HB.out.p
        by_cases h0 : (0 : Int) < S.parts.length
        · go_wp2
          go_ret
          exact ⟨rfl, HT.out⟩
        · go_wp2
          go_ret
          exact ⟨rfl, HT.out⟩
  | succ n ih =>
    intro hn a vp vc vs w hS
    obtain ⟨pa, pc, rfl⟩ := hS.p.form
    obtain ⟨ca, cc, rfl⟩ := hS.c.form
    obtain ⟨sa, sc, rfl⟩ := hS.s.form
    have HS := Lib.hid hS
    have IH := Lib.hid (ih (by omega))
    clear hS ih
    by_cases hab : a = b
    · subst hab
      rw [reachN_eq]
      go_enter Tryd.func36, Tryd.ntmps36
      go_wp2
      go_ret
      exact ⟨rfl, (by repeat (first | exact Below.refl _ _ | assumption | refine Below.drew ?_ | refine Below.alloc ?_ (by first | (simp; done) | (simp; omega)) _ | refine Below.setCell ?_ (by first | (simp; done) | (simp; omega)) _))⟩
    · have hab' : (a == b) = false := by simpa using hab
      generalize hr : reachN S (n + 1) a b = r
      have HR := Lib.hid hr
      clear hr
      generalize hN : ((n + 1 : Nat) : Int) = N
      have hN0 : 0 < N := by omega
      have hN1 : IntKind.i64.wrap (N - 1) = (n : Int) := by
        simp [IntKind.wrap, IntKind.bits, IntKind.signed]; omega
      go_enter Tryd.func36, Tryd.ntmps36
      go_wp2
      go_loopw [9] (fun i wr => ∃ k : Nat, i = .int .i64 k ∧ k ≤ S.parts.length ∧ Hid (∀ j : Nat, j < k → (leadsB S a j && reachN S n j b) = false) ∧ Hid (Box wr w.heap.size (.slice pa S.parts.length pc) (.slice ca S.chans.length cc) (.slice sa S.slots.length sc)) ∧ Hid (RowKit.Below w.heap.size w wr)) (fun i _ => S.parts.length - (intOf i).toNat)
      case atStart => exact ⟨0, rfl, Nat.zero_le _, fun j h => by omega, box_new w _ _ _ _ _ rfl, (by repeat (first | exact Below.refl _ _ | assumption | refine Below.drew ?_ | refine Below.alloc ?_ (by first | (simp; done) | (simp; omega)) _ | refine Below.setCell ?_ (by first | (simp; done) | (simp; omega)) _))⟩
      case round =>
        obtain ⟨k, rfl, hk, HNO, HB, HT⟩ := hrel
        have k0 := HB.out.p
        have k1 := HB.out.c
        have k2 := HB.out.s
        by_cases hlt : k < S.parts.length
        · have hli : (k : Int) < S.parts.length := by omega
          go_wp2_with fail
          refine (leads_any S hl _ _ _ _ _ _ (HS.out.up HT.out)).mono ?_
          rintro e w2 ⟨rfl, hb2⟩
          have HB2 := Lib.hid (HB.out.up hb2)
          have HT2 := Lib.hid (HT.out.trans (hb2.mono HT.out.size))
          clear HB HT hb2 k0 k1 k2
          have k0 := HB2.out.p
          have k1 := HB2.out.c
          have k2 := HB2.out.s
          cases hle : leadsB S a k with
          | true =>
            go_wp2_with fail
            refine (IH.out _ _ _ _ _ (HS.out.up HT2.out)).mono ?_
            rintro e w3 ⟨rfl, hb3⟩
            have HB3 := Lib.hid (HB2.out.up hb3)
            have HT3 := Lib.hid (HT2.out.trans (hb3.mono HT2.out.size))
            clear HB2 HT2 hb3 k0 k1 k2
            cases hre : reachN S n k b with
            | true =>
              have hyes := HR.out.symm.trans (reachN_yes hlt hle hre)
              subst hyes
              go_wp2
              go_ret
              exact ⟨rfl, HT3.out⟩
            | false =>
              have HN2 : Hid (∀ j : Nat, j < k + 1 → (leadsB S a j && reachN S n j b) = false) := Lib.hid (fun j hj => by
                by_cases e : j = k
                · subst e; rw [hre, Bool.and_false]
                · exact HNO.out j (by omega))
              clear HNO
              go_wp2
              go_roundw
              case rel => exact ⟨k + 1, by go_num, by omega, HN2, HB3, HT3⟩
              case measure => simp [intOf]; omega
          | false =>
            have HN2 : Hid (∀ j : Nat, j < k + 1 → (leadsB S a j && reachN S n j b) = false) := Lib.hid (fun j hj => by
              by_cases e : j = k
              · subst e; rw [hle, Bool.false_and]
              · exact HNO.out j (by omega))
            clear HNO
            go_wp2
            go_roundw
            case rel => exact ⟨k + 1, by go_num, by omega, HN2, HB2, HT2⟩
            case measure => simp [intOf]; omega
        · have hli : ¬ (k : Int) < S.parts.length := by omega
          have hno := HR.out.symm.trans (reachN_no hab (fun j hj => HNO.out j (by omega)))
          subst hno
          go_wp2
          go_ret
          exact ⟨rfl, HT.out⟩
set_option maxHeartbeats 2000000 in
theorem reaches_any (S : SysD) (hp : S.parts.length ≤ 4) (hl : S.chans.length ≤ 6) (a b : Int) (vp vc vs : Value) (w : World) (hS : Sys w vp vc vs S) :
    Calls Tryd.prog 13 #[.agg #[vp, vc, vs], .int .i64 a, .int .i64 b] w fun e w' => e = .returned (.bool (reachB S a b)) ∧ RowKit.Below w.heap.size w w' := by
  obtain ⟨pa, pc, rfl⟩ := hS.p.form
  obtain ⟨ca, cc, rfl⟩ := hS.c.form
  obtain ⟨sa, sc, rfl⟩ := hS.s.form
  have HS := Lib.hid hS
  clear hS
  go_enter Tryd.func13, Tryd.ntmps13
  go_wp2_with fail
  refine (reachesBy_any S hp hl b S.parts.length (by omega) a _ _ _ _ (HS.out.up (by repeat (first | exact Below.refl _ _ | assumption | refine Below.drew ?_ | refine Below.alloc ?_ (by first | (simp; done) | (simp; omega)) _ | refine Below.setCell ?_ (by first | (simp; done) | (simp; omega)) _)))).mono ?_
  rintro e w1 ⟨rfl, bb⟩
  have D := Lib.hid (RowKit.Below.trans (show RowKit.Below w.heap.size w _ from (by repeat (first | exact Below.refl _ _ | assumption | refine Below.drew ?_ | refine Below.alloc ?_ (by first | (simp; done) | (simp; omega)) _ | refine Below.setCell ?_ (by first | (simp; done) | (simp; omega)) _))) (bb.mono (by simp)))
  clear bb
  go_wp2
  go_ret
  exact ⟨rfl, D.out⟩
end Go.Proofs.YthpljbbhpbijgaaDoor

namespace Go.Proofs.YthpljbbhpbijgaaDoor
set_option linter.unusedSimpArgs false
set_option linter.unusedVariables false
open Go.RowKit Go.Sort Go.Shelf Go.Lib Go.Maps

/-- On the way: so many edges are left, and no fewer. -/
structure OnWay (S : SysD) (a b : Int) (n0 m : Nat) (x : Int) (zs : List Int) : Prop where
  xin : 0 ≤ x ∧ x < S.parts.length
  yes : reachN S m x b = true
  less : ∀ j, j < m → reachN S j x b = false
  out : fwd S b n0 a = zs ++ fwd S b m x
theorem OnWay.none {S : SysD} {a b : Int} {n0 m : Nat} {x : Int} {zs : List Int} (h : OnWay S a b n0 m x zs) (e : x = b) : fwd S b n0 a = zs ++ [x] := by
  subst e
  have : m = 0 := by
    cases m with
    | zero => rfl
    | succ m => have := h.less 0 (by omega); rw [reachN_eq] at this; cases this
  subst this
  exact h.out
theorem OnWay.pos {S : SysD} {a b : Int} {n0 m : Nat} {x : Int} {zs : List Int} (h : OnWay S a b n0 m x zs) (e : x ≠ b) : ∃ k, m = k + 1 := by
  cases m with
  | zero => have := h.yes; simp [reachN] at this; exact absurd this e
  | succ m => exact ⟨m, rfl⟩
theorem OnWay.next {S : SysD} {a b : Int} {n0 m : Nat} {x : Int} {zs : List Int} (h : OnWay S a b n0 (m + 1) x zs) (e : x ≠ b) {c : Nat} (hc : c < S.parts.length) (h1 : leadsB S x c = true) (h2 : reachN S m c b = true) (h3 : ∀ d : Nat, d < c → (leadsB S x d && reachN S m d b) = false) : OnWay S a b n0 m c (zs ++ [x]) := by
  obtain ⟨c', e1, e2, e3, e4, e5⟩ := next_some h.xin h.yes e
  have : c' = c := by
    rcases Nat.lt_trichotomy c' c with hlt | he | hlt
    · have := h3 c' hlt; rw [e3, e4] at this; cases this
    · exact he
    · exact absurd ⟨h1, h2⟩ (e5 c hlt)
  subst this
  refine ⟨by omega, h2, fun j hj => ?_, ?_⟩
  · cases hr : reachN S j c' b with
    | false => rfl
    | true =>
      have := h.less (j + 1) (by omega)
      rw [reachN_yes hc h1 hr] at this
      cases this
  · rw [h.out, fwd, e1]
    simp
theorem OnWay.some {S : SysD} {a b : Int} {n0 m : Nat} {x : Int} {zs : List Int} (h : OnWay S a b n0 (m + 1) x zs) (e : x ≠ b) (h3 : ∀ d : Nat, d < S.parts.length → (leadsB S x d && reachN S m d b) = false) : False := by
  obtain ⟨c', e1, e2, e3, e4, e5⟩ := next_some h.xin h.yes e
  have := h3 c' e2
  rw [e3, e4] at this
  cases this
theorem onWay_start {S : SysD} {a b : Int} {n : Nat} (ha : 0 ≤ a ∧ a < S.parts.length) (h : reachN S n a b = true) (hl : ∀ j, j < n → reachN S j a b = false) : OnWay S a b n n a [] := ⟨ha, h, hl, rfl⟩
theorem path_at {S : SysD} {a b : Int} {n : Nat} (hn : n < S.parts.length) (h : reachN S n a b = true) (hl : ∀ j, j < n → reachN S j a b = false) : pathL S a b = fwd S b n a ∧ pathB S a b = true := by
  have : pathN S a b = some n := by
    unfold pathN
    rw [List.find?_range_eq_some]
    exact ⟨h, List.mem_range.2 hn, fun j hj => by simp [hl j hj]⟩
  unfold pathL pathB
  rw [this]
  exact ⟨rfl, rfl⟩
theorem path_no {S : SysD} {a b : Int} (hl : ∀ j, j < S.parts.length → reachN S j a b = false) : pathL S a b = [] ∧ pathB S a b = false := by
  have : pathN S a b = none := by
    unfold pathN
    rw [List.find?_eq_none]
    intro n hn
    simp [hl n (List.mem_range.1 hn)]
  unfold pathL pathB
  rw [this]
  exact ⟨rfl, rfl⟩
theorem OnWay.len {S : SysD} {a b : Int} {n0 m : Nat} {x : Int} {zs : List Int} (h : OnWay S a b n0 m x zs) (hz : zs.length + m = n0) (hn : n0 ≤ 100) : (zs ++ [x]).length ≤ 101 := by simp; omega
set_option maxRecDepth 100000 in
set_option maxHeartbeats 8000000 in
theorem pathOf_any (S : SysD) (hp : S.parts.length ≤ 4) (hl : S.chans.length ≤ 6) (a b : Int) (ha : 0 ≤ a ∧ a < S.parts.length) (vp vc vs : Value) (w : World) (hS : Sys w vp vc vs S) :
    Calls Tryd.prog 17 #[.agg #[vp, vc, vs], .int .i64 a, .int .i64 b] w fun e w' => ∃ v, e = .returned (.tuple #[v, .bool (pathB S a b)]) ∧ Sl w' 1 v (pathL S a b).length (ints (pathL S a b)) ∧ RowKit.Below w.heap.size w w' := by
  obtain ⟨i1, hi1, hy0, hy1, hy2⟩ := info_parts info3
  obtain ⟨pa, pc, rfl⟩ := hS.p.form
  obtain ⟨ca, cc, rfl⟩ := hS.c.form
  obtain ⟨sa, sc, rfl⟩ := hS.s.form
  have HS := Lib.hid hS
  have HA := Lib.hid ha
  clear hS ha
  go_enter Tryd.func17, Tryd.ntmps17
  go_wp2
  go_loopw [8] (fun i wr => ∃ k : Nat, i = .int .i64 k ∧ k ≤ S.parts.length ∧ Hid (∀ j : Nat, j < k → reachN S j a b = false) ∧ Hid (Box wr w.heap.size (.slice pa S.parts.length pc) (.slice ca S.chans.length cc) (.slice sa S.slots.length sc)) ∧ Hid (RowKit.Below w.heap.size w wr)) (fun i _ => S.parts.length - (intOf i).toNat)
  case atStart => exact ⟨0, rfl, Nat.zero_le _, fun j h => by omega, box_new w _ _ _ _ _ rfl, (by repeat (first | exact Below.refl _ _ | assumption | refine Below.drew ?_ | refine Below.alloc ?_ (by first | (simp; done) | (simp; omega)) _ | refine Below.setCell ?_ (by first | (simp; done) | (simp; omega)) _))⟩
  case round =>
    obtain ⟨k, rfl, hk, HNO, HB, HT⟩ := hrel
    have k0 := HB.out.p
    have k1 := HB.out.c
    have k2 := HB.out.s
    by_cases hlt : k < S.parts.length
    · have hli : (k : Int) < S.parts.length := by omega
      go_wp2_with fail
      refine (reachesBy_any S hp hl b k (by omega) _ _ _ _ _ (HS.out.up HT.out)).mono ?_
      rintro e w2 ⟨rfl, hb2⟩
      have HB2 := Lib.hid (HB.out.up hb2)
      have HT2 := Lib.hid (HT.out.trans (hb2.mono HT.out.size))
      clear HB HT hb2 k0 k1 k2
      cases hre : reachN S k a b with
      | true =>
        have HW := Lib.hid (onWay_start HA.out hre HNO.out)
        have HP := Lib.hid (path_at hlt hre HNO.out)
        clear HNO
        go_wp2
        go_loopw [8, 10, 9] (fun n x l wr => ∃ (m : Nat) (z : Int) (zs : List Int), n = .int .i64 m ∧ x = .int .i64 z ∧ m ≤ k ∧ Hid (zs.length + m = k) ∧ Hid (OnWay S a b k m z zs) ∧ Hid (wr.ownsRow (w.heap.size + 1) 3 1 l (zs ++ [z]).length (ints (zs ++ [z]))) ∧ Hid (Box wr w.heap.size (.slice pa S.parts.length pc) (.slice ca S.chans.length cc) (.slice sa S.slots.length sc)) ∧ Hid (RowKit.Below w.heap.size w wr)) (fun n _ _ _ => (intOf n).toNat)
        case atStart => exact ⟨k, a, [], rfl, rfl, Nat.le_refl _, Lib.hid (by simp), HW, Lib.hid (own_low (own_one w2 a) (by have := HB2.out.lt; omega)), Lib.hid (HB2.out.up ((RowKit.Below.refl _ _).alloc (Nat.le_refl _) _)), Lib.hid (HT2.out.alloc HT2.out.size _)⟩
        case round =>
          clear HB2 HT2 HW
          obtain ⟨m, z, zs, rfl, rfl, hm, HL, HW, HO, HB, HT⟩ := hrel
          obtain ⟨a3, c3, hform⟩ := own_form HO.out
          subst hform
          by_cases hzb : z = b
          · subst hzb
            have HE := Lib.hid (HW.out.none rfl)
            go_wp2
            go_ret2
            refine ⟨_, by rw [HP.out.2]; rfl, ?_, HT.out⟩
            rw [HP.out.1, HE.out]
            exact own_sl HO.out
          · obtain ⟨m', rfl⟩ := HW.out.pos hzb
            generalize hN : ((m' + 1 : Nat) : Int) = N
            have hN1 : IntKind.i64.wrap (N - 1) = (m' : Int) := by
              simp [IntKind.wrap, IntKind.bits, IntKind.signed]; omega
            have hmN : m' < N.toNat := by omega
            have hzb' : (z != b) = true := by simpa using hzb
            have HLL : Hid ((zs ++ [z]).length ≤ 101) := Lib.hid (HW.out.len HL.out (by omega))
            have HL2 : Hid ((zs ++ [z]).length + m' = k) := Lib.hid (by have := HL.out; simp; omega)
            have HW2 := Lib.hid (fun (c : Nat) h1 h2 h3 h4 => HW.out.next hzb (c := c) h1 h2 h3 h4)
            have HW3 := Lib.hid (HW.out.some hzb)
            clear hN HW HL
            generalize zs ++ [z] = ys at HO HLL HL2 HW2
            go_wp2
            go_loopw [11, 10, 9] (fun i x l wr => ∃ q : Nat, i = .int .i64 q ∧ x = .int .i64 z ∧ l = .slice a3 ys.length c3 ∧ q ≤ S.parts.length ∧ Hid (∀ j : Nat, j < q → (leadsB S z j && reachN S m' j b) = false) ∧ Hid (wr.ownsRow (w.heap.size + 1) 3 1 (.slice a3 ys.length c3) ys.length (ints ys)) ∧ Hid (Box wr w.heap.size (.slice pa S.parts.length pc) (.slice ca S.chans.length cc) (.slice sa S.slots.length sc)) ∧ Hid (RowKit.Below w.heap.size w wr)) (fun i _ _ _ => S.parts.length - (intOf i).toNat)
            case atStart => exact ⟨0, rfl, rfl, rfl, Nat.zero_le _, fun j h => by omega, HO, HB, HT⟩
            case round =>
              clear HO HB HT
              obtain ⟨q, rfl, rfl, rfl, hq, HNO, HO, HB, HT⟩ := hrel
              have k0 := HB.out.p
              have k1 := HB.out.c
              have k2 := HB.out.s
              by_cases hqlt : q < S.parts.length
              · have hqi : (q : Int) < S.parts.length := by omega
                go_wp2_with fail
                refine (leads_any S hl _ _ _ _ _ _ (HS.out.up HT.out)).mono ?_
                rintro e w3 ⟨rfl, hb3⟩
                have HB3 := Lib.hid (HB.out.up hb3)
                have HO3 := Lib.hid (own_upF HO.out hb3)
                have HT3 := Lib.hid (HT.out.trans (hb3.mono HT.out.size))
                clear HB HT HO hb3 k0 k1 k2
                have k0 := HB3.out.p
                have k1 := HB3.out.c
                have k2 := HB3.out.s
                cases hle : leadsB S z q with
                | true =>
                  go_wp2_with fail
                  refine (reachesBy_any S hp hl b m' (by omega) _ _ _ _ _ (HS.out.up HT3.out)).mono ?_
                  rintro e w4 ⟨rfl, hb4⟩
                  have HB4 := Lib.hid (HB3.out.up hb4)
                  have HO4 := Lib.hid (own_upF HO3.out hb4)
                  have HT4 := Lib.hid (HT3.out.trans (hb4.mono HT3.out.size))
                  clear HB3 HT3 HO3 hb4 k0 k1 k2
                  cases hre2 : reachN S m' q b with
                  | true =>
                    have HW5 := Lib.hid (HW2.out q hqlt hle hre2 HNO.out)
                    have hw4 := HT4.out.size
                    have hb4l := HB4.out.lt
                    have HO5 := Lib.hid (HO4.out.alloc (.cells #[.int .i64 q] 3))
                    go_wp2_with (at_builtin; refine wpList_append_lies _ rfl (.tmp 52) (.tmp 54) 42 rfl (w.heap.size + 1) 3 i1 (.int .i64 0) 1 8 Tryd.underlying42 hi1 hy0 hy1 hy2 rfl (by decide) _ ys.length (ints ys) rfl HO5.out ⟨w4.heap.size, 0, none⟩ 1 1 [.int .i64 q] rfl rfl (new_rangeE _ _ _ _ rfl) (int_cell _) (by decide) (by have := HLL.out; unfold maxLen; omega) (by have := HLL.out; omega) (by simp; omega) _ rfl ?_)
                    intro g5 cap5 W5 hown hgrow hat hg5
                    have HO6 : Hid (W5.ownsRow (w.heap.size + 1) 3 1 (.slice (some ⟨g5, 0, none⟩) (ys.length + 1) cap5) (ys ++ [(q : Int)]).length (ints (ys ++ [(q : Int)]))) := Lib.hid (by simpa [ints] using hown)
                    have HT6 := Lib.hid ((HT4.out.alloc hw4 _).grown hgrow (by simp; omega) (fun q e => by have := own_block HO5.out q e; omega))
                    have HB6 := Lib.hid ((HB4.out.up ((RowKit.Below.refl _ _).alloc (Nat.le_refl _) _)).grownF hgrow (fun e => by have := own_block HO5.out _ e.symm; omega))
                    clear hown hgrow hat HO4 HO5 HT4 HB4
                    go_wp2
                    go_roundw
                    case rel => exact ⟨m', (q : Int), ys, by first | rfl | (rw [hN1]), rfl, by omega, HL2, HW5, HO6, HB6, HT6⟩
                    case measure => simp [intOf]; omega
                  | false =>
                    have HN2 : Hid (∀ j : Nat, j < q + 1 → (leadsB S z j && reachN S m' j b) = false) := Lib.hid (fun j hj => by
                      by_cases e : j = q
                      · subst e; rw [hre2, Bool.and_false]
                      · exact HNO.out j (by omega))
                    clear HNO
                    go_wp2
                    go_roundw
                    case rel => exact ⟨q + 1, by go_num, rfl, rfl, by omega, HN2, HO4, HB4, HT4⟩
                    case measure => simp [intOf]; omega
                | false =>
                  have HN2 : Hid (∀ j : Nat, j < q + 1 → (leadsB S z j && reachN S m' j b) = false) := Lib.hid (fun j hj => by
                    by_cases e : j = q
                    · subst e; rw [hle, Bool.false_and]
                    · exact HNO.out j (by omega))
                  clear HNO
                  go_wp2
                  go_roundw
                  case rel => exact ⟨q + 1, by go_num, rfl, rfl, by omega, HN2, HO3, HB3, HT3⟩
                  case measure => simp [intOf]; omega
              · exact (HW3.out (fun d hd => HNO.out d (by omega))).elim
      | false =>
        have HN2 : Hid (∀ j : Nat, j < k + 1 → reachN S j a b = false) := Lib.hid (fun j hj => by
          by_cases e : j = k
          · subst e; exact hre
          · exact HNO.out j (by omega))
        clear HNO
        go_wp2
        go_roundw
        case rel => exact ⟨k + 1, by go_num, by omega, HN2, HB2, HT2⟩
        case measure => simp [intOf]; omega
    · have hli : ¬ (k : Int) < S.parts.length := by omega
      have HP := Lib.hid (path_no (S := S) (a := a) (b := b) (fun j hj => HNO.out j (by omega)))
      go_wp2
      go_ret2
      refine ⟨_, by rw [HP.out.2]; rfl, ?_, HT.out⟩
      rw [HP.out.1]
      exact Sl.nil _ _
end Go.Proofs.YthpljbbhpbijgaaDoor

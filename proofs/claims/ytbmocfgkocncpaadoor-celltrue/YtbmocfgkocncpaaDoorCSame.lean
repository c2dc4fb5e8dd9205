/- The reference's SameInts. -/
import Derived.Test.YtbmocfgkocncpaaDoorProg
import Derived.Test.YtbmocfgkocncpaaDoorCBase
namespace Go.Proofs.YtbmocfgkocncpaaDoor
set_option linter.unusedSimpArgs false
set_option linter.unusedVariables false
open Go.RowKit Go.Sort

set_option maxHeartbeats 1000000 in
/-- SameInts: are they the same? -/
theorem sameInts_any (xs ys : List Int) (v u : Value) (w : World) (hx : Sl w 1 v xs.length (ints xs)) (hy : Sl w 1 u ys.length (ints ys)) (hm : xs.length < 4294967281) (r : Bool) (hr : decide (xs = ys) = r) :
    Calls Tryd.prog 16 #[v, u] w fun e w' => e = .returned (.bool r) ∧ Below w.heap.size w w' := by
  obtain ⟨ax, cx, rfl⟩ := hx.form
  obtain ⟨ay, cy, rfl⟩ := hy.form
  by_cases hl : xs.length = ys.length
  · have hl' : ((xs.length : Int) != (ys.length : Int)) = false := by simp; omega
    have HX := Lib.hid hx
    have HY := Lib.hid hy
    have HL := Lib.hid hl
    have HR := Lib.hid hr
    clear hx hy hl hr
    go_enter Tryd.func16, Tryd.ntmps16
    go_wp2
    go_loopw [5] (fun i wr => ∃ k : Nat, i = .int .i64 k ∧ k ≤ xs.length ∧ Hid (xs.take k = ys.take k) ∧ Below w.heap.size w wr) (fun i _ => xs.length - (intOf i).toNat)
    case atStart => exact ⟨0, rfl, Nat.zero_le _, rfl, Below.refl _ _⟩
    case round =>
      obtain ⟨k, rfl, hk, HZ, hbel⟩ := hrel
      by_cases hlt : k < xs.length
      · have hly : k < ys.length := by have := HL.out; omega
        obtain ⟨b, off, cap, e1, hcap, hbw, hc⟩ := HX.out.open (by omega)
        obtain ⟨b', off', cap', e2, hcap', hbw', hc'⟩ := HY.out.open (by omega)
        cases e1
        cases e2
        have c0 := bcl hbel hbw (hc k _ (ints_at xs k hlt))
        have c1 := bcl hbel hbw' (hc' k _ (ints_at ys k hly))
        have i1 : (0 : Int) ≤ k := by omega
        have i2 : (k : Int) < xs.length := by omega
        have i3 : (k : Int) < ys.length := by omega
        have HT : Hid (xs[k] = ys[k] → xs.take (k + 1) = ys.take (k + 1)) := fun e => by
          rw [List.take_succ_eq_append_getElem hlt, List.take_succ_eq_append_getElem hly, e, HZ.out]
        have HN : Hid (xs[k] ≠ ys[k] → r = false) := fun hne => by
          rw [← HR.out]
          simp only [decide_eq_false_iff_not]
          intro e
          subst e
          exact hne rfl
        clear hc hc' HZ
        by_cases hq : xs[k] = ys[k]
        · have hq' : (xs[k] != ys[k]) = false := by simp [hq]
          have HQ := Lib.hid (HT.out hq)
          clear hq HT HN
          go_wp2
          go_region
          all_goals go_wp2
          all_goals
            go_roundw
            case rel => exact ⟨k + 1, by go_num, by omega, HQ, by first | exact hbel | exact hbel.drew⟩
            case measure => simp [intOf]; omega
        · have hq' : (xs[k] != ys[k]) = true := by simp [hq]
          have HQ := Lib.hid (HN.out hq)
          clear hq HT HN
          go_wp2
          go_region
          all_goals go_wp2
          all_goals go_ret
          all_goals exact ⟨ret_bool (by rw [HQ.out]), by first | exact hbel | exact hbel.drew⟩
      · have hkc : ¬ (k : Int) < xs.length := by omega
        have HQ : Hid (true = r) := by
          show true = r
          have h := HZ.out
          rw [List.take_of_length_le (by omega), List.take_of_length_le (by have := HL.out; omega)] at h
          rw [← HR.out, h]; simp
        go_wp2
        go_ret
        exact ⟨ret_bool HQ.out, hbel⟩
  · have hl' : ((xs.length : Int) != (ys.length : Int)) = true := by simp; omega
    have HR : Hid (false = r) := by
      show false = r
      rw [← hr]
      symm
      simp only [decide_eq_false_iff_not]
      intro e; subst e; exact hl rfl
    clear hx hy hl hr
    go_enter Tryd.func16, Tryd.ntmps16
    go_wp2
    go_ret
    exact ⟨ret_bool HR.out, Below.refl _ _⟩
end Go.Proofs.YtbmocfgkocncpaaDoor

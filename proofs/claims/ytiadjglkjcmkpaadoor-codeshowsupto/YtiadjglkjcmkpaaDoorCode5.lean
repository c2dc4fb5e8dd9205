/- A part of the proofs over this seat's laws: what a function of the program, or of the reference, answers and leaves, told by its theorems below. -/
import Derived.Test.YtiadjglkjcmkpaaDoorCode4
namespace Go.Proofs.YtiadjglkjcmkpaaDoor
set_option linter.unusedSimpArgs false
set_option linter.unusedVariables false
open Go.RowKit Go.Sort

theorem textC_nil {l : List Ins} (h : textC l = []) : l = [] := by
  cases l with
  | nil => rfl
  | cons i r => simp [textC] at h
/-- A right program's text is read as it. -/
theorem readC_text (l : List Ins) (hl : AllR l) (h1 : 1 ≤ l.length) (h2 : l.length ≤ 20) (s : List UInt8) (hs : textC l = s) (w : World) (he : Env w) :
    Calls Tryd.prog 25 #[.string ⟨s.toArray⟩] w fun e w' => ∃ v, e = .returned (.tuple #[v, .int .i64 0]) ∧ Sl w' 4 v l.length (codeC l) ∧ Below w.heap.size w w' := by
  have hlen := textC_len l hl
  refine (readC_any s w he (by rw [← hs]; omega)).mono ?_
  rintro e w' ⟨h, hb⟩
  rcases h with ⟨v, l', rfl, hown, hl', _, _, ht⟩ | ⟨_, hno⟩
  · obtain ⟨r, e, hr⟩ := text_prefix l l' [] hl hl' (by rw [ht, hs, List.append_nil])
    rw [textC_nil hr, List.append_nil] at e
    subst e
    exact ⟨v, rfl, own_sl hown, hb⟩
  · exact absurd hs (hno l hl h1 h2)

set_option maxHeartbeats 1000000 in
theorem sameCode_any (l : List Ins) (v u : Value) (w : World) (hx : Sl w 4 v l.length (codeC l)) (hy : Sl w 4 u l.length (codeC l)) (hm : l.length < 4294967281) :
    Calls Tryd.prog 27 #[v, u] w fun e w' => e = .returned (.bool true) ∧ Below w.heap.size w w' := by
  obtain ⟨ax, cx, rfl⟩ := hx.form
  obtain ⟨ay, cy, rfl⟩ := hy.form
  have hl' : ((l.length : Int) != (l.length : Int)) = false := by simp
  have HX := Lib.hid hx
  have HY := Lib.hid hy
  clear hx hy
  go_enter Tryd.func27, Tryd.ntmps27
  go_wp2
  go_loopw [5] (fun i wr => ∃ k : Nat, i = .int .i64 k ∧ k ≤ l.length ∧ Below w.heap.size w wr) (fun i _ => l.length - (intOf i).toNat)
  case atStart => exact ⟨0, rfl, Nat.zero_le _, Below.refl _ _⟩
  case round =>
    obtain ⟨k, rfl, hk, hbel⟩ := hrel
    by_cases hlt : k < l.length
    · obtain ⟨b, off, cap, e1, hcap, hbw, hc⟩ := HX.out.open (by omega)
      obtain ⟨b', off', cap', e2, hcap', hbw', hc'⟩ := HY.out.open (by omega)
      cases e1
      cases e2
      obtain ⟨c0, c1, c2, c3⟩ := code_cells hc k hlt
      obtain ⟨d0, d1, d2, d3⟩ := code_cells hc' k hlt
      have c0 := bcl hbel hbw c0
      have c1 := bcl hbel hbw c1
      have c2 := bcl hbel hbw c2
      have c3 := bcl hbel hbw c3
      have d0 := bcl hbel hbw' d0
      have d1 := bcl hbel hbw' d1
      have d2 := bcl hbel hbw' d2
      have d3 := bcl hbel hbw' d3
      have i1 : (0 : Int) ≤ k := by omega
      have i2 : (k : Int) < l.length := by omega
      have k1 : (l[k].op == l[k].op) = true := by simp
      have k2 : (l[k].a == l[k].a) = true := by simp
      have k3 : (l[k].b == l[k].b) = true := by simp
      have k4 : (l[k].n == l[k].n) = true := by simp
      clear hc hc'
      go_wp2
      go_region
      all_goals go_wp2
      all_goals
        go_roundw
        case rel => exact ⟨k + 1, by go_num, by omega, by first | exact hbel | exact hbel.drew⟩
        case measure => simp [intOf]; omega
    · have hkc : ¬ (k : Int) < l.length := by omega
      go_wp2
      go_ret
      exact ⟨rfl, hbel⟩

/-- Puts and Gets. -/
theorem puts_yes (l : List Ins) (v : Value) (w : World) (he : Env w) (hS : Sl w 4 v l.length (codeC l)) (hc0 : chkC l = 0) :
    Calls Tryd.prog 16 #[v] w fun e w' => ∃ v', e = .returned (.tuple #[v', .int .i64 0]) ∧ Sl w' 1 v' (chanL l 12 6).length (ints (chanL l 12 6)) ∧ Below w.heap.size w w' := by
  go_enter Tryd.func16, Tryd.ntmps16
  go_wp2_with (go_at_call 38; refine (channels_yes l 12 (Or.inl rfl) v _ he hS hc0).mono ?_; rintro e w1 ⟨v', rfl, hown, hb1⟩)
  go_ret2
  exact ⟨v', rfl, own_sl hown, hb1⟩
theorem gets_yes (l : List Ins) (v : Value) (w : World) (he : Env w) (hS : Sl w 4 v l.length (codeC l)) (hc0 : chkC l = 0) :
    Calls Tryd.prog 17 #[v] w fun e w' => ∃ v', e = .returned (.tuple #[v', .int .i64 0]) ∧ Sl w' 1 v' (chanL l 13 6).length (ints (chanL l 13 6)) ∧ Below w.heap.size w w' := by
  go_enter Tryd.func17, Tryd.ntmps17
  go_wp2_with (go_at_call 38; refine (channels_yes l 13 (Or.inr rfl) v _ he hS hc0).mono ?_; rintro e w1 ⟨v', rfl, hown, hb1⟩)
  go_ret2
  exact ⟨v', rfl, own_sl hown, hb1⟩
theorem puts_no (l : List Ins) (v : Value) (w : World) (he : Env w) (hS : Sl w 4 v l.length (codeC l)) (c : Int) (hc : chkC l = c) (hc0 : c ≠ 0) :
    Calls Tryd.prog 16 #[v] w fun e w' => e = .returned (.tuple #[.slice none 0 0, .int .i64 c]) ∧ Below w.heap.size w w' := by
  go_enter Tryd.func16, Tryd.ntmps16
  go_wp2_with (go_at_call 38; refine (channels_no l 12 v _ he hS c hc hc0).mono ?_; rintro e w1 ⟨rfl, hb1⟩)
  go_ret2
  exact ⟨rfl, hb1⟩
theorem gets_no (l : List Ins) (v : Value) (w : World) (he : Env w) (hS : Sl w 4 v l.length (codeC l)) (c : Int) (hc : chkC l = c) (hc0 : c ≠ 0) :
    Calls Tryd.prog 17 #[v] w fun e w' => e = .returned (.tuple #[.slice none 0 0, .int .i64 c]) ∧ Below w.heap.size w w' := by
  go_enter Tryd.func17, Tryd.ntmps17
  go_wp2_with (go_at_call 38; refine (channels_no l 13 v _ he hS c hc hc0).mono ?_; rintro e w1 ⟨rfl, hb1⟩)
  go_ret2
  exact ⟨rfl, hb1⟩

/-- The program that the laws begin with. -/
def tellerL : List Ins := [⟨13, 0, 1, 0⟩, ⟨9, 1, 0, 0⟩, ⟨11, 0, 0, 0⟩, ⟨12, 0, 0, 1⟩, ⟨8, 0, 0, 0⟩]
theorem teller_chk : chkC tellerL = 0 := by decide +kernel
theorem teller_ok : ∀ j (hj : j < tellerL.length), tellerL[j].ok := by
  have h : ∀ i ∈ tellerL, i.ok := by
    intro i hi
    simp only [tellerL, List.mem_cons, List.not_mem_nil, or_false] at hi
    rcases hi with rfl | rfl | rfl | rfl | rfl <;>
      exact ⟨⟨by decide, by decide⟩, ⟨by decide, by decide⟩, ⟨by decide, by decide⟩, ⟨by decide, by decide⟩⟩
  exact fun j hj => h _ (List.getElem_mem hj)
theorem teller_all : AllR tellerL := fun j hj => ⟨teller_ok j hj, (chkC_zero teller_chk).2.2 j hj⟩
theorem teller_puts : chanL tellerL 12 6 = [1] := by decide +kernel
theorem teller_gets : chanL tellerL 13 6 = [0] := by decide +kernel
theorem teller_text : textC tellerL = [103, 101, 116, 32, 48, 32, 49, 32, 48, 10, 122, 101, 114, 111, 32, 49, 32, 48, 10, 111, 117, 116, 32, 48, 10, 112, 117, 116, 32, 48, 32, 49, 10, 106, 117, 109, 112, 32, 48, 10] := by
  simp only [tellerL, textC, Ins.txt]
  unfold txt
  rw [it0, it1]
  rfl

set_option maxRecDepth 100000 in
theorem teller_any (w : World) : Calls Tryd.prog 39 #[] w fun e w' => ∃ v, e = .returned v ∧ Sl w' 4 v 5 (codeC tellerL) ∧ Below w.heap.size w w' := by
  go_enter Tryd.func39, Tryd.ntmps39
  go_wp2
  go_ret
  refine ⟨_, rfl, ⟨rfl, _, _, rfl, Nat.le_refl _, fun _ => ⟨_, 0, rfl, by simp, fun j u hj => ?_⟩⟩, (by repeat (first | exact Below.refl _ _ | assumption | refine Below.drew ?_ | refine Below.alloc ?_ (by simp) _ | refine Below.setCell ?_ (by simp) _))⟩
  rw [Nat.zero_add, World.cell?_alloc_new, ← Array.getElem?_toList]
  exact hj

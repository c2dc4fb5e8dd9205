/- What the reference asks of a system, instruction by instruction; the errors, one by one. -/
import Derived.Test.YthpljbbhpbijgaaDoorCf4
namespace Go.Proofs.YthpljbbhpbijgaaDoor
set_option linter.unusedSimpArgs false
set_option linter.unusedVariables false
open Go.RowKit Go.Sort

/-- Does an instruction name a channel that is not its own? -/
def insBad (l : List Chn) (me : Int) (i : Ins) : Bool := (i.op == 12 && putBad l me i.n) || (i.op == 13 && getBad l me i.n)
theorem chanL_mem {l : List Ins} {op : Int} {m : Nat} {c : Int} : c ∈ chanL l op m ↔ ∃ n : Nat, c = n ∧ n < m ∧ ∃ i ∈ l, i.op = op ∧ i.n = c := by
  unfold chanL hasC
  constructor
  · intro h
    obtain ⟨n, hn, e⟩ := List.mem_map.1 h
    obtain ⟨h1, h2⟩ := List.mem_filter.1 hn
    obtain ⟨i, hi, hq⟩ := List.any_eq_true.1 h2
    simp at hq h1
    exact ⟨n, e.symm, h1, i, hi, hq.1, by rw [hq.2]; exact e⟩
  · rintro ⟨n, e, hn, i, hi, h1, h2⟩
    refine List.mem_map.2 ⟨n, List.mem_filter.2 ⟨by simpa using hn, List.any_eq_true.2 ⟨i, hi, ?_⟩⟩, e.symm⟩
    simp [h1, h2, e]
theorem nameBad_ins (l : List Chn) (me : Int) (p : Prt) (h : chkC p.code = 0) : nameBad l me p = p.code.any (insBad l me) := by
  have hz : ∀ i ∈ p.code, i.chk = 0 := fun i hi => by
    obtain ⟨j, hj, rfl⟩ := List.getElem_of_mem hi
    exact (chkC_zero h).2.2 j hj
  rw [Bool.eq_iff_iff]
  unfold nameBad
  rw [Bool.or_eq_true, List.any_eq_true, List.any_eq_true, List.any_eq_true]
  constructor
  · rintro (⟨c, hc, hb⟩ | ⟨c, hc, hb⟩)
    · obtain ⟨n, rfl, hn, i, hi, h1, h2⟩ := chanL_mem.1 hc
      exact ⟨i, hi, by unfold insBad; rw [h1, h2, hb]; rfl⟩
    · obtain ⟨n, rfl, hn, i, hi, h1, h2⟩ := chanL_mem.1 hc
      exact ⟨i, hi, by unfold insBad; rw [h1, h2, hb]; rfl⟩
  · rintro ⟨i, hi, hb⟩
    unfold insBad at hb
    rw [Bool.or_eq_true, Bool.and_eq_true, Bool.and_eq_true] at hb
    rcases hb with ⟨h1, h2⟩ | ⟨h1, h2⟩
    · have h1 : i.op = 12 := by simpa using h1
      have := chk_chan (hz i hi) (Or.inl h1)
      exact Or.inl ⟨i.n, chanL_mem.2 ⟨i.n.toNat, by omega, by omega, i, hi, h1, rfl⟩, h2⟩
    · have h1 : i.op = 13 := by simpa using h1
      have := chk_chan (hz i hi) (Or.inr h1)
      exact Or.inr ⟨i.n, chanL_mem.2 ⟨i.n.toNat, by omega, by omega, i, hi, h1, rfl⟩, h2⟩

theorem chkS_counts {S : SysD} (h : countsB S = false) : chkS S = 2 := by unfold chkS; rw [if_pos h]
theorem chkS_code {S : SysD} (h : countsB S = true) {k : Nat} (hk : k < S.parts.length) (hz : ∀ j (hj : j < S.parts.length), j < k → chkC S.parts[j].code = 0) {z : Int} (hc : chkC S.parts[k].code = z) (h0 : z ≠ 0) : chkS S = z := by
  have := firstP_at S.parts k hk hz (by rw [hc]; exact h0)
  unfold chkS
  rw [if_neg (by simp [h]), this, hc, if_pos h0]
theorem chkS_kind {S : SysD} (h : countsB S = true) (hz : ∀ j (hj : j < S.parts.length), chkC S.parts[j].code = 0) (hk : S.chans.any kindBad = true) : chkS S = 4 := by
  unfold chkS
  rw [if_neg (by simp [h]), firstP_all S.parts hz, if_neg (by simp), if_pos hk]
theorem chkS_places {S : SysD} (h : countsB S = true) (hz : ∀ j (hj : j < S.parts.length), chkC S.parts[j].code = 0) (hk : S.chans.any kindBad = false) (hp : placesB S = false) : chkS S = 3 := by
  unfold chkS
  rw [if_neg (by simp [h]), firstP_all S.parts hz, if_neg (by simp), if_neg (by simp [hk]), if_pos hp]
theorem chkS_names {S : SysD} (h : countsB S = true) (hz : ∀ j (hj : j < S.parts.length), chkC S.parts[j].code = 0) (hk : S.chans.any kindBad = false) (hp : placesB S = true) (hn : namesB S = false) : chkS S = 1 := by
  unfold chkS
  rw [if_neg (by simp [h]), firstP_all S.parts hz, if_neg (by simp), if_neg (by simp [hk]), if_neg (by simp [hp]), if_pos hn]
theorem chkS_ok {S : SysD} (h : countsB S = true) (hz : ∀ j (hj : j < S.parts.length), chkC S.parts[j].code = 0) (hk : S.chans.any kindBad = false) (hp : placesB S = true) (hn : namesB S = true) : chkS S = 0 := by
  unfold chkS
  rw [if_neg (by simp [h]), firstP_all S.parts hz, if_neg (by simp), if_neg (by simp [hk]), if_neg (by simp [hp]), if_neg (by simp [hn])]
theorem countsB_mk {S : SysD} (h : 1 ≤ S.parts.length ∧ S.parts.length ≤ 4 ∧ S.chans.length ≤ 6 ∧ 1 ≤ S.slots.length ∧ S.slots.length ≤ 6) (hi : ∀ j (hj : j < S.parts.length), S.parts[j].inn.length ≤ 12) : countsB S = true := by
  unfold countsB
  rw [Bool.and_eq_true]
  refine ⟨by simpa using h, ?_⟩
  rw [Bool.not_eq_true', List.any_eq_false]
  intro p hp
  obtain ⟨j, hj, rfl⟩ := List.getElem_of_mem hp
  have := hi j hj
  simp; omega
theorem countsB_no1 {S : SysD} (h : ¬ (1 ≤ S.parts.length ∧ S.parts.length ≤ 4 ∧ S.chans.length ≤ 6 ∧ 1 ≤ S.slots.length ∧ S.slots.length ≤ 6)) : countsB S = false := by
  unfold countsB
  rw [Bool.and_eq_false_iff]
  exact Or.inl (by simpa using h)
theorem countsB_no2 {S : SysD} {j : Nat} (hj : j < S.parts.length) (h : 12 < S.parts[j].inn.length) : countsB S = false := by
  unfold countsB
  rw [Bool.and_eq_false_iff]
  refine Or.inr ?_
  rw [Bool.not_eq_false']
  exact any_mem hj (by simpa using h)
theorem countsB_is {S : SysD} (h : countsB S = true) : (1 ≤ S.parts.length ∧ S.parts.length ≤ 4 ∧ S.chans.length ≤ 6 ∧ 1 ≤ S.slots.length ∧ S.slots.length ≤ 6) ∧ ∀ j (hj : j < S.parts.length), S.parts[j].inn.length ≤ 12 := by
  unfold countsB at h
  rw [Bool.and_eq_true] at h
  refine ⟨by simpa using h.1, fun j hj => ?_⟩
  have h2 := h.2
  rw [Bool.not_eq_true', List.any_eq_false] at h2
  have := h2 _ (List.getElem_mem hj)
  simp at this; omega

theorem placesB_no1 {S : SysD} (h : S.chans.any (placeBad S.parts.length) = true) : placesB S = false := by unfold placesB; rw [h]; rfl
theorem placesB_no2 {S : SysD} (h : S.slots.any (slotBad S.parts.length) = true) : placesB S = false := by unfold placesB; rw [h]; simp
theorem placesB_yes {S : SysD} (h1 : S.chans.any (placeBad S.parts.length) = false) (h2 : S.slots.any (slotBad S.parts.length) = false) : placesB S = true := by unfold placesB; rw [h1, h2]; rfl
theorem namesB_no {S : SysD} {k : Nat} (hk : k < S.parts.length) (hz : chkC S.parts[k].code = 0) (h : S.parts[k].code.any (insBad S.chans (k : Int)) = true) : namesB S = false :=
  namesFrom_at S.chans S.parts 0 k hk (by rw [Nat.zero_add, nameBad_ins _ _ _ hz]; exact h)
theorem namesB_yes {S : SysD} (hz : ∀ j (hj : j < S.parts.length), chkC S.parts[j].code = 0) (h : ∀ k (hk : k < S.parts.length), S.parts[k].code.any (insBad S.chans (k : Int)) = false) : namesB S = true :=
  namesFrom_all S.chans S.parts 0 (fun j hj => by rw [Nat.zero_add, nameBad_ins _ _ _ (hz j hj)]; exact h j hj)
theorem putBad_lt {l : List Chn} {me : Int} {m : Nat} (h : m < l.length) : putBad l me (m : Int) = (l[m].fr != me) := by
  unfold putBad
  rw [show ((m : Int)).toNat = m from rfl, List.getElem?_eq_getElem h]
theorem putBad_ge {l : List Chn} {me : Int} {m : Nat} (h : ¬ m < l.length) : putBad l me (m : Int) = true := by
  unfold putBad
  rw [show ((m : Int)).toNat = m from rfl, List.getElem?_eq_none (by omega)]
theorem getBad_lt {l : List Chn} {me : Int} {m : Nat} (h : m < l.length) : getBad l me (m : Int) = (l[m].tt != me) := by
  unfold getBad
  rw [show ((m : Int)).toNat = m from rfl, List.getElem?_eq_getElem h]
theorem getBad_ge {l : List Chn} {me : Int} {m : Nat} (h : ¬ m < l.length) : getBad l me (m : Int) = true := by
  unfold getBad
  rw [show ((m : Int)).toNat = m from rfl, List.getElem?_eq_none (by omega)]

set_option maxHeartbeats 1000000 in
theorem kindRef_any (kd : Int) (w : World) : Calls Tryd.prog 34 #[.int .i64 kd] w fun e w' => e = .returned (.bool (kd == 1 || kd == 2)) ∧ w' = w := by
  generalize h1 : (kd == 1) = q1
  generalize h2 : (kd == 2) = q2
  cases q1 <;> cases q2
  all_goals
    go_enter Tryd.func34, Tryd.ntmps34
    go_wp2
    go_ret
    exact ⟨rfl, rfl⟩
end Go.Proofs.YthpljbbhpbijgaaDoor

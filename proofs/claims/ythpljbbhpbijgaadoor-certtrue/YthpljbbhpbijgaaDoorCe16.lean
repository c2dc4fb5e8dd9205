/- What is certified is verified: the plain words. -/
import Derived.Test.YthpljbbhpbijgaaDoorCe15
namespace Go.Proofs.YthpljbbhpbijgaaDoor
set_option linter.unusedSimpArgs false
set_option linter.unusedVariables false
open Go.RowKit Go.Sort Go.Shelf Go.Lib Go.Maps

theorem closed_step {E : List Edg} {l : List Int} (hc : closedB E l = true) {y x : Int} (he : (⟨y, x⟩ : Edg) ∈ E) (hx : x ∈ l) : y ∈ l := by
  unfold closedB at hc
  rw [Bool.not_eq_true', List.any_eq_false] at hc
  have := hc _ he
  simp only [Bool.and_eq_true, Bool.not_eq_true', not_and, Bool.not_eq_false] at this
  exact inB_iff.1 (this (inB_iff.2 hx))
theorem walk_into {E : List Edg} {l : List Int} (hc : closedB E l = true) {a : Int} {p : List Int} (h : WalkR E a p) : ∀ x, p.head? = some x → x ∈ l → a ∈ l := by
  induction h with
  | one =>
    intro x hx hl
    simp at hx
    exact hx ▸ hl
  | @step x y q hw he ih =>
    intro z hz hl
    simp at hz
    subst hz
    exact ih y rfl (closed_step hc he hl)
theorem pairs_mem {n : Nat} {p : Nat → Nat → Bool} {a b : Nat} (ha : a < n) (hb : b < n) (h : p a b = true) : (⟨a, b⟩ : Edg) ∈ pairsL n p := by
  unfold pairsL outP
  rw [List.mem_flatMap]
  refine ⟨a, List.mem_range.2 ha, ?_⟩
  unfold rowP
  rw [List.mem_map]
  exact ⟨b, List.mem_filter.2 ⟨List.mem_range.2 hb, h⟩, rfl⟩
/-- Where any certificate is right nothing leaks. -/
theorem cert_no_leak {S : SysD} {L : List Edg} {ss : List (List Int)} (h : CertRight S L ss) : leakL S L = [] := by
  cases hk : leakL S L with
  | nil => rfl
  | cons e r =>
    exfalso
    obtain ⟨a, b, ha, hb, rfl, hr, hm⟩ := leak_in (S := S) (L := L) (e := e) (by rw [hk]; simp)
    have hbl : b < ss.length := by rw [h.1]; exact hb
    obtain ⟨_, hin, hcl, hmy⟩ := h.2 b hbl
    obtain ⟨q, hw, _⟩ := (reachN_iff S _ a b ⟨by omega, by omega⟩).1 hr
    have := hmy a (walk_into hcl hw b rfl (inB_iff.1 hin))
    rw [hm] at this
    cases this
theorem setF_mem {p : Nat → Nat → Bool} {k b : Nat} {x : Int} : x ∈ setF p k b ↔ ∃ a : Nat, a < k ∧ p a b = true ∧ x = a := by
  unfold setF
  rw [List.mem_map]
  constructor
  · rintro ⟨a, ha, rfl⟩
    obtain ⟨h1, h2⟩ := List.mem_filter.1 ha
    exact ⟨a, List.mem_range.1 h1, h2, rfl⟩
  · rintro ⟨a, ha, hp, rfl⟩
    exact ⟨a, List.mem_filter.2 ⟨List.mem_range.2 ha, hp⟩, rfl⟩
theorem setF_up (p : Nat → Nat → Bool) (n b : Nat) : SetUp n (setF p n b) (setF p n b).length := by
  have hp : (setF p n b).Pairwise (· < ·) := by
    unfold setF
    rw [List.pairwise_map]
    refine List.Pairwise.imp (fun {a c} (h : a < c) => by omega) (List.Pairwise.filter _ List.pairwise_lt_range)
  intro j hj _
  refine ⟨?_, fun h0 => (List.pairwise_iff_getElem.1 hp) (j - 1) j (by omega) hj (by omega)⟩
  obtain ⟨a, ha, _, e⟩ := setF_mem.1 (List.getElem_mem hj)
  rw [e]
  unfold withinB
  simp
  omega
/-- What is certified is right. -/
theorem cert_right {S : SysD} {L : List Edg} (h7 : S.parts.length ≤ 7) (hl : leakL S L = []) (hs : ∀ a b : Nat, a < S.parts.length → b < S.parts.length → ∃ l, SearchR (edgesL S) a b l (reachB S a b)) : CertRight S L (certS S) := by
  unfold certS
  rw [gath_is]
  refine ⟨by simp, fun u hu => ?_⟩
  have hun : u < S.parts.length := by simpa using hu
  simp only [List.getElem_map, List.getElem_range]
  have hself : reachB S u u = true := reachN_eq S u _
  refine ⟨setF_up _ _ _, inB_iff.2 (setF_mem.2 ⟨u, hun, hself, rfl⟩), ?_, fun x hx => ?_⟩
  · unfold closedB
    rw [Bool.not_eq_true', List.any_eq_false]
    intro e he
    obtain ⟨⟨f0, f1⟩, ⟨t0, t1⟩, hle⟩ := edgesL_mem.1 (show (⟨e.fr, e.tt⟩ : Edg) ∈ edgesL S from he)
    simp only [Bool.and_eq_true, Bool.not_eq_true', not_and, Bool.not_eq_false]
    intro ht
    obtain ⟨t, ht1, ht2, ht3⟩ := setF_mem.1 (inB_iff.1 ht)
    refine inB_iff.2 (setF_mem.2 ⟨e.fr.toNat, by omega, ?_, by omega⟩)
    have hf : ((e.fr.toNat : Nat) : Int) = e.fr := Int.toNat_of_nonneg f0
    obtain ⟨l, hsr⟩ := hs e.fr.toNat u (by omega) hun
    show reachB S (e.fr.toNat : Nat) u = true
    rw [hf] at hsr ⊢
    have h1 : reachB S e.fr t = true := by
      unfold reachB
      rw [reachN_iff S _ _ _ ⟨f0, f1⟩]
      exact ⟨[e.fr], .step .one (by rw [← ht3]; exact he), by simp; omega⟩
    exact reach_trans h7 ⟨f0, f1⟩ ⟨by omega, by omega⟩ hsr h1 ht2
  · obtain ⟨a, ha, hr, rfl⟩ := setF_mem.1 hx
    cases hm : mayB L a u with
    | true => rfl
    | false =>
      have := pairs_mem (p := fun a b => reachB S a b && !(mayB L a b)) ha hun (by show (reachB S a u && !(mayB L a u)) = true; rw [hm, show reachB S a u = true from hr]; rfl)
      rw [show pairsL S.parts.length (fun a b => reachB S a b && !(mayB L a b)) = [] from hl] at this
      cases this
/-- The path that is told. -/
theorem leak_path {S : SysD} {L : List Edg} (h7 : S.parts.length ≤ 7) {a b : Nat} (ha : a < S.parts.length) (hr : reachB S a b = true) (hm : mayB L a b = false) (hs : ∃ l, SearchR (edgesL S) a b l (reachB S a b)) :
    ∃ h0 : 2 ≤ (pathL S a b).length, (pathL S a b)[0] = (a : Int) ∧ (pathL S a b)[(pathL S a b).length - 1] = (b : Int) ∧ a ≠ b := by
  have hne : a ≠ b := fun e => by
    subst e
    unfold mayB at hm
    simp at hm
  obtain ⟨l, hsr⟩ := hs
  rw [hr] at hsr
  obtain ⟨e1, _⟩ := search_path h7 ⟨by omega, by omega⟩ hsr
  obtain ⟨h0, h1, h2, _, _⟩ := path_way h7 ⟨by omega, by omega⟩ hsr
  subst e1
  have h3 : 2 ≤ (pathL S a b).length := by
    rcases Nat.lt_or_ge 1 (pathL S a b).length with h | h
    · omega
    · exfalso
      have h4 : (pathL S a b).length - 1 = 0 := by omega
      simp only [h4] at h2
      rw [h1] at h2
      omega
  exact ⟨h3, h1, h2, hne⟩
theorem may_not {L : List Edg} {a b : Int} (h : mayB L a b = false) {k : Nat} (hk : k < L.length) : L[k] ≠ ⟨a, b⟩ := fun e => by
  unfold mayB at h
  rw [Bool.or_eq_false_iff, List.any_eq_false] at h
  have := h.2 _ (List.getElem_mem hk)
  rw [e] at this
  simp [edIs] at this
end Go.Proofs.YthpljbbhpbijgaaDoor

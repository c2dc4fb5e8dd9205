/- The ways back rise in the order of coming. -/
import Derived.Test.YtehhhiodfcdnmaaGreatDoorR29
namespace Go.Proofs.YtehhhiodfcdnmaaGreatDoor
set_option linter.unusedSimpArgs false
set_option linter.unusedVariables false
open Go.RowKit Go.Sort Go.Shelf Go.Lib Go.Maps
def Lim (V : Vis) (c : Int) : Prop := ∀ (i : Nat) (x u : Int) (p : List Int), V[i]? = some (x, u) → Back V x p → code p < c
def Ordd (V : Vis) : Prop := ∀ (i j : Nat) (x y u v : Int) (p q : List Int), i < j → V[i]? = some (x, u) → V[j]? = some (y, v) → Back V x p → Back V y q → code p < code q
theorem Lim.mono {V : Vis} {c c' : Int} (h : Lim V c) (hc : c ≤ c') : Lim V c' := fun i x u p h1 h2 => by
 have := h i x u p h1 h2
 omega
theorem back_old {E : List Edg} {a : Int} {V : Vis} (hI : Inv E a V) {q : Int × Int} {i : Nat} {x u : Int} (hi : V[i]? = some (x, u)) {p : List Int} (h : Back (V ++ [q]) x p) : Back V x p := by
 obtain ⟨p0, hp0, _⟩ := hI.back i x u hi
 rw [h.uniq (hp0.app q)]
 exact hp0
theorem ord_add {E : List Edg} {a : Int} {V : Vis} (hI : Inv E a V) {k : Nat} {x z : Int} (hk : V[k]? = some (x, z)) {pk : List Int} (hp : Back V x pk) {e : Edg} {c : Int} (ho : Ordd V) (hl : Lim V c) (hc : e.fr = x → c ≤ code pk * 8 + e.tt + 1) :
  Ordd (addE x V e) ∧ (Lim (addE x V e) c ∨ (e.fr = x ∧ Lim (addE x V e) (code pk * 8 + e.tt + 2))) := by
 by_cases h : e.fr = x ∧ V.lookup e.tt = none
 ·have hadd : addE x V e = V ++ [(e.tt, x)] := if_pos h
  rw [hadd]
  have hc' := hc h.1
  have hne : x ≠ e.tt := look_none.1 h.2 _ (List.mem_of_getElem? hk)
  have hnew : Back (V ++ [(e.tt, x)]) e.tt (e.tt :: pk) := .step (by rw [List.lookup_append, h.2]; simp) hne (hp.app _)
  have hcn : code (e.tt :: pk) = code pk * 8 + e.tt + 1 := rfl
  have split : ∀ (i : Nat) (y v : Int), (V ++ [(e.tt, x)])[i]? = some (y, v) → (V[i]? = some (y, v) ∧ i < V.length) ∨ (i = V.length ∧ y = e.tt) := fun i y v hi => by
   by_cases hlt : i < V.length
   ·rw [List.getElem?_append_left hlt] at hi
    exact .inl ⟨hi, hlt⟩
   ·have hi2 : i = V.length := by
     have := (List.getElem?_eq_some_iff.1 hi).1
     simp at this
     omega
    subst hi2
    simp at hi
    exact .inr ⟨rfl, hi.1.symm⟩
  refine ⟨fun i j y1 y2 v1 v2 p q hij h1 h2 b1 b2 => ?_, .inr ⟨h.1, fun i y v p h1 b1 => ?_⟩⟩
  ·rcases split i y1 v1 h1 with ⟨h1, hi1⟩ | ⟨hi1, _⟩
   ·rcases split j y2 v2 h2 with ⟨h2, _⟩ | ⟨_, rfl⟩
    ·exact ho i j y1 y2 v1 v2 p q hij h1 h2 (back_old hI h1 b1) (back_old hI h2 b2)
    ·have := hl i y1 v1 p h1 (back_old hI h1 b1)
     rw [b2.uniq hnew, hcn]
     omega
   ·have := (List.getElem?_eq_some_iff.1 h2).1
    simp at this
    omega
  ·rcases split i y v h1 with ⟨h1, _⟩ | ⟨_, rfl⟩
   ·have := hl i y v p h1 (back_old hI h1 b1)
    omega
   ·rw [b1.uniq hnew, hcn]
    omega
 ·have hadd : addE x V e = V := if_neg h
  rw [hadd]
  exact ⟨ho, .inl hl⟩
theorem ord_all {E : List Edg} {a : Int} {k : Nat} {x z : Int} {pk : List Int} : ∀ (l : List Edg) {V : Vis} (c : Int), Inv E a V → (∀ e ∈ l, e ∈ E) → l.Pairwise ltE → V[k]? = some (x, z) → Back V x pk → Ordd V → Lim V c → (∀ e ∈ l, e.fr = x → c ≤ code pk * 8 + e.tt + 1) → c ≤ code pk * 8 + 8 → (∀ e ∈ l, e.tt ≤ 6) →
  Ordd (addAll x V l) ∧ Lim (addAll x V l) (code pk * 8 + 8)
 | [], V, c, _, _, _, _, _, ho, hl, _, hc8, _ => ⟨ho, hl.mono hc8⟩
 | e :: r, V, c, hI, hm, hs, hk, hp, ho, hl, hc, hc8, h6 => by
  rw [List.pairwise_cons] at hs
  have ha := ord_add hI hk hp (e := e) ho hl (hc e (by simp))
  have hI2 := hI.add (hm e (by simp)) hk
  have hk2 := addE_at (x := x) (e := e) hk
  have hp2 := hp.addE x e
  have h6e := h6 e (by simp)
  rcases ha.2 with hl2 | ⟨hfe, hl2⟩
  ·exact ord_all r c hI2 (fun e' he => hm e' (by simp [he])) hs.2 hk2 hp2 ha.1 hl2 (fun e' he => hc e' (by simp [he])) hc8 (fun e' he => h6 e' (by simp [he]))
  ·refine ord_all r (code pk * 8 + e.tt + 2) hI2 (fun e' he => hm e' (by simp [he])) hs.2 hk2 hp2 ha.1 hl2 (fun e' he hfe' => ?_) om (fun e' he => h6 e' (by simp [he]))
   have := hs.1 e' he
   unfold ltE at this
   omega
theorem Bfs.ordd {E : List Edg} {a : Int} (hs : E.Pairwise ltE) (h0 : ∀ e ∈ E, 0 ≤ e.tt ∧ e.tt ≤ 6) (ha : 0 ≤ a) {V : Vis} {k : Nat} (h : Bfs E a V k) : Ordd V ∧ ∀ (x z : Int) (pk : List Int), V[k]? = some (x, z) → Back V x pk → Lim V (code pk * 8 + 1) := by
 induction h with
 | start =>
  have hone : ∀ (i : Nat) (x u : Int), [(a, a)][i]? = some (x, u) → i = 0 ∧ x = a := fun i x u hi => by
   have := (List.getElem?_eq_some_iff.1 hi).1
   simp at this
   subst this
   simp at hi
   exact ⟨rfl, hi.1.symm⟩
  have hb : Back [(a, a)] a [a] := .root (by simp)
  refine ⟨fun i j x y u v p q hij h1 h2 _ _ => ?_, fun x z pk h1 hpk i y u p h2 hp => ?_⟩
  ·have := (hone _ _ _ h1).1
   have := (hone _ _ _ h2).1
   omega
  ·obtain ⟨_, rfl⟩ := hone _ _ _ h1
   obtain ⟨_, rfl⟩ := hone _ _ _ h2
   rw [hpk.uniq hb, hp.uniq hb]
   simp [code]
   omega
 | @pop V k x y h hk ih =>
  obtain ⟨hI, _⟩ := h.inv
  obtain ⟨pk, hpk, _⟩ := hI.back k x y hk
  have hall := ord_all (E := E) (a := a) E (code pk * 8 + 1) hI (fun _ h => h) hs hk hpk ih.1 (ih.2 x y pk hk hpk) (fun e he _ => by have := h0 e he; omega) om (fun e he => (h0 e he).2)
  refine ⟨hall.1, fun x' z' pk' h1 hb' => hall.2.mono ?_⟩
  have hpk2 : ∀ (l : List Edg) {V : Vis}, Back V x pk → Back (Go.Proofs.YtehhhiodfcdnmaaGreatDoor.addAll x V l) x pk := fun l => by
   induction l with
   | nil => exact fun h => h
   | cons e r ih => exact fun h => ih (h.addE x e)
  have := hall.1 k (k + 1) x x' y z' pk pk' om (addAll_at E hk) h1 (hpk2 E hpk) hb'
  omega
theorem addE_split {x : Int} {V : Vis} {e : Edg} {i : Nat} {y v : Int} (h : (addE x V e)[i]? = some (y, v)) : V[i]? = some (y, v) ∨ (v = x ∧ V.length ≤ i) := by
 by_cases hc : e.fr = x ∧ V.lookup e.tt = none
 ·have hadd : addE x V e = V ++ [(e.tt, x)] := if_pos hc
  rw [hadd] at h
  by_cases hlt : i < V.length
  ·rw [List.getElem?_append_left hlt] at h
   exact .inl h
  ·have hi2 : i = V.length := by
    have := (List.getElem?_eq_some_iff.1 h).1
    simp at this
    omega
   subst hi2
   simp at h
   exact .inr ⟨h.2.symm, Nat.le_refl _⟩
 ·have hadd : addE x V e = V := if_neg hc
  rw [hadd] at h
  exact .inl h
theorem addAll_split {x : Int} : ∀ (l : List Edg) {V : Vis} {i : Nat} {y v : Int}, (addAll x V l)[i]? = some (y, v) → V[i]? = some (y, v) ∨ (v = x ∧ V.length ≤ i)
 | [], V, i, y, v, h => .inl h
 | e :: r, V, i, y, v, h => by
  rcases addAll_split r (V := addE x V e) h with h | ⟨h1, h2⟩
  ·exact addE_split h
  ·exact .inr ⟨h1, Nat.le_trans addE_len h2⟩
theorem look_some {V : Vis} {x : Int} (h : V.lookup x ≠ none) : ∃ (i : Nat) (v : Int), V[i]? = some (x, v) := by
 have : ¬ ∀ q ∈ V, q.1 ≠ x := fun h2 => h (look_none.2 h2)
 simp only [Classical.not_forall] at this
 obtain ⟨q, hq, he⟩ := this
 have he : q.1 = x := Classical.not_not.1 he
 obtain ⟨i, hi, e⟩ := List.getElem_of_mem hq
 exact ⟨i, q.2, by rw [List.getElem?_eq_getElem hi, e, ← he]⟩
theorem addAll_has {x : Int} : ∀ (l : List Edg) {V : Vis} {e : Edg}, e ∈ l → e.fr = x → ∃ (i : Nat) (v : Int), (addAll x V l)[i]? = some (e.tt, v)
 | e0 :: r, V, e, he, hf => by
  rcases List.mem_cons.1 he with rfl | he
  ·have : ∃ (i : Nat) (v : Int), (addE x V e)[i]? = some (e.tt, v) := by
    by_cases hl : V.lookup e.tt = none
    ·have hadd : addE x V e = V ++ [(e.tt, x)] := if_pos ⟨hf, hl⟩
     rw [hadd]
     exact ⟨V.length, x, by simp⟩
    ·obtain ⟨i, v, h⟩ := look_some hl
     exact ⟨i, v, addE_at h⟩
   obtain ⟨i, v, h⟩ := this
   exact ⟨i, v, addAll_at r h⟩
  ·exact addAll_has r he hf
theorem Bfs.full {E : List Edg} {a : Int} {V : Vis} {k : Nat} (h : Bfs E a V k) :
  (∀ (i : Nat) (x y : Int), V[i]? = some (x, y) → 0 < i → ∃ j, j < k ∧ j < i ∧ ∃ z, V[j]? = some (y, z)) ∧
  (∀ (i : Nat) (u z : Int), i < k → V[i]? = some (u, z) → ∀ e ∈ E, e.fr = u → ∃ (i' : Nat) (v : Int), V[i']? = some (e.tt, v) ∧ (i' = 0 ∨ ∃ j, j ≤ i ∧ ∃ z', V[j]? = some (v, z'))) := by
 induction h with
 | start => exact ⟨fun i x y hi h0 => by
   have := (List.getElem?_eq_some_iff.1 hi).1
   simp at this
   omega, fun i u z hi => by omega⟩
 | @pop V k x y h hk ih =>
  obtain ⟨ih1, ih2⟩ := ih
  have hkl := (List.getElem?_eq_some_iff.1 hk).1
  refine ⟨fun i u v hi h0 => ?_, fun i u z hi hu e he hf => ?_⟩
  ·rcases addAll_split E hi with h1 | ⟨h1, h2⟩
   ·obtain ⟨j, hj, hji, z, hz⟩ := ih1 i u v h1 h0
    exact ⟨j, by omega, hji, z, addAll_at E hz⟩
   ·subst h1
    exact ⟨k, by omega, by omega, y, addAll_at E hk⟩
  ·by_cases hik : i = k
   ·subst hik
    rw [addAll_at E hk] at hu
    cases hu
    obtain ⟨i', v, hi'⟩ := addAll_has (x := x) E (V := V) he hf
    refine ⟨i', v, hi', ?_⟩
    rcases addAll_split E hi' with h1 | ⟨h1, h2⟩
    ·by_cases h0 : i' = 0
     ·exact .inl h0
     ·obtain ⟨j, hj, _, z, hz⟩ := ih1 i' _ v h1 om
      exact .inr ⟨j, by omega, z, addAll_at E hz⟩
    ·subst h1
     exact .inr ⟨i, Nat.le_refl _, y, addAll_at E hk⟩
   ·have hlt : i < V.length := by omega
    have hV : V[i]? = some (u, z) := by
     have h3 : V[i]? = some (V[i].1, V[i].2) := List.getElem?_eq_getElem hlt
     rw [addAll_at E h3] at hu
     rw [h3]
     exact hu
    obtain ⟨i', v, h1, h2⟩ := ih2 i u z om hV e he hf
    refine ⟨i', v, addAll_at E h1, ?_⟩
    rcases h2 with h2 | ⟨j, hj, z', hz⟩
    ·exact .inl h2
    ·exact .inr ⟨j, hj, z', addAll_at E hz⟩
theorem walk_pos {E : List Edg} {a : Int} (ha : 0 ≤ a) (h0 : ∀ e ∈ E, 0 ≤ e.tt ∧ e.tt ≤ 6) {r : List Int} (h : WalkR E a r) : 0 < code r := by
 induction h with
 | one => simp [code]; omega
 | step h he ih =>
  have := (h0 _ he).1
  simp only [code] at *
  omega
theorem step_le {E : List Edg} {a : Int} {V : Vis} {k : Nat} (h : Bfs E a V k) (ho : Ordd V) {i : Nat} {y u : Int} {q : List Int} (hi : i < k) (hy : V[i]? = some (y, u)) (hq : Back V y q) (h0 : 0 ≤ code q) {x : Int} (he : (⟨y, x⟩ : Edg) ∈ E) (hx : 0 ≤ x) :
  ∃ (i' : Nat) (v : Int) (q' : List Int), V[i']? = some (x, v) ∧ Back V x q' ∧ code q' ≤ code q * 8 + x + 1 := by
 obtain ⟨i', v, h1, h2⟩ := h.full.2 i y u hi hy ⟨y, x⟩ he rfl
 obtain ⟨hI, _⟩ := h.inv
 obtain ⟨q', hq', hjunk⟩ := hI.back i' x v h1
 clear hjunk
 refine ⟨i', v, q', h1, hq', ?_⟩
 cases hq' with
 | root hr => simp [code]; omega
 | @step _ y' p' hr hne hp =>
  have hv := look_at hI.nd h1
  rw [hr] at hv
  cases hv
  rcases h2 with h2 | ⟨j, hj, z', hz⟩
  ·subst h2
   rw [hI.hd] at h1
   simp at h1
   exact absurd (h1.2.symm.trans h1.1) hne
  ·have hle : code p' ≤ code q := by
    by_cases e : j = i
    ·subst e
     rw [hz] at hy
     cases hy
     rw [hp.uniq hq]
     exact Int.le_refl _
    ·have := ho j i _ _ _ _ _ _ om hz hy hp hq
     omega
   simp only [code]
   omega
theorem Bfs.least {E : List Edg} {a : Int} (hs : E.Pairwise ltE) (h0 : ∀ e ∈ E, 0 ≤ e.tt ∧ e.tt ≤ 6) (ha : 0 ≤ a) {V : Vis} {k : Nat} (h : Bfs E a V k) {r : List Int} (hr : WalkR E a r) :
  ∃ y r', r = y :: r' ∧ ((∃ (i : Nat) (u : Int) (q : List Int), V[i]? = some (y, u) ∧ Back V y q ∧ code q ≤ code r) ∨ ∃ (x z : Int) (pk : List Int), V[k]? = some (x, z) ∧ Back V x pk ∧ code pk * 8 + 1 ≤ code r) := by
 have ho := (h.ordd hs h0 ha).1
 obtain ⟨hI, hkl⟩ := h.inv
 have pos : ∀ {x : Int} {q : List Int} {i : Nat} {u : Int}, V[i]? = some (x, u) → Back V x q → 0 < code q := fun hi hq => walk_pos ha h0 (hq.walk hI ⟨_, List.mem_of_getElem? hi⟩)
 induction hr with
 | one =>
  exact ⟨a, [], rfl, .inl ⟨0, a, [a], hI.hd, .root (look_at hI.nd hI.hd), Int.le_refl _⟩⟩
 | @step x y p hw he ih =>
  refine ⟨x, y :: p, rfl, ?_⟩
  have hx := (h0 _ he).1
  simp only at hx
  have hc : code (x :: y :: p) = code (y :: p) * 8 + x + 1 := rfl
  obtain ⟨y', r', e, ih⟩ := ih
  cases e
  rcases ih with ⟨i, u, q, hi, hq, hle⟩ | ⟨x1, z1, pk, h1, h2, h3⟩
  ·have hp := pos hi hq
   by_cases hik : i < k
   ·obtain ⟨i', v, q', h1, h2, h3⟩ := step_le h ho hik hi hq om he hx
    exact .inl ⟨i', v, q', h1, h2, by omega⟩
   ·have hil := (List.getElem?_eq_some_iff.1 hi).1
    have hkk : k < V.length := by omega
    have hvk : V[k]? = some (V[k].1, V[k].2) := List.getElem?_eq_getElem hkk
    obtain ⟨pk, hpk, _⟩ := hI.back k _ _ hvk
    refine .inr ⟨_, _, pk, hvk, hpk, ?_⟩
    have hle2 : code pk ≤ code q := by
     by_cases e : i = k
     ·subst e
      rw [hvk] at hi
      cases hi
      rw [hpk.uniq hq]
      exact Int.le_refl _
     ·have := ho k i _ _ _ _ _ _ om hvk hi hpk hq
      omega
    omega
  ·have hp := pos h1 h2
   exact .inr ⟨x1, z1, pk, h1, h2, by omega⟩
theorem search_found {E : List Edg} {a b : Int} (hs : E.Pairwise ltE) (h0 : ∀ e ∈ E, 0 ≤ e.tt ∧ e.tt ≤ 6) (ha : 0 ≤ a) {n : Nat} (hE : EdgIn E n) (han : a < n) {l : List Int} (h : SearchR E a b l true) :
  ∃ p, l = (b :: p).reverse ∧ WalkR E a (b :: p) ∧ (b :: p).length ≤ n ∧ ∀ r, WalkR E a (b :: r) → code (b :: p) ≤ code (b :: r) := by
 rcases h with ⟨_, V, k, y, p, hB, hk, hp, rfl⟩ | ⟨h, _⟩
 ·obtain ⟨hI, hkl⟩ := hB.inv
  obtain ⟨p', rfl⟩ := hp.head
  have hw := hp.walk hI ⟨_, List.mem_of_getElem? hk⟩
  have hlen := hI.len hE ⟨ha, han⟩
  obtain ⟨p2, hp2, hl2, _⟩ := hI.back k b y hk
  have e := hp.uniq hp2
  have hkk := (List.getElem?_eq_some_iff.1 hk).1
  refine ⟨p', rfl, hw, by rw [e]; omega, fun r hr => ?_⟩
  obtain ⟨y', r', e, hh⟩ := hB.least hs h0 ha hr
  cases e
  rcases hh with ⟨i, u, q, hi, hq, hle⟩ | ⟨x1, z1, pk, h1, h2, h3⟩
  ·rw [hp.uniq hq]
   exact hle
  ·rw [hk] at h1
   cases h1
   rw [h2.uniq hp] at h3
   have := walk_pos ha h0 hw
   omega
 ·cases h
theorem search_none {E : List Edg} {a b : Int} (hs : E.Pairwise ltE) (h0 : ∀ e ∈ E, 0 ≤ e.tt ∧ e.tt ≤ 6) (ha : 0 ≤ a) {l : List Int} (h : SearchR E a b l false) : l = [] ∧ ∀ r, ¬ WalkR E a (b :: r) := by
 rcases h with ⟨h, _⟩ | ⟨_, rfl, V, hB, hn⟩
 ·cases h
 ·refine ⟨rfl, fun r hr => ?_⟩
  obtain ⟨y', r', e, hh⟩ := hB.least hs h0 ha hr
  cases e
  rcases hh with ⟨i, u, q, hi, _⟩ | ⟨x1, z1, pk, h1, _⟩
  ·exact hn _ (List.mem_of_getElem? hi) rfl
  ·have := (List.getElem?_eq_some_iff.1 h1).1
   omega
theorem walk_front {E : List Edg} {a c : Int} (he : (⟨a, c⟩ : Edg) ∈ E) {r : List Int} (h : WalkR E c r) : WalkR E a (r ++ [a]) := by
 induction h with
 | one => exact .step .one he
 | step h he2 ih => exact .step ih he2
theorem walk_cut {E : List Edg} {a : Int} {r : List Int} (h : WalkR E a r) : r = [a] ∨ ∃ c r0, (⟨a, c⟩ : Edg) ∈ E ∧ r = r0 ++ [a] ∧ WalkR E c r0 := by
 induction h with
 | one => exact .inl rfl
 | @step x y p h he ih =>
  rcases ih with e | ⟨c, r0, hc, e, hw⟩
  ·cases e
   exact .inr ⟨x, [x], he, rfl, .one⟩
  ·have : ∃ r1, r0 = y :: r1 := by
    cases hw with
    | one => simp at e; exact ⟨[], by rw [e.1]⟩
    | step _ _ => simp at e; exact ⟨_, by rw [e.1]⟩
   obtain ⟨r1, rfl⟩ := this
   simp at e
   subst e
   exact .inr ⟨c, x :: y :: r1, hc, rfl, .step hw he⟩
def reachN (S : SysD) : Nat → Int → Int → Bool
 | 0, a, b => a == b
 | m + 1, a, b => a == b || (List.range S.parts.length).any fun (c : Nat) => leadsB S a c && reachN S m c b
theorem edgesL_mem {S : SysD} {a b : Int} : (⟨a, b⟩ : Edg) ∈ edgesL S ↔ (0 ≤ a ∧ a < S.parts.length) ∧ (0 ≤ b ∧ b < S.parts.length) ∧ leadsB S a b = true := by
 unfold edgesL
 rw [outL_mem]
 constructor
 ·rintro ⟨x, y, hx, hy, e, hl⟩
  cases e
  exact ⟨by omega, by omega, hl⟩
 ·rintro ⟨ha, hb, hl⟩
  refine ⟨a.toNat, b.toNat, by omega, by omega, by simp; omega, ?_⟩
  rw [Int.toNat_of_nonneg ha.1, Int.toNat_of_nonneg hb.1]
  exact hl
theorem reachN_iff (S : SysD) : ∀ (m : Nat) (a b : Int), 0 ≤ a ∧ a < S.parts.length → (reachN S m a b = true ↔ ∃ r, WalkR (edgesL S) a (b :: r) ∧ r.length ≤ m)
 | 0, a, b, ha => by
  simp only [reachN, beq_iff_eq]
  constructor
  ·rintro rfl
   exact ⟨[], .one, by simp⟩
  ·rintro ⟨r, hr, hl⟩
   have : r = [] := List.eq_nil_of_length_eq_zero om
   subst this
   rcases walk_cut hr with e | ⟨c, r0, _, e, hw⟩
   ·cases e; rfl
   ·cases hw <;> simp at e
 | m + 1, a, b, ha => by
  simp only [reachN, Bool.or_eq_true, beq_iff_eq, List.any_eq_true, List.mem_range, Bool.and_eq_true]
  constructor
  ·rintro (rfl | ⟨c, hc, hl, hr⟩)
   ·exact ⟨[], .one, by simp⟩
   ·obtain ⟨r, hw, hlen⟩ := (reachN_iff S m c b om).1 hr
    exact ⟨r ++ [a], walk_front (edgesL_mem.2 ⟨ha, by omega, hl⟩) hw, by simp; omega⟩
  ·rintro ⟨r, hr, hlen⟩
   rcases walk_cut hr with e | ⟨c, r0, hc, e, hw⟩
   ·cases e; exact .inl rfl
   ·right
    obtain ⟨_, hcb, hl⟩ := edgesL_mem.1 hc
    have : ∃ r1, r0 = b :: r1 := by
     cases hw with
     | one => simp at e; exact ⟨[], by rw [e.1]⟩
     | step _ _ => simp at e; exact ⟨_, by rw [e.1]⟩
    obtain ⟨r1, rfl⟩ := this
    simp at e
    subst e
    refine ⟨c.toNat, by omega, ?_⟩
    rw [Int.toNat_of_nonneg hcb.1]
    exact ⟨hl, (reachN_iff S m c b hcb).2 ⟨r1, hw, by simp at hlen; omega⟩⟩
theorem code_snoc (a : Int) : ∀ r : List Int, code (r ++ [a]) = code r + (a + 1) * 8 ^ r.length
 | [] => by simp [code]
 | x :: r => by
  have ih := code_snoc a r
  simp only [List.cons_append, code, List.length_cons]
  rw [ih, Int.add_mul, Int.mul_assoc, ← Int.pow_succ]
  show code r * 8 + (a + 1) * 8 ^ (r.length + 1) + x + 1 = _
  omega
theorem code_lt : ∀ {r : List Int}, (∀ x ∈ r, 0 ≤ x ∧ x ≤ 6) → 0 ≤ code r ∧ code r < 8 ^ r.length
 | [], _ => by simp [code]
 | x :: r, h => by
  have ih := code_lt (r := r) (fun y hy => h y (by simp [hy]))
  have hx := h x (by simp)
  simp only [code, List.length_cons, Int.pow_succ]
  omega
theorem walk_in {E : List Edg} {a : Int} {n : Nat} (hE : EdgIn E n) (ha : 0 ≤ a ∧ a < n) {r : List Int} (h : WalkR E a r) : ∀ x ∈ r, 0 ≤ x ∧ x < n := by
 induction h with
 | one => intro x hx; simp at hx; rw [hx]; exact ha
 | step h he ih =>
  intro x hx
  rcases List.mem_cons.1 hx with rfl | hx
  ·exact ⟨(hE _ he).2.2.1, (hE _ he).2.2.2⟩
  ·exact ih x hx
theorem walk_last {E : List Edg} {a : Int} {r : List Int} (h : WalkR E a r) : ∃ r0, r = r0 ++ [a] := by
 rcases walk_cut h with e | ⟨_, r0, _, e, _⟩
 ·exact ⟨[], e⟩
 ·exact ⟨r0, e⟩
theorem code_less {E : List Edg} {a c : Int} {n : Nat} (hn : n ≤ 7) (hE : EdgIn E n) (ha : 0 ≤ a ∧ a < n) (hc : 0 ≤ c ∧ c < n) {p r : List Int} (hp : WalkR E a p) (hr : WalkR E c r) (hl : p.length = r.length) (hac : a < c) : code p < code r := by
 have ip := walk_in hE ha hp
 have ir := walk_in hE hc hr
 obtain ⟨p0, rfl⟩ := walk_last hp
 obtain ⟨r0, rfl⟩ := walk_last hr
 have hl0 : p0.length = r0.length := by simpa using hl
 have bp := code_lt (r := p0) (fun x hx => by have := ip x (by simp [hx]); omega)
 have br := code_lt (r := r0) (fun x hx => by have := ir x (by simp [hx]); omega)
 rw [code_snoc, code_snoc, hl0]
 rw [hl0] at bp
 have hpos : (0 : Int) < 8 ^ r0.length := Int.pow_pos (by decide)
 have : (a + 1) * 8 ^ r0.length + 8 ^ r0.length ≤ (c + 1) * 8 ^ r0.length := by
  have h1 : (a + 1 + 1) * (8 : Int) ^ r0.length ≤ (c + 1) * 8 ^ r0.length := Int.mul_le_mul_of_nonneg_right om om
  rw [Int.add_mul (a + 1) 1, Int.one_mul] at h1
  exact h1
 omega
theorem code_inj : ∀ {p q : List Int}, (∀ x ∈ p, 0 ≤ x ∧ x ≤ 6) → (∀ x ∈ q, 0 ≤ x ∧ x ≤ 6) → code p = code q → p = q
 | [], [], _, _, _ => rfl
 | [], y :: q, _, hq, h => by
  have := (code_lt (r := q) (fun x hx => hq x (by simp [hx]))).1
  have := hq y (by simp)
  simp only [code] at h
  omega
 | x :: p, [], hp, _, h => by
  have := (code_lt (r := p) (fun x hx => hp x (by simp [hx]))).1
  have := hp x (by simp)
  simp only [code] at h
  omega
 | x :: p, y :: q, hp, hq, h => by
  have hx := hp x (by simp)
  have hy := hq y (by simp)
  simp only [code] at h
  have h1 : x = y := by omega
  have h2 : code p = code q := by omega
  rw [h1, code_inj (fun x hx => hp x (by simp [hx])) (fun x hx => hq x (by simp [hx])) h2]
def flNextC (S : SysD) (n : Nat) (x b : Int) : Option Nat := (List.range S.parts.length).find? fun (c : Nat) => leadsB S x c && reachN S n c b
def fwd (S : SysD) (b : Int) : Nat → Int → List Int
 | 0, x => [x]
 | n + 1, x => match flNextC S n x b with
  | some c => x :: fwd S b n c
  | none => [x]
theorem next_some {S : SysD} {n : Nat} {x b : Int} (hx : 0 ≤ x ∧ x < S.parts.length) (hr : reachN S (n + 1) x b = true) (hne : x ≠ b) :
  ∃ c : Nat, flNextC S n x b = some c ∧ c < S.parts.length ∧ leadsB S x c = true ∧ reachN S n c b = true ∧ ∀ d : Nat, d < c → ¬ (leadsB S x d = true ∧ reachN S n d b = true) := by
 simp only [reachN, Bool.or_eq_true, beq_iff_eq, List.any_eq_true, List.mem_range, Bool.and_eq_true] at hr
 rcases hr with e | ⟨c0, hc0, h0⟩
 ·exact absurd e hne
 ·cases hf : flNextC S n x b with
  | none =>
   unfold flNextC at hf
   rw [List.find?_eq_none] at hf
   exact absurd (by simpa using h0) (hf c0 (List.mem_range.2 hc0))
  | some c =>
   unfold flNextC at hf
   rw [List.find?_range_eq_some] at hf
   obtain ⟨h1, h2, h3⟩ := hf
   simp only [Bool.and_eq_true] at h1
   refine ⟨c, rfl, List.mem_range.1 h2, h1.1, h1.2, fun d hd hdd => ?_⟩
   have := h3 d hd
   simp [hdd.1, hdd.2] at this
theorem edgesL_in (S : SysD) : EdgIn (edgesL S) S.parts.length := fun e he => by
 obtain ⟨a, b, ha, hb, rfl, _⟩ := outL_mem.1 (show e ∈ outL S S.parts.length S.parts.length from he)
 simp
 omega
theorem fwd_least (S : SysD) (h7 : S.parts.length ≤ 7) (b : Int) : ∀ (n : Nat) (x : Int), 0 ≤ x ∧ x < S.parts.length → reachN S n x b = true → (∀ m, m < n → reachN S m x b = false) →
  ∃ p, fwd S b n x = (b :: p).reverse ∧ WalkR (edgesL S) x (b :: p) ∧ p.length = n ∧ ∀ r, WalkR (edgesL S) x (b :: r) → r.length = n → code (b :: p) ≤ code (b :: r)
 | 0, x, hx, hr, _ => by
  simp only [reachN, beq_iff_eq] at hr
  subst hr
  refine ⟨[], rfl, .one, rfl, fun r _ hl => ?_⟩
  have : r = [] := List.eq_nil_of_length_eq_zero hl
  subst this
  exact Int.le_refl _
 | n + 1, x, hx, hr, hmin => by
  have hne : x ≠ b := fun e => by
   have := hmin 0 om
   simp [reachN, e] at this
  obtain ⟨c, hc, hcl, hle, hrc, hleast⟩ := next_some hx hr hne
  have hci : 0 ≤ (c : Int) ∧ (c : Int) < S.parts.length := by omega
  have hup : ∀ m, reachN S m c b = true → reachN S (m + 1) x b = true := fun m hm => by
   simp only [reachN, Bool.or_eq_true, List.any_eq_true, List.mem_range, Bool.and_eq_true]
   exact .inr ⟨c, hcl, hle, hm⟩
  obtain ⟨p, e1, e2, e3, e4⟩ := fwd_least S h7 b n c hci hrc (fun m hm => by
   cases h : reachN S m c b with
   | false => rfl
   | true =>
    have := hmin (m + 1) om
    rw [hup m h] at this
    cases this)
  have he : (⟨x, c⟩ : Edg) ∈ edgesL S := edgesL_mem.2 ⟨hx, hci, hle⟩
  refine ⟨p ++ [x], ?_, walk_front he e2, by simp [e3], fun r hr hl => ?_⟩
  ·simp only [fwd, hc]
   rw [e1]
   simp
  ·rcases walk_cut hr with e | ⟨d, r0, hd, e, hw⟩
   ·cases e; exact absurd rfl hne
   ·have : ∃ r1, r0 = b :: r1 := by
     cases hw with
     | one => simp at e; exact ⟨[], by rw [e.1]⟩
     | step _ _ => simp at e; exact ⟨_, by rw [e.1]⟩
    obtain ⟨r1, rfl⟩ := this
    simp at e
    subst e
    have hl1 : r1.length = n := by simpa using hl
    obtain ⟨_, hdi, hdl⟩ := edgesL_mem.1 hd
    have hrd : reachN S n d b = true := (reachN_iff S n d b hdi).2 ⟨r1, hw, by omega⟩
    have hcd : (c : Int) ≤ d := by
     by_cases h : (c : Int) ≤ d
     ·exact h
     ·have := hleast d.toNat om
      rw [Int.toNat_of_nonneg hdi.1] at this
      exact absurd ⟨hdl, hrd⟩ this
    have hcode : code (b :: p) ≤ code (b :: r1) := by
     by_cases e : (c : Int) = d
     ·rw [← e] at hw
      exact e4 r1 hw hl1
     ·have := code_less h7 (edgesL_in S) hci hdi e2 hw (by simp [e3, hl1]) om
      omega
    have s1 : code (b :: (p ++ [x])) = code (b :: p) + (x + 1) * 8 ^ (b :: p).length := code_snoc x (b :: p)
    have s2 : code (b :: (r1 ++ [x])) = code (b :: r1) + (x + 1) * 8 ^ (b :: r1).length := code_snoc x (b :: r1)
    have hll : (b :: p).length = (b :: r1).length := by simp [e3, hl1]
    rw [s1, s2, hll]
    omega
theorem edgesL_rise (S : SysD) : (edgesL S).Pairwise ltE := outL_rise S _ _
theorem code_ge {E : List Edg} {a : Int} {n : Nat} (hn : n ≤ 7) (hE : EdgIn E n) (ha : 0 ≤ a ∧ a < n) {r : List Int} (h : WalkR E a r) : ∃ r0, r = r0 ++ [a] ∧ 8 ^ r0.length ≤ code r := by
 have ir := walk_in hE ha h
 obtain ⟨r0, rfl⟩ := walk_last h
 refine ⟨r0, rfl, ?_⟩
 have b := (code_lt (r := r0) (fun x hx => by have := ir x (by simp [hx]); omega)).1
 rw [code_snoc]
 have hpos : (0 : Int) < 8 ^ r0.length := Int.pow_pos (by decide)
 have : 1 * (8 : Int) ^ r0.length ≤ (a + 1) * 8 ^ r0.length := Int.mul_le_mul_of_nonneg_right om om
 omega
theorem least_nat (P : Nat → Bool) : ∀ n, P n = true → ∃ m, m ≤ n ∧ P m = true ∧ ∀ j, j < m → P j = false := fun n => by
 induction n using Nat.strongRecOn with
 | _ n ih =>
  intro hn
  by_cases h : ∃ j, j < n ∧ P j = true
  ·obtain ⟨j, hj, hp⟩ := h
   obtain ⟨m, h1, h2, h3⟩ := ih j hj hp
   exact ⟨m, by omega, h2, h3⟩
  ·exact ⟨n, Nat.le_refl _, hn, fun j hj => by
    cases hp : P j with
    | false => rfl
    | true => exact absurd ⟨j, hj, hp⟩ h⟩
theorem path_eq {S : SysD} (h7 : S.parts.length ≤ 7) {a b : Int} (ha : 0 ≤ a ∧ a < S.parts.length) {l : List Int} (h : SearchR (edgesL S) a b l true) :
  ∃ n, n < S.parts.length ∧ reachN S n a b = true ∧ (∀ m, m < n → reachN S m a b = false) ∧ l = fwd S b n a := by
 have hE := edgesL_in S
 obtain ⟨p, rfl, hw, hlen, hmin⟩ := search_found (edgesL_rise S) (fun e he => by have := hE e he; omega) ha.1 hE ha.2 h
 obtain ⟨n, hn, hr, hless⟩ := least_nat (fun n => reachN S n a b) p.length ((reachN_iff S _ a b ha).2 ⟨p, hw, Nat.le_refl _⟩)
 obtain ⟨p', e1, e2, e3, e4⟩ := fwd_least S h7 b n a ha hr hless
 have hle := hmin p' e2
 have hpn : p.length = n := by
  by_cases hc : p.length = n
  ·exact hc
  ·obtain ⟨r0, er, hge⟩ := code_ge h7 hE ha hw
   have hl0 : p.length = r0.length := by have := congrArg List.length er; simp at this; exact this
   have i2 := walk_in hE ha e2
   have hlt := (code_lt (r := b :: p') (fun x hx => by have := i2 x hx; omega)).2
   have hpow : (8 : Int) ^ (b :: p').length ≤ 8 ^ r0.length := by
    have : (b :: p').length ≤ r0.length := by simp [e3]; omega
    exact_mod_cast Nat.pow_le_pow_right (by decide : 0 < 8) this
   omega
 have hge := e4 p hw hpn
 have i1 := walk_in hE ha hw
 have i2 := walk_in hE ha e2
 have heq : b :: p = b :: p' := code_inj (fun x hx => by have := i1 x hx; omega) (fun x hx => by have := i2 x hx; omega) om
 simp at hlen
 exact ⟨n, by omega, hr, hless, by rw [e1, heq]⟩
theorem path_none {S : SysD} (h7 : S.parts.length ≤ 7) {a b : Int} (ha : 0 ≤ a ∧ a < S.parts.length) {l : List Int} (h : SearchR (edgesL S) a b l false) : l = [] ∧ ∀ n, reachN S n a b = false := by
 have hE := edgesL_in S
 obtain ⟨h1, h2⟩ := search_none (edgesL_rise S) (fun e he => by have := hE e he; omega) ha.1 h
 refine ⟨h1, fun n => ?_⟩
 cases hr : reachN S n a b with
 | false => rfl
 | true =>
  obtain ⟨r, hw, _⟩ := (reachN_iff S n a b ha).1 hr
  exact absurd hw (h2 r)
def reachB (S : SysD) (a b : Int) : Bool := reachN S S.parts.length a b
theorem reachN_mono {S : SysD} {a b : Int} (ha : 0 ≤ a ∧ a < S.parts.length) {m n : Nat} (hm : m ≤ n) (h : reachN S m a b = true) : reachN S n a b = true := by
 obtain ⟨r, hw, hl⟩ := (reachN_iff S m a b ha).1 h
 exact (reachN_iff S n a b ha).2 ⟨r, hw, by omega⟩
theorem search_reach {S : SysD} (h7 : S.parts.length ≤ 7) {a b : Int} (ha : 0 ≤ a ∧ a < S.parts.length) {l : List Int} {r : Bool} (h : SearchR (edgesL S) a b l r) : r = reachB S a b := by
 unfold reachB
 cases r with
 | true =>
  obtain ⟨n, hn, hr, _⟩ := path_eq h7 ha h
  exact (reachN_mono ha om hr).symm
 | false => exact ((path_none h7 ha h).2 _).symm
theorem chk_flow {S : SysD} (h : chkS S = 0) : S.parts.length ≤ 4 ∧ 1 ≤ S.parts.length ∧ S.chans.length ≤ 6 ∧ EndsIn S := by
 unfold chkS at h
 split at h
 ·omega
 ·rename_i h1
  split at h
  ·rename_i h2; exact absurd h h2
  ·split at h
   ·omega
   ·split at h
    ·omega
    ·rename_i h4
     obtain ⟨hc, -⟩ := countsB_is (S := S) (by simpa using h1)
     refine ⟨hc.2.1, hc.1, hc.2.2.1, fun c hcm => ?_⟩
     have h5 : placesB S = true := by simpa using h4
     unfold placesB at h5
     rw [Bool.and_eq_true, Bool.not_eq_true', Bool.not_eq_true', List.any_eq_false, List.any_eq_false] at h5
     have h6 := h5.1 c hcm
     unfold placeBad withinB at h6
     simp only [Bool.or_eq_true, Bool.not_eq_true', Bool.and_eq_false_iff, decide_eq_false_iff_not, beq_iff_eq, not_or] at h6
     omega
end Go.Proofs.YtehhhiodfcdnmaaGreatDoor

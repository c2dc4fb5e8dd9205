/- Nobody changes what one sees but those who reach it: plain mathematics. -/
import Derived.Test.YtbkdoohhdkahiaaGreatDoorK7
import Derived.Test.YtbkdoohhdkahiaaGreatDoorK16
import Derived.Test.YtbkdoohhdkahiaaGreatDoorK12
import Derived.Deep.CutRange
import Derived.Deep.RegionWith
import Derived.Deep.RegionHeld3
import Derived.Deep.DrawnRows
import Derived.Test.YtbkdoohhdkahiaaGreatDoorK0
namespace Go.Proofs.YtbkdoohhdkahiaaGreatDoor
set_option linter.unusedSimpArgs false
set_option linter.unusedVariables false
open Go.RowKit Go.Sort
theorem filter_le {α : Type} (p q : α → Bool) : ∀ (l : List α), (∀ x ∈ l, p x = true → q x = true) → (l.filter p).length ≤ (l.filter q).length
  | [], _ => Nat.le_refl _
  | x :: l, h => by
    have ih := filter_le p q l (fun y hy => h y (by simp [hy]))
    cases hp : p x with
    | false =>
      rw [List.filter_cons_of_neg (by simp [hp])]
      cases hq : q x with
      | false => rw [List.filter_cons_of_neg (by simp [hq])]; exact ih
      | true => rw [List.filter_cons_of_pos hq]; simp; omega
    | true =>
      rw [List.filter_cons_of_pos hp, List.filter_cons_of_pos (h x (by simp) hp)]
      simp; omega
theorem filter_lt {α : Type} (p q : α → Bool) : ∀ (l : List α), (∀ x ∈ l, p x = true → q x = true) → (∃ x ∈ l, p x = false ∧ q x = true) → (l.filter p).length < (l.filter q).length
  | [], _, he => by obtain ⟨x, hx, _⟩ := he; cases hx
  | x :: l, h, he => by
    have hle := filter_le p q l (fun y hy => h y (by simp [hy]))
    obtain ⟨y, hy, h1, h2⟩ := he
    rcases List.mem_cons.1 hy with rfl | hy
    · rw [List.filter_cons_of_neg (by simp [h1]), List.filter_cons_of_pos h2]
      simp; omega
    · have ih := filter_lt p q l (fun z hz => h z (by simp [hz])) ⟨y, hy, h1, h2⟩
      cases hp : p x with
      | false =>
        rw [List.filter_cons_of_neg (by simp [hp])]
        cases hq : q x with
        | false => rw [List.filter_cons_of_neg (by simp [hq])]; exact ih
        | true => rw [List.filter_cons_of_pos hq]; simp; omega
      | true =>
        rw [List.filter_cons_of_pos hp, List.filter_cons_of_pos (h x (by simp) hp)]
        simp; omega
theorem reachN_stay {S : SysD} {b : Int} {m : Nat} (h : ∀ a : Nat, a < S.parts.length → reachN S m a b = reachN S (m + 1) a b) : ∀ a : Nat, a < S.parts.length → reachN S (m + 1) a b = reachN S (m + 2) a b := fun a _ => by
  rw [reachN, reachN]
  congr 1
  rw [Bool.eq_iff_iff, List.any_eq_true, List.any_eq_true]
  constructor
  · rintro ⟨c, hc, h1⟩
    exact ⟨c, hc, by rw [← h c (by simpa using hc)]; exact h1⟩
  · rintro ⟨c, hc, h1⟩
    exact ⟨c, hc, by rw [h c (by simpa using hc)]; exact h1⟩
theorem reachN_stays {S : SysD} {b : Int} {m : Nat} (h : ∀ a : Nat, a < S.parts.length → reachN S m a b = reachN S (m + 1) a b) : ∀ j, ∀ a : Nat, a < S.parts.length → reachN S (m + j) a b = reachN S (m + j + 1) a b
  | 0 => h
  | j + 1 => reachN_stay (reachN_stays h j)
def cntR (S : SysD) (b : Int) (m : Nat) : Nat := ((List.range S.parts.length).filter fun a : Nat => reachN S m a b).length
theorem cnt_grow {S : SysD} {b : Int} {n : Nat} (h : ∀ m, m ≤ n → ∃ a : Nat, a < S.parts.length ∧ reachN S m a b ≠ reachN S (m + 1) a b) : ∀ m, m ≤ n + 1 → m ≤ cntR S b m
  | 0, _ => Nat.zero_le _
  | m + 1, hm => by
    have ih := cnt_grow h m (by omega)
    obtain ⟨a, ha, hne⟩ := h m (by omega)
    have hmono : ∀ x ∈ List.range S.parts.length, reachN S m (x : Nat) b = true → reachN S (m + 1) (x : Nat) b = true := fun x hx h1 => reachN_mono (by have := List.mem_range.1 hx; omega) (Nat.le_succ m) h1
    have hlt := filter_lt (fun a : Nat => reachN S m a b) (fun a : Nat => reachN S (m + 1) a b) (List.range S.parts.length) hmono ⟨a, List.mem_range.2 ha, by
      cases h1 : reachN S m a b with
      | false =>
        refine ⟨rfl, ?_⟩
        cases h2 : reachN S (m + 1) a b with
        | false => rw [h1, h2] at hne; exact absurd rfl hne
        | true => rfl
      | true =>
        have := hmono a (List.mem_range.2 ha) h1
        rw [h1, this] at hne
        exact absurd rfl hne⟩
    unfold cntR at ih ⊢
    omega
theorem reach_closed {S : SysD} {b : Int} {a : Nat} (ha : a < S.parts.length) (h : reachN S (S.parts.length + 1) a b = true) : reachB S a b = true := by
  unfold reachB
  cases h0 : reachN S S.parts.length a b with
  | true => rfl
  | false =>
    have hall : ∀ m, m ≤ S.parts.length → ∃ a : Nat, a < S.parts.length ∧ reachN S m a b ≠ reachN S (m + 1) a b := fun m hm => by
      by_cases hc : ∃ a : Nat, a < S.parts.length ∧ reachN S m a b ≠ reachN S (m + 1) a b
      · exact hc
      · have hs : ∀ a : Nat, a < S.parts.length → reachN S m a b = reachN S (m + 1) a b := fun a ha => by
          cases h1 : decide (reachN S m a b = reachN S (m + 1) a b) with
          | true => exact of_decide_eq_true h1
          | false => exact absurd ⟨a, ha, of_decide_eq_false h1⟩ hc
        have := reachN_stays hs (S.parts.length - m) a ha
        rw [show m + (S.parts.length - m) = S.parts.length by omega, h0, h] at this
        cases this
    have h1 := cnt_grow hall (S.parts.length + 1) (Nat.le_refl _)
    have h2 : cntR S b (S.parts.length + 1) ≤ S.parts.length := by
      unfold cntR
      have := List.length_filter_le (fun a : Nat => reachN S (S.parts.length + 1) a b) (List.range S.parts.length)
      simpa using this
    omega
theorem reach_lead {S : SysD} {u : Int} {a c : Nat} (ha : a < S.parts.length) (hc : c < S.parts.length) (hl : leadsB S a c = true) (h : reachB S c u = true) : reachB S a u = true :=
  reach_closed ha (reachN_yes hc hl h)
theorem reach_me (S : SysD) (u : Int) : reachB S u u = true := reachN_eq S u _
theorem step_homeK {S : SysD} (h : chkS S = 0) {p : Nat} (hp : p < S.parts.length) {inn xs : List Int} {c : Cel} : (stepC S.parts[p].code inn xs c).2.2 = wntZ ∨ ∃ ch, S.chans[(stepC S.parts[p].code inn xs c).2.2.ch.toNat]? = some ch ∧ (((stepC S.parts[p].code inn xs c).2.2.k = 12 ∧ ch.fr = p) ∨ ((stepC S.parts[p].code inn xs c).2.2.k = 13 ∧ ch.tt = p)) := by
  obtain ⟨-, hc, -, -, hn⟩ := chkS_zero h
  have hcode := hc p hp
  have hnb := names_at (l := S.chans) (k := 0) hn p hp
  unfold nameBad at hnb
  rw [Bool.or_eq_false_iff, List.any_eq_false, List.any_eq_false] at hnb
  have hfe : firstE S.parts[p].code = 0 := by
    unfold chkC at hcode
    split at hcode
    · omega
    · exact hcode
  unfold stepC
  split
  · unfold runC
    split
    · exact .inl rfl
    · rename_i i hi
      have hlt : c.at_.toNat < S.parts[p].code.length := (List.getElem?_eq_some_iff.1 hi).1
      have hmem : i ∈ S.parts[p].code := List.mem_of_getElem? hi
      have hck : i.chk = 0 := by
        have := firstE_zero hfe _ hlt
        rw [(List.getElem?_eq_some_iff.1 hi).2] at this
        exact this
      obtain ⟨hop, ⟨ha0, ha1⟩, ⟨hb0, hb1⟩, hj, hch⟩ := chk0 (op := i.op) (a := i.a) (b := i.b) (n := i.n) hck
      cases hd : doC i inn xs c wntZ with
      | none => exact .inl rfl
      | some r =>
        obtain ⟨c', ys, x'⟩ := r
        rcases doC_want hd with e | ⟨ho, e⟩ | ⟨ho, e⟩
        · exact .inl e
        · right
          have hn5 := hch (.inl ho)
          have hb := hnb.1 _ (chan_named hmem ho hn5.1 hn5.2)
          subst e
          simp only [Option.getD_some]
          unfold putBad at hb
          split at hb
          · simp at hb
          · rename_i y hy
            exact ⟨y, hy, .inl ⟨trivial, by simpa using hb⟩⟩
        · right
          have hn5 := hch (.inr ho)
          have hb := hnb.2 _ (chan_named hmem ho hn5.1 hn5.2)
          subst e
          simp only [Option.getD_some]
          unfold getBad at hb
          split at hb
          · simp at hb
          · rename_i y hy
            exact ⟨y, hy, .inr ⟨trivial, by simpa using hb⟩⟩
  · exact .inl rfl
structure Alike (S S' : SysD) (u : Int) : Prop where
  k : chkS S = 0
  k' : chkS S' = 0
  c : S'.chans = S.chans
  s : S'.slots = S.slots
  n : S'.parts.length = S.parts.length
  p : ∀ (j : Nat), reachB S j u = true → S'.parts[j]? = S.parts[j]?
structure Agree (S : SysD) (u : Int) (D D' : WldD) : Prop where
  t : D'.tick = D.tick
  c : ∀ (j : Nat), reachB S j u = true → D'.cells[j]? = D.cells[j]?
  l : ∀ (k : Nat) (h : k < S.chans.length), (reachB S S.chans[k].fr u = true ∨ reachB S S.chans[k].tt u = true) → D'.lines[k]? = D.lines[k]?
theorem alike_begin {S S' : SysD} {u : Int} (h : Alike S S' u) : Agree S u (beginC S) (beginC S') := by
  refine ⟨rfl, fun j _ => ?_, fun k _ _ => ?_⟩
  · unfold beginC; rw [h.n]
  · unfold beginC; rw [h.c]
theorem who_alike {S S' : SysD} {u : Int} (h : Alike S S' u) (t : Int) : whoS S' t = whoS S t := by
  unfold whoS
  rw [h.s]
theorem far_tick {S T : SysD} {u : Int} {D : WldD} (hT : chkS T = 0) (hc : T.chans = S.chans) (hn : T.parts.length = S.parts.length) (hR : Right T D) (ht : D.tick < 300) (pn : Nat) (hw : whoS T D.tick = pn) (hne : reachB S pn u = false) :
    (∀ (j : Nat), reachB S j u = true → (nextC T D).cells[j]? = D.cells[j]?) ∧ ∀ (k : Nat) (h : k < S.chans.length), (reachB S S.chans[k].fr u = true ∨ reachB S S.chans[k].tt u = true) → (nextC T D).lines[k]? = D.lines[k]? := by
  obtain ⟨hf4, hf1, hf6, hE⟩ := chk_flow hT
  have hlc := cellsB_len hR.c
  have hll := linesB_len hR.l
  obtain ⟨hw0, hw1⟩ := who_range hT hR.t0
  have hp : pn < T.parts.length := by omega
  have hpd : pn < D.cells.length := by omega
  have e1 : T.parts[(whoS T D.tick).toNat]? = some T.parts[pn] := by rw [hw]; simp [hp]
  have e2 : D.cells[(whoS T D.tick).toNat]? = some D.cells[pn] := by rw [hw]; simp [hpd]
  have hh := step_homeK hT hp (inn := T.parts[pn].inn) (xs := D.cells[pn].out) (c := D.cells[pn].c)
  unfold nextC
  rw [e1, e2]
  simp only []
  have hset : ∀ (d : CelD) (j : Nat), reachB S j u = true → (D.cells.set (whoS T D.tick).toNat d)[j]? = D.cells[j]? := fun d j hj => by
    rw [hw, List.getElem?_set_ne]
    intro e
    have e' : pn = j := by simpa using e
    subst e'
    rw [hne] at hj
    cases hj
  generalize stepC T.parts[pn].code T.parts[pn].inn D.cells[pn].out D.cells[pn].c = r at hh
  obtain ⟨c', ys, x⟩ := r
  simp only at hh ⊢
  split
  · exact ⟨fun j hj => hset _ j hj, fun k _ _ => rfl⟩
  · rename_i hx
    rcases hh with e | ⟨ch, hch, hkind⟩
    · rw [e] at hx; exact absurd rfl hx
    · rw [hch]
      have hkl : x.ch.toNat < T.chans.length := (List.getElem?_eq_some_iff.1 hch).1
      have hkd : x.ch.toNat < D.lines.length := by omega
      have e4 : D.lines[x.ch.toNat]? = some D.lines[x.ch.toNat] := by simp [hkd]
      rw [e4]
      refine ⟨fun j hj => hset _ j hj, fun k hk hrel => ?_⟩
      simp only []
      by_cases hkk : x.ch.toNat = k
      · subst hkk
        have hchS : S.chans[x.ch.toNat] = ch := by
          rw [hc] at hch
          exact (List.getElem?_eq_some_iff.1 hch).2
        rw [hchS] at hrel
        have hmem : ch ∈ T.chans := List.mem_of_getElem? hch
        obtain ⟨f0, f1, g0, g1⟩ := hE ch hmem
        have hlead : ∀ a b : Nat, leadB a b ch = true → leadsB S a b = true := fun a b h => List.any_eq_true.2 ⟨ch, by rw [← hc]; exact hmem, h⟩
        rcases hkind with ⟨hk12, hfr⟩ | ⟨hk13, htt⟩
        · exfalso
          rw [hfr] at hrel
          rcases hrel with h1 | h1
          · rw [hne] at h1; cases h1
          · obtain ⟨tn, htn⟩ : ∃ tn : Nat, ch.tt = tn := ⟨ch.tt.toNat, by omega⟩
            rw [htn] at h1
            have := reach_lead (a := pn) (c := tn) (by omega) (by omega) (hlead pn tn (by unfold leadB; simp [hfr, htn])) h1
            rw [hne] at this; cases this
        · rw [htt] at hrel
          rcases hrel with h1 | h1
          · obtain ⟨fn, hfn⟩ : ∃ fn : Nat, ch.fr = fn := ⟨ch.fr.toNat, by omega⟩
            rw [hfn] at h1
            have hck := linesB_at hR.l _ hkl hkd
            have hchT : T.chans[x.ch.toNat] = ch := (List.getElem?_eq_some_iff.1 hch).2
            rw [hchT] at hck
            have hk1 : ch.kd = 1 := by
              rcases chkL_zero hck with ⟨h2, _⟩ | ⟨h2, _⟩
              · exact h2
              · exfalso
                have := reach_lead (a := pn) (c := fn) (by omega) (by omega) (hlead pn fn (by unfold leadB; simp [h2, htt, hfn])) h1
                rw [hne] at this; cases this
            have hsame : (servR ch.kd D.lines[x.ch.toNat] x).1 = D.lines[x.ch.toNat] := by
              unfold servR
              rw [if_neg (by rw [hk13]; decide)]
              unfold getR
              rw [if_pos hck]
              cases hl : D.lines[x.ch.toNat] with
              | nil => rfl
              | cons y r => simp [hk1]
            rw [hsame, List.getElem?_set_self hkd, e4]
          · rw [hne] at h1; cases h1
      · rw [List.getElem?_set_ne hkk]
theorem agree_next {S S' : SysD} {u : Int} {D D' : WldD} (h : Alike S S' u) (hR : Right S D) (hR' : Right S' D') (ht : D.tick < 300) (hA : Agree S u D D') : Agree S u (nextC S D) (nextC S' D') := by
  have ht' : D'.tick < 300 := by rw [hA.t]; exact ht
  have n1 := (next_right h.k hR ht).2
  have n2 := (next_right h.k' hR' ht').2
  obtain ⟨hw0, hw1⟩ := who_range h.k hR.t0
  obtain ⟨pn, hpn⟩ := Int.eq_ofNat_of_zero_le hw0
  have hw' : whoS S' D'.tick = pn := by rw [who_alike h, hA.t, hpn]
  have hlc := cellsB_len hR.c
  have hll := linesB_len hR.l
  have hlc' := cellsB_len hR'.c
  have hll' := linesB_len hR'.l
  have hn := h.n
  have hcl : S'.chans.length = S.chans.length := by rw [h.c]
  cases hr : reachB S pn u with
  | false =>
    obtain ⟨a1, a2⟩ := far_tick (S := S) (u := u) h.k rfl rfl hR ht pn hpn hr
    obtain ⟨b1, b2⟩ := far_tick (S := S) (u := u) h.k' h.c h.n hR' ht' pn hw' hr
    exact ⟨by rw [n1, n2, hA.t], fun j hj => by rw [a1 j hj, b1 j hj, hA.c j hj], fun k hk hrel => by rw [a2 k hk hrel, b2 k hk hrel, hA.l k hk hrel]⟩
  | true =>
    have hp : pn < S.parts.length := by omega
    have hpd : pn < D.cells.length := by omega
    have hpd' : pn < D'.cells.length := by omega
    have e1 : S.parts[(whoS S D.tick).toNat]? = some S.parts[pn] := by rw [hpn]; simp [hp]
    have e2 : D.cells[(whoS S D.tick).toNat]? = some D.cells[pn] := by rw [hpn]; simp [hpd]
    have e1' : S'.parts[(whoS S' D'.tick).toNat]? = some S.parts[pn] := by rw [hw']; simp only [Int.toNat_natCast]; rw [h.p pn hr]; simp [hp]
    have e2' : D'.cells[(whoS S' D'.tick).toNat]? = some D.cells[pn] := by rw [hw']; simp only [Int.toNat_natCast]; rw [hA.c pn hr]; simp [hpd]
    have hh := step_homeK h.k hp (inn := S.parts[pn].inn) (xs := D.cells[pn].out) (c := D.cells[pn].c)
    have hset : ∀ (d : CelD) (j : Nat), reachB S j u = true → (D'.cells.set (whoS S' D'.tick).toNat d)[j]? = (D.cells.set (whoS S D.tick).toNat d)[j]? := fun d j hj => by
      rw [hw', hpn]
      simp only [Int.toNat_natCast]
      by_cases e : pn = j
      · subst e
        rw [List.getElem?_set_self hpd, List.getElem?_set_self hpd']
      · rw [List.getElem?_set_ne e, List.getElem?_set_ne e, hA.c j hj]
    refine ⟨by rw [n1, n2, hA.t], ?_, ?_⟩
    · intro j hj
      unfold nextC
      rw [e1, e2, e1', e2']
      simp only []
      generalize stepC S.parts[pn].code S.parts[pn].inn D.cells[pn].out D.cells[pn].c = r at hh
      obtain ⟨c', ys, x⟩ := r
      simp only at hh ⊢
      split
      · exact hset _ j hj
      · rename_i hx
        rcases hh with e | ⟨ch, hch, hkind⟩
        · rw [e] at hx; exact absurd rfl hx
        · have hkl : x.ch.toNat < S.chans.length := (List.getElem?_eq_some_iff.1 hch).1
          have hchS : S.chans[x.ch.toNat] = ch := (List.getElem?_eq_some_iff.1 hch).2
          have hrel : reachB S S.chans[x.ch.toNat].fr u = true ∨ reachB S S.chans[x.ch.toNat].tt u = true := by
            rw [hchS]
            rcases hkind with ⟨_, e⟩ | ⟨_, e⟩
            · exact .inl (by rw [e]; exact hr)
            · exact .inr (by rw [e]; exact hr)
          have hkd : x.ch.toNat < D.lines.length := by omega
          have e4 : D.lines[x.ch.toNat]? = some D.lines[x.ch.toNat] := by simp [hkd]
          rw [h.c, hch, hA.l _ hkl hrel, e4]
          exact hset _ j hj
    · intro k hk hrel0
      unfold nextC
      rw [e1, e2, e1', e2']
      simp only []
      generalize stepC S.parts[pn].code S.parts[pn].inn D.cells[pn].out D.cells[pn].c = r at hh
      obtain ⟨c', ys, x⟩ := r
      simp only at hh ⊢
      split
      · exact hA.l k hk hrel0
      · rename_i hx
        rcases hh with e | ⟨ch, hch, hkind⟩
        · rw [e] at hx; exact absurd rfl hx
        · have hkl : x.ch.toNat < S.chans.length := (List.getElem?_eq_some_iff.1 hch).1
          have hchS : S.chans[x.ch.toNat] = ch := (List.getElem?_eq_some_iff.1 hch).2
          have hrel : reachB S S.chans[x.ch.toNat].fr u = true ∨ reachB S S.chans[x.ch.toNat].tt u = true := by
            rw [hchS]
            rcases hkind with ⟨_, e⟩ | ⟨_, e⟩
            · exact .inl (by rw [e]; exact hr)
            · exact .inr (by rw [e]; exact hr)
          have hkd : x.ch.toNat < D.lines.length := by omega
          have hkd' : x.ch.toNat < D'.lines.length := by omega
          have e4 : D.lines[x.ch.toNat]? = some D.lines[x.ch.toNat] := by simp [hkd]
          rw [h.c, hch, hA.l _ hkl hrel, e4]
          simp only []
          by_cases hkk : x.ch.toNat = k
          · subst hkk
            rw [List.getElem?_set_self hkd, List.getElem?_set_self hkd']
          · rw [List.getElem?_set_ne hkk, List.getElem?_set_ne hkk, hA.l k hk hrel0]
theorem agree_run {S S' : SysD} {u : Int} (h : Alike S S' u) : ∀ (n : Nat) {D D' : WldD}, Right S D → Right S' D' → D.tick + n ≤ 300 → Agree S u D D' → Agree S u (runN S n D) (runN S' n D')
  | 0, _, _, _, _, _, hA => hA
  | n + 1, D, D', hR, hR', ht, hA => by
    have h1 := next_right h.k hR (by omega)
    have h2 := next_right h.k' hR' (by rw [hA.t]; omega)
    exact agree_run h n h1.1 h2.1 (by rw [h1.2]; omega) (agree_next h hR hR' (by omega) hA)
end Go.Proofs.YtbkdoohhdkahiaaGreatDoor
namespace Go.Proofs.YtbkdoohhdkahiaaGreatDoor
set_option linter.unusedSimpArgs false
set_option linter.unusedVariables false
open Go.RowKit Go.Sort
theorem own_new {w : World} {base : Nat} {e : TypeId} {size : Nat} {v : Value} {n : Nat} {xs : List Value} (h : w.ownsRow base e size v n xs) : NewB base v := own_block h
theorem own_upC {w w' : World} {base : Nat} {e : TypeId} {size : Nat} {v : Value} {n : Nat} {xs : List Value} (h : w.ownsRow base e size v n xs) (hb : Below w.heap.size w w') : w'.ownsRow base e size v n xs := by
  have hlt := h.lt
  refine ⟨h.1, ?_⟩
  rcases h.2 with hn | ⟨g, cap, cur, rfl, hg, hh, r⟩
  · exact .inl hn
  · exact .inr ⟨g, cap, cur, rfl, hg, by rw [hb.block g (hlt g rfl).2]; exact hh, r⟩
theorem sl_grown {w w' : World} {row : Option Nat} {size : Nat} {v : Value} {n : Nat} {xs : List Value} (h : Sl w size v n xs) (hg : w.grownBy w' row) (hne : ∀ k, v.ownBlock = some k → row ≠ some k) : Sl w' size v n xs := by
  obtain ⟨h1, ao, cap, rfl, h3, h4⟩ := h
  refine ⟨h1, ao, cap, rfl, h3, fun hn => ?_⟩
  obtain ⟨b, off, rfl, hlt, hc⟩ := h4 hn
  exact ⟨b, off, rfl, Nat.lt_of_lt_of_le hlt hg.size, fun j u hj => (hg.cell_far ⟨b, off + j, none⟩ hlt (fun e => hne b rfl e.symm)).trans (hc j u hj)⟩
def Apart (v u : Value) : Prop := ∀ k, v.ownBlock = some k → u.ownBlock ≠ some k
theorem apart_lt {v u : Value} {m : Nat} (hv : NewB m v) (hu : ∀ k, u.ownBlock = some k → k < m) : Apart v u := fun k e e2 => by have := hv k e; have := hu k e2; omega
def LtB (w : World) (v : Value) : Prop := ∀ b, v.ownBlock = some b → b < w.heap.size
theorem LtB.up {w w' : World} {v : Value} (h : LtB w v) (hs : w.heap.size ≤ w'.heap.size) : LtB w' v := fun b e => Nat.lt_of_lt_of_le (h b e) hs
theorem own_ltB {w : World} {base : Nat} {e : TypeId} {size : Nat} {v : Value} {n : Nat} {xs : List Value} (h : w.ownsRow base e size v n xs) : LtB w v := fun b e => (h.lt b e).2
structure Bld (n base : Nat) (wr : World) (g : Nat) (vp vc vs : Value) (ps : List Prt) (cs : List Chn) (ss : List Slt) : Prop where
  cp : wr.cell? ⟨g, 0, none⟩ = some vp
  fp : wr.frozen? ⟨g, 0, none⟩ = false
  cc : wr.cell? ⟨g, 1, none⟩ = some vc
  ct : wr.cell? ⟨g, 2, none⟩ = some vs
  gl : g < base
  gn : n ≤ g
  bs : base ≤ wr.heap.size
  row : ∃ l : List (Value × Value), l.length = ps.length ∧ wr.ownsRow base 43 2 vp ps.length (rowC prC l) ∧ ∀ k (hk : k < ps.length) (hk' : k < l.length), PrtR wr l[k].1 l[k].2 ps[k] ∧ (NewB (g + 1) l[k].1 ∧ NewB (g + 1) l[k].2) ∧ (Apart l[k].1 vp ∧ Apart l[k].2 vp) ∧ LtB wr l[k].1 ∧ LtB wr l[k].2
  c : Sl wr 3 vc cs.length (rowC chC cs)
  s : Sl wr 2 vs ss.length (rowC slC ss)
  nc : NewB n vc ∧ ∀ k, vc.ownBlock = some k → k ≠ g ∧ k < base
  ns : NewB n vs ∧ ∀ k, vs.ownBlock = some k → k ≠ g ∧ k < base
theorem Bld.form {n base : Nat} {wr : World} {g : Nat} {vp vc vs : Value} {ps : List Prt} {cs : List Chn} {ss : List Slt} (h : Bld n base wr g vp vc vs ps cs ss) : ∃ a c, vp = .slice a ps.length c := by
  obtain ⟨l, _, h2, _⟩ := h.row
  exact own_form h2
theorem Bld.up {n base : Nat} {wr wr' : World} {g : Nat} {vp vc vs : Value} {ps : List Prt} {cs : List Chn} {ss : List Slt} (h : Bld n base wr g vp vc vs ps cs ss) (hb : Below wr.heap.size wr wr') : Bld n base wr' g vp vc vs ps cs ss := by
  obtain ⟨l, h1, h2, h3⟩ := h.row
  have hg : g < wr.heap.size := Nat.lt_of_lt_of_le h.gl h.bs
  exact ⟨bcl hb hg h.cp, bfr hb hg h.fp, bcl hb hg h.cc, bcl hb hg h.ct, h.gl, h.gn, Nat.le_trans h.bs hb.size, ⟨l, h1, own_upC h2 hb, fun k hk hk' => ⟨(h3 k hk hk').1.up hb, (h3 k hk hk').2.1, (h3 k hk hk').2.2.1, (h3 k hk hk').2.2.2.1.up hb.size, (h3 k hk hk').2.2.2.2.up hb.size⟩⟩, h.c.up hb, h.s.up hb, h.nc, h.ns⟩
theorem rowC_snoc {α : Type} (f : α → List Value) (l : List α) (x : α) : rowC f (l ++ [x]) = rowC f l ++ f x := by simp [rowC]
theorem Bld.step {n base : Nat} {w2 w3 : World} {g : Nat} {vp vp' vc vs v1 v2 : Value} {ps : List Prt} {cs : List Chn} {ss : List Slt} {p : Prt} {m : Nat} (h : Bld n base w2 g vp vc vs ps cs ss)
    (hp : PrtR w2 v1 v2 p) (h1 : NewB m v1) (h2 : NewB m v2) (hm : g + 1 ≤ m) (hvp : ∀ k, vp.ownBlock = some k → k < m) (l0 : List (Value × Value))
    (hl0 : l0.length = ps.length ∧ w2.ownsRow base 43 2 vp ps.length (rowC prC l0) ∧ ∀ k (hk : k < ps.length) (hk' : k < l0.length), PrtR w2 l0[k].1 l0[k].2 ps[k] ∧ (NewB (g + 1) l0[k].1 ∧ NewB (g + 1) l0[k].2) ∧ (Apart l0[k].1 vp ∧ Apart l0[k].2 vp) ∧ LtB w2 l0[k].1 ∧ LtB w2 l0[k].2)
    (hlt1 : LtB w2 v1 ∧ LtB w2 v2)
    {o : Obj} (hgrow : (w2.alloc o).grownBy w3 vp.ownBlock) (hown : w3.ownsRow base 43 2 vp' (ps.length + 1) (rowC prC l0 ++ [v1, v2])) (hat : ∀ k, vp'.ownBlock = some k → vp.ownBlock = some k ∨ w2.heap.size + 1 ≤ k) :
    Bld n base (w3.setCell ⟨g, 0, none⟩ vp') g vp' vc vs (ps ++ [p]) cs ss ∧ (∀ b, vp'.ownBlock = some b → base ≤ b) := by
  have hb2 : Below w2.heap.size w2 (w2.alloc o) := (Below.refl _ _).alloc (Nat.le_refl _) _
  have hu := h.up hb2
  have hg : g < w2.heap.size := Nat.lt_of_lt_of_le h.gl h.bs
  have hrow := hl0.2.1
  have hgv : some g ≠ vp.ownBlock := fun e => by have := own_block hrow g e.symm; have := h.gl; omega
  have hgl : g < (w2.alloc o).heap.size := by simp; omega
  have hbs := h.bs
  have hnew' := own_block hown
  have far : ∀ v : Value, (∀ b, v.ownBlock = some b → b < w2.heap.size) → Apart v vp → Apart v vp' := fun v hv ha k e e2 => by
    rcases hat k e2 with h1 | h1
    · exact ha k e h1
    · have := hv k e; omega
  have slg : ∀ {size nn : Nat} {v : Value} {xs : List Value}, Sl w2 size v nn xs → NewB (g + 1) v → Apart v vp → Sl (w3.setCell ⟨g, 0, none⟩ vp') size v nn xs := fun hs hn ha =>
    (sl_grown (hs.up hb2) hgrow (fun k e e2 => ha k e e2)).set _ (fun e => by have := hn g e; omega)
  have slc : ∀ {size nn : Nat} {v : Value} {xs : List Value}, Sl w2 size v nn xs → (∀ k, v.ownBlock = some k → k ≠ g ∧ k < base) → Sl (w3.setCell ⟨g, 0, none⟩ vp') size v nn xs := fun hs hn =>
    (sl_grown (hs.up hb2) hgrow (fun k e e2 => by have := own_block hrow k e2; have := (hn k e).2; omega)).set _ (fun e => (hn g e).1 rfl)
  have hsz : w2.heap.size ≤ (w3.setCell ⟨g, 0, none⟩ vp').heap.size := by rw [size_set]; have := hgrow.size; simp at this; omega
  have c0 : w3.cell? ⟨g, 0, none⟩ = some vp := (hgrow.cell_far ⟨g, 0, none⟩ hgl hgv).trans hu.cp
  refine ⟨⟨cl_same c0, fr_set ((hgrow.frozen_far ⟨g, 0, none⟩ hgl hgv).trans hu.fp), cl_set (Or.inr (by decide)) ((hgrow.cell_far ⟨g, 1, none⟩ hgl hgv).trans hu.cc), cl_set (Or.inr (by decide)) ((hgrow.cell_far ⟨g, 2, none⟩ hgl hgv).trans hu.ct), h.gl, h.gn, ?_, ?_, slc h.c h.nc.2, slc h.s h.ns.2, h.nc, h.ns⟩, hnew'⟩
  · rw [size_set]; have := hgrow.size; simp at this; omega
  · refine ⟨l0 ++ [(v1, v2)], by simp [hl0.1], ?_, fun k hk hk' => ?_⟩
    · rw [rowC_snoc]
      have : (ps ++ [p]).length = ps.length + 1 := by simp
      rw [this]
      exact ownsRow_setCell_below hown (by simpa using h.gl) _
    · by_cases hkl : k < l0.length
      · have hkp : k < ps.length := by have := hl0.1; omega
        obtain ⟨a1, ⟨a2, a3⟩, ⟨a4, a5⟩, a6, a7⟩ := hl0.2.2 k hkp hkl
        rw [List.getElem_append_left hkl, List.getElem_append_left hkp]
        exact ⟨⟨slg a1.code a2 a4, slg a1.inn a3 a5⟩, ⟨a2, a3⟩, ⟨far _ a6 a4, far _ a7 a5⟩, a6.up hsz, a7.up hsz⟩
      · have hke : k = ps.length := by have := hl0.1; simp at hk; omega
        have hke' : k = l0.length := by have := hl0.1; omega
        have e1 : (l0 ++ [(v1, v2)])[k] = (v1, v2) := by rw [List.getElem_append_right (by omega)]; simp
        have e2 : (ps ++ [p])[k] = p := by rw [List.getElem_append_right (by omega)]; simp
        rw [e1, e2]
        have n1 : NewB (g + 1) v1 := h1.mono hm
        have n2 : NewB (g + 1) v2 := h2.mono hm
        exact ⟨⟨slg hp.code n1 (apart_lt h1 hvp), slg hp.inn n2 (apart_lt h2 hvp)⟩, ⟨n1, n2⟩, ⟨far _ hlt1.1 (apart_lt h1 hvp), far _ hlt1.2 (apart_lt h2 hvp)⟩, hlt1.1.up hsz, hlt1.2.up hsz⟩
theorem Bld.done {n base : Nat} {wr : World} {g : Nat} {vp vc vs : Value} {ps : List Prt} {cs : List Chn} {ss : List Slt} (h : Bld n base wr g vp vc vs ps cs ss) : SysN n wr vp vc vs ⟨ps, cs, ss⟩ := by
  obtain ⟨l, h1, h2, h3⟩ := h.row
  have hgn := h.gn
  have hgl := h.gl
  exact ⟨⟨l, h1, own_sl h2, fun k e => by have := own_block h2 k e; omega, fun k hk hk' => ⟨(h3 k hk hk').1, (h3 k hk hk').2.1.1.mono (by omega), (h3 k hk hk').2.1.2.mono (by omega)⟩⟩, h.c, h.s, h.nc.1, h.ns.1⟩
end Go.Proofs.YtbkdoohhdkahiaaGreatDoor
namespace Go.Proofs.YtbkdoohhdkahiaaGreatDoor
set_option linter.unusedSimpArgs false
set_option linter.unusedVariables false
open Go.RowKit Go.Sort
attribute [local go_sem ↓] Go.wp_at_zero Go.wp_at_succ
structure Var3 (w : World) (g : Nat) (a b c : Value) : Prop where
  x : w.cell? ⟨g, 0, none⟩ = some a
  y : w.cell? ⟨g, 1, none⟩ = some b
  z : w.cell? ⟨g, 2, none⟩ = some c
  fx : w.frozen? ⟨g, 0, none⟩ = false
  fy : w.frozen? ⟨g, 1, none⟩ = false
  fz : w.frozen? ⟨g, 2, none⟩ = false
  lt : g < w.heap.size
theorem Var3.up {w w' : World} {g : Nat} {a b c : Value} (h : Var3 w g a b c) (hb : Below w.heap.size w w') : Var3 w' g a b c :=
  ⟨bcl hb h.lt h.x, bcl hb h.lt h.y, bcl hb h.lt h.z, bfr hb h.lt h.fx, bfr hb h.lt h.fy, bfr hb h.lt h.fz, Nat.lt_of_lt_of_le h.lt hb.size⟩
end Go.Proofs.YtbkdoohhdkahiaaGreatDoor
namespace Go.Proofs.YtbkdoohhdkahiaaGreatDoor
set_option linter.unusedSimpArgs false
set_option linter.unusedVariables false
open Go.RowKit Go.Sort
attribute [local go_sem ↓] Go.wp_at_zero Go.wp_at_succ
theorem Var3.sets {w : World} {g : Nat} {a b c a' b' c' : Value} (h : Var3 w g a b c) : Var3 (((w.setCell ⟨g, 0, none⟩ a').setCell ⟨g, 1, none⟩ b').setCell ⟨g, 2, none⟩ c') g a' b' c' :=
  ⟨cl_set (Or.inr (by decide)) (cl_set (Or.inr (by decide)) (cl_same h.x)), cl_set (Or.inr (by decide)) (cl_same (cl_set (Or.inr (by decide)) h.y)), cl_same (cl_set (Or.inr (by decide)) (cl_set (Or.inr (by decide)) h.z)),
   fr_set (fr_set (fr_set h.fx)), fr_set (fr_set (fr_set h.fy)), fr_set (fr_set (fr_set h.fz)), by rw [size_set, size_set, size_set]; exact h.lt⟩
theorem Bld.grow {n base : Nat} {W0 W1 w3 w4 w5 : World} {g k : Nat} {va : Option Addr} {vcap g' cap5 B1 B2 : Nat} {vc vs v1 v2 : Value} {ps : List Prt} {cs : List Chn} {ss : List Slt} {q : Prt} {o : Obj} {l0 : List (Value × Value)} {B : Nat}
    (h : Bld n base W1 g (.slice va k vcap) vc vs ps cs ss) (hkl : ps.length = k)
    (hl0 : l0.length = ps.length ∧ W1.ownsRow base 43 2 (.slice va k vcap) ps.length (rowC prC l0) ∧ ∀ k' (hk : k' < ps.length) (hk' : k' < l0.length), PrtR W1 l0[k'].1 l0[k'].2 ps[k'] ∧ (NewB (g + 1) l0[k'].1 ∧ NewB (g + 1) l0[k'].2) ∧ (Apart l0[k'].1 (.slice va k vcap) ∧ Apart l0[k'].2 (.slice va k vcap)) ∧ LtB W1 l0[k'].1 ∧ LtB W1 l0[k'].2)
    (D3 : Below W1.heap.size W1 w3) (D34 : Below w3.heap.size w3 w4) (O1 : w3.ownsRow B1 124 4 v1 q.code.length (codeC q.code)) (O2 : w4.ownsRow B2 3 1 v2 q.inn.length (ints q.inn)) (hB1 : W1.heap.size ≤ B1) (hB2 : W1.heap.size ≤ B2)
    (hgrow : (w4.alloc o).grownBy w5 (Value.ownBlock (.slice va k vcap))) (hown : w5.ownsRow base 43 2 (.slice (some ⟨g', 0, none⟩) (k + 1) cap5) (k + 1) (rowC prC l0 ++ [v1, v2])) (hat : Value.ownBlock (.slice va k vcap) = some g' ∨ g' = w4.heap.size + 1)
    (hT : Below B W0 W1) (hB : B ≤ n) (hBw : B ≤ W1.heap.size) (hnb : n ≤ base) :
    Bld n base (w5.setCell ⟨g, 0, none⟩ (.slice (some ⟨g', 0, none⟩) (k + 1) cap5)) g (.slice (some ⟨g', 0, none⟩) (k + 1) cap5) vc vs (ps ++ [q]) cs ss ∧ Below B W0 (w5.setCell ⟨g, 0, none⟩ (.slice (some ⟨g', 0, none⟩) (k + 1) cap5)) := by
  have D4 := D3.trans (D34.mono D3.size)
  have hgb := h.gl
  have hbs := h.bs
  have hgn := h.gn
  have z4 := D4.size
  have hv := own_block hl0.2.1
  refine ⟨(Bld.step (h.up D4) ⟨(own_sl O1).up D34, own_sl O2⟩ ((own_new O1).mono hB1) ((own_new O2).mono hB2) (by omega) (fun b e => own_ltB hl0.2.1 b e) l0 ⟨hl0.1, own_upC hl0.2.1 D4, fun k' hk hk' => ?_⟩ ⟨(own_ltB O1).up D34.size, own_ltB O2⟩ hgrow (by rw [hkl]; exact hown) (fun b e => ?_)).1, ?_⟩
  · obtain ⟨a1, a2, a3, a4, a5⟩ := hl0.2.2 k' hk hk'
    exact ⟨a1.up D4, a2, a3, a4.up z4, a5.up z4⟩
  · obtain rfl : g' = b := by simpa [Value.ownBlock] using e
    exact hat.imp id (fun e => by omega)
  · exact (((hT.trans (D4.mono hBw)).alloc (by omega) o).grown hgrow (by simp; omega) (fun b e => by have := hv b e; omega)).setCell (by simp; omega) _
theorem infoPart : (Tryz.prog.info? 43).map (fun i => (i.zero, i.size, i.bytes)) = some (some (.agg #[.slice none 0 0, .slice none 0 0]), 2, 48) := by kernel_rfl
theorem two_cell (a b : Option Addr) (n c m d : Nat) : ∀ x ∈ [Value.slice a n c, Value.slice b m d], x.oneCell' = true := by
  intro x hx
  simp at hx
  rcases hx with rfl | rfl <;> rfl
end Go.Proofs.YtbkdoohhdkahiaaGreatDoor

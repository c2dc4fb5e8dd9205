/- A tick keeps a world right; what it changes, and what not: plain mathematics. -/
import Derived.Test.YtjhjaafoikadgaaDoorKn8
namespace Go.Proofs.YtjhjaafoikadgaaDoor
set_option linter.unusedSimpArgs false
set_option linter.unusedVariables false
open Go.RowKit Go.Sort

/-- What is right about a world, but for the end of the run. -/
structure Right (S : SysD) (D : WldD) : Prop where
  t0 : 0 ≤ D.tick
  t1 : D.tick ≤ 300
  c : cellsB S.parts D.cells = true
  l : linesB S.chans D.lines = true
theorem chkW_zero {S : SysD} {D : WldD} (h : chkW S D = 0) : chkS S = 0 ∧ Right S D := by
  unfold chkW at h
  split at h
  · exact absurd h (by assumption)
  · rename_i h1
    split at h
    · rename_i h2
      rw [Bool.and_eq_true, Bool.and_eq_true] at h2
      obtain ⟨⟨h2, h3⟩, h4⟩ := h2
      unfold withinB at h2
      rw [Bool.and_eq_true, decide_eq_true_eq, decide_eq_true_eq] at h2
      exact ⟨by simpa using h1, h2.1, h2.2, h3, h4⟩
    · omega
theorem chkW_right {S : SysD} {D : WldD} (hs : chkS S = 0) (h : Right S D) : chkW S D = 0 := by
  unfold chkW
  rw [if_neg (by simpa using hs), if_pos]
  rw [Bool.and_eq_true, Bool.and_eq_true]
  refine ⟨⟨?_, h.c⟩, h.l⟩
  unfold withinB
  rw [Bool.and_eq_true, decide_eq_true_eq, decide_eq_true_eq]
  exact ⟨h.t0, h.t1⟩
theorem replied_at (c : Cel) (k reg flag kind val : Int) (is : Bool) : (c.replied k reg flag kind val is).at_ = c.at_ ∧ (c.replied k reg flag kind val is).read = c.read ∧ (c.replied k reg flag kind val is).en = c.en := by
  unfold Cel.replied
  split
  · exact ⟨setReg_at .., setReg_read .., setReg_en ..⟩
  · split
    · cases is
      · exact ⟨setReg_at .., setReg_read .., setReg_en ..⟩
      · exact ⟨(setReg_at ..).trans (setReg_at ..), (setReg_read ..).trans (setReg_read ..), (setReg_en ..).trans (setReg_en ..)⟩
    · exact ⟨rfl, rfl, rfl⟩
theorem replied_fine (c : Cel) (n : Nat) (k reg flag kind val : Int) (is : Bool) : (c.replied k reg flag kind val is).fine n = c.fine n := by
  obtain ⟨h1, h2, h3⟩ := replied_at c k reg flag kind val is
  unfold Cel.fine
  rw [h1, h2, h3]
theorem servR_len {kind : Int} {l : List Int} (h : chkL kind l.length = 0) (x : Wnt) : chkL kind (servR kind l x).1.length = 0 := by
  unfold servR
  split
  · unfold putR
    rw [if_pos h]
    unfold putS
    rcases chkL_zero h with ⟨rfl, _⟩ | ⟨rfl, _⟩
    · rfl
    · simp only [show ¬((2 : Int) = 1) by decide, if_false]
      split
      · exact h
      · simp [chkL]
        omega
  · unfold getR
    rw [if_pos h]
    cases l with
    | nil => exact h
    | cons a r =>
      simp only []
      split
      · exact h
      · rcases chkL_zero h with ⟨rfl, _⟩ | ⟨rfl, h2⟩
        · contradiction
        · simp at h2
          simp [chkL]
          omega
theorem cellsB_set {ps : List Prt} {ds : List CelD} (h : cellsB ps ds = true) {k : Nat} {d : CelD} (hd : ∀ h : k < ps.length, celB ps[k] d = true) : cellsB ps (ds.set k d) = true := by
  have hl := cellsB_len h
  refine cellsB_yes (by simpa using hl) fun j h1 h2 => ?_
  by_cases e : k = j
  · subst e
    simpa using hd h1
  · rw [List.getElem_set_ne e]
    exact cellsB_at h j h1 (by omega)
theorem linesB_set {cs : List Chn} {ls : List (List Int)} (h : linesB cs ls = true) {k : Nat} {l : List Int} (hd : ∀ h : k < cs.length, chkL cs[k].kd l.length = 0) : linesB cs (ls.set k l) = true := by
  have hl := linesB_len h
  refine linesB_yes (by simpa using hl) fun j h1 h2 => ?_
  by_cases e : k = j
  · subst e
    simpa using hd h1
  · rw [List.getElem_set_ne e]
    exact linesB_at h j h1 (by omega)
theorem celB_is {p : Prt} {d : CelD} (h : celB p d = true) : d.c.fine d.out.length = true ∧ d.c.read ≤ p.inn.length := by
  unfold celB at h
  rw [Bool.and_eq_true] at h
  exact ⟨h.1, by simpa using h.2⟩
theorem celB_of {p : Prt} {d : CelD} (h : d.c.fine d.out.length = true) (h2 : d.c.read ≤ p.inn.length) : celB p d = true := by
  unfold celB
  rw [Bool.and_eq_true]
  exact ⟨h, by simpa using h2⟩
/-- A want is of a channel of the one who wants. -/
theorem step_home {S : SysD} (h : chkS S = 0) {p : Nat} (hp : p < S.parts.length) {inn xs : List Int} {c : Cel} : (stepC S.parts[p].code inn xs c).2.2 = wntZ ∨ ∃ ch, S.chans[(stepC S.parts[p].code inn xs c).2.2.ch.toNat]? = some ch ∧ (ch.fr = p ∨ ch.tt = p) := by
  obtain ⟨-, hc, -, -, hn⟩ := chkS_zero h
  have hcode := hc p hp
  have hnb := names_at (l := S.chans) (k := 0) hn p hp
  unfold nameBad at hnb
  rw [Bool.or_eq_false_iff, List.any_eq_false, List.any_eq_false] at hnb
  have hfe : firstE S.parts[p].code = 0 := by
    unfold chkC at hcode
    split at hcode
    · omega
    · exact hcode
  unfold stepC
  split
  · unfold runC
    split
    · exact .inl rfl
    · rename_i i hi
      have hlt : c.at_.toNat < S.parts[p].code.length := (List.getElem?_eq_some_iff.1 hi).1
      have hmem : i ∈ S.parts[p].code := List.mem_of_getElem? hi
      have hck : i.chk = 0 := by
        have := firstE_zero hfe _ hlt
        rw [(List.getElem?_eq_some_iff.1 hi).2] at this
        exact this
      obtain ⟨hop, ⟨ha0, ha1⟩, ⟨hb0, hb1⟩, hj, hch⟩ := chk0 (op := i.op) (a := i.a) (b := i.b) (n := i.n) hck
      cases hd : doC i inn xs c wntZ with
      | none => exact .inl rfl
      | some r =>
        obtain ⟨c', ys, x'⟩ := r
        rcases doC_want hd with e | ⟨ho, e⟩ | ⟨ho, e⟩
        · exact .inl e
        · right
          have hn5 := hch (.inl ho)
          have hb := hnb.1 _ (chan_named hmem ho hn5.1 hn5.2)
          subst e
          simp only [Option.getD_some]
          unfold putBad at hb
          split at hb
          · simp at hb
          · rename_i y hy
            exact ⟨y, hy, .inl (by simpa using hb)⟩
        · right
          have hn5 := hch (.inr ho)
          have hb := hnb.2 _ (chan_named hmem ho hn5.1 hn5.2)
          subst e
          simp only [Option.getD_some]
          unfold getBad at hb
          split at hb
          · simp at hb
          · rename_i y hy
            exact ⟨y, hy, .inr (by simpa using hb)⟩
  · exact .inl rfl
/-- A tick of a right world, whose turn it is and what comes of it. -/
structure Tick (S : SysD) (D : WldD) (pn : Nat) (d : CelD) (D' : WldD) : Prop where
  p : pn < S.parts.length
  w : whoS S D.tick = pn
  e : nextC S D = D'
  t : D'.tick = D.tick + 1
  c : D'.cells = D.cells.set pn d
  f : celB (S.parts[pn]'p) d = true
  o : ∀ h : pn < D.cells.length, Goes (S.parts[pn]'p).inn D.cells[pn].out D.cells[pn].c d.c d.out
  s : ∀ h : pn < D.cells.length, D.cells[pn].c.en ≠ 0 → d = D.cells[pn]
  l : D'.lines = D.lines ∨ ∃ kn, ∃ h : kn < S.chans.length, ∃ l, D'.lines = D.lines.set kn l ∧ chkL (S.chans[kn]'h).kd l.length = 0 ∧ ((S.chans[kn]'h).fr = pn ∨ (S.chans[kn]'h).tt = pn)
theorem goes_replied {inn xs : List Int} {c c' : Cel} {ys : List Int} (h : Goes inn xs c c' ys) (k reg flag kind val : Int) (is : Bool) : Goes inn xs c (c'.replied k reg flag kind val is) ys := by
  obtain ⟨h1, h2, h3⟩ := replied_at c' k reg flag kind val is
  exact ⟨h1 ▸ h.at0, h1 ▸ h.at1, h3 ▸ h.en0, h3 ▸ h.en1, h2 ▸ h.rd0, h2 ▸ h.rd1, h2 ▸ h.rd2, h.out, h.len, h.len2⟩
theorem stepC_ended (l : List Ins) (inn xs : List Int) (c : Cel) (h : c.en ≠ 0) : stepC l inn xs c = (c, xs, wntZ) := by
  unfold stepC
  rw [if_neg h]
theorem tick_any {S : SysD} {D : WldD} (hk : chkS S = 0) (hR : Right S D) (ht : D.tick < 300) : ∃ pn d, Tick S D pn d (nextC S D) := by
  obtain ⟨hct, hco, -, -, -⟩ := chkS_zero hk
  obtain ⟨hcs, hin⟩ := countsB_is hct
  obtain ⟨hw0, hw1⟩ := who_range hk hR.t0
  obtain ⟨pn, hpn⟩ := Int.eq_ofNat_of_zero_le hw0
  have hlc := cellsB_len hR.c
  have hll := linesB_len hR.l
  have hp : pn < S.parts.length := by omega
  have hpd : pn < D.cells.length := by omega
  have hcel := celB_is (cellsB_at hR.c pn hp hpd)
  have hg := stepC_goes (hco pn hp) hcel.1 hcel.2
  have hw := step_want hk hp (inn := S.parts[pn].inn) (xs := D.cells[pn].out) (c := D.cells[pn].c) ((fine_iff _ _).1 hcel.1).1
  have hh := step_home hk hp (inn := S.parts[pn].inn) (xs := D.cells[pn].out) (c := D.cells[pn].c)
  have hen := stepC_ended S.parts[pn].code S.parts[pn].inn D.cells[pn].out D.cells[pn].c
  have hr0 := ((fine_iff _ _).1 hcel.1).2.2.1
  have hi := hin pn hp
  have e1 : S.parts[(whoS S D.tick).toNat]? = some S.parts[pn] := by rw [hpn]; simp [hp]
  have e2 : D.cells[(whoS S D.tick).toNat]? = some D.cells[pn] := by rw [hpn]; simp [hpd]
  have hz : wntZ.k = 0 := rfl
  cases hst : stepC S.parts[pn].code S.parts[pn].inn D.cells[pn].out D.cells[pn].c with
  | mk c' r =>
    obtain ⟨ys, x⟩ := r
    rw [hst] at hg hw hh hen
    simp only at hg hw hh
    by_cases hx : x.k = 0
    · refine ⟨pn, ⟨c', ys⟩, hp, hpn, rfl, ?_, ?_, celB_of (hg.fine hr0 hi) hg.rd2, fun _ => hg, fun _ h => ?_, .inl ?_⟩
      · unfold nextC; rw [e1, e2]; simp only [hst, hx, if_true]
      · unfold nextC; rw [e1, e2]; simp only [hst, hx, if_true]; rw [hpn]; rfl
      · have := hen h
        injection this with h1 h2
        injection h2 with h2 h3
        rw [h1, h2]
      · unfold nextC; rw [e1, e2]; simp only [hst, hx, if_true]
    · have hwo : WantOk S x := by
        rcases hw with e | h
        · rw [e] at hx; exact absurd hz hx
        · exact h
      obtain ⟨hkn, hft⟩ : ∃ hk : x.ch.toNat < S.chans.length, S.chans[x.ch.toNat].fr = pn ∨ S.chans[x.ch.toNat].tt = pn := by
        rcases hh with e | ⟨ch, h, h'⟩
        · rw [e] at hx; exact absurd hz hx
        · obtain ⟨h1, h2⟩ := List.getElem?_eq_some_iff.1 h
          exact ⟨h1, by rw [h2]; exact h'⟩
      have hln : x.ch.toNat < D.lines.length := by omega
      have e3 : S.chans[x.ch.toNat]? = some S.chans[x.ch.toNat] := by simp [hkn]
      have e4 : D.lines[x.ch.toNat]? = some D.lines[x.ch.toNat] := by simp [hln]
      have hlk := linesB_at hR.l _ hkn hln
      have E : nextC S D = ⟨D.tick + 1, D.cells.set pn ⟨c'.replied x.k x.reg x.flag S.chans[x.ch.toNat].kd (servR S.chans[x.ch.toNat].kd D.lines[x.ch.toNat] x).2.1 (servR S.chans[x.ch.toNat].kd D.lines[x.ch.toNat] x).2.2, ys⟩, D.lines.set x.ch.toNat (servR S.chans[x.ch.toNat].kd D.lines[x.ch.toNat] x).1⟩ := by
        unfold nextC
        rw [e1, e2]
        simp only [hst]
        rw [if_neg hx, e3, e4]
        simp only []
        rw [hpn]
        rfl
      have hg' := goes_replied hg x.k x.reg x.flag S.chans[x.ch.toNat].kd (servR S.chans[x.ch.toNat].kd D.lines[x.ch.toNat] x).2.1 (servR S.chans[x.ch.toNat].kd D.lines[x.ch.toNat] x).2.2
      refine ⟨pn, ⟨c'.replied x.k x.reg x.flag S.chans[x.ch.toNat].kd (servR S.chans[x.ch.toNat].kd D.lines[x.ch.toNat] x).2.1 (servR S.chans[x.ch.toNat].kd D.lines[x.ch.toNat] x).2.2, ys⟩, hp, hpn, rfl, by rw [E], by rw [E], celB_of (hg'.fine hr0 hi) hg'.rd2, fun _ => hg', fun _ h => ?_, .inr ⟨x.ch.toNat, hkn, (servR S.chans[x.ch.toNat].kd D.lines[x.ch.toNat] x).1, by rw [E], servR_len hlk x, hft⟩⟩
      have := hen h
      injection this with h1 h2
      injection h2 with h2 h3
      rw [h3] at hx
      exact absurd hz hx
theorem next_right {S : SysD} {D : WldD} (hk : chkS S = 0) (hR : Right S D) (ht : D.tick < 300) : Right S (nextC S D) ∧ (nextC S D).tick = D.tick + 1 := by
  obtain ⟨pn, d, T⟩ := tick_any hk hR ht
  refine ⟨⟨by rw [T.t]; have := hR.t0; omega, by rw [T.t]; omega, by rw [T.c]; exact cellsB_set hR.c (fun _ => T.f), ?_⟩, T.t⟩
  rcases T.l with e | ⟨kn, h, l, e, h2, -⟩
  · rw [e]; exact hR.l
  · rw [e]; exact linesB_set hR.l (fun _ => h2)
/-- Ticks one behind the other. -/
def runN (S : SysD) : Nat → WldD → WldD
  | 0, D => D
  | n + 1, D => runN S n (nextC S D)
theorem runN_right {S : SysD} (hk : chkS S = 0) : ∀ (n : Nat) {D : WldD}, Right S D → D.tick + n ≤ 300 → Right S (runN S n D) ∧ (runN S n D).tick = D.tick + n
  | 0, D, h, _ => ⟨h, by simp [runN]⟩
  | n + 1, D, h, ht => by
    obtain ⟨h1, h2⟩ := next_right hk h (by omega)
    obtain ⟨h3, h4⟩ := runN_right hk n h1 (by omega)
    exact ⟨h3, by rw [runN, h4, h2]; omega⟩
theorem runN_add (S : SysD) : ∀ (n m : Nat) (D : WldD), runN S (n + m) D = runN S m (runN S n D)
  | 0, m, D => by rw [Nat.zero_add]; rfl
  | n + 1, m, D => by rw [show n + 1 + m = (n + m) + 1 by omega]; exact runN_add S n m _
theorem runN_last (S : SysD) (n : Nat) (D : WldD) : runN S (n + 1) D = nextC S (runN S n D) := runN_add S n 1 D
/-- The world ahead of the first tick. -/
def celD0 : CelD := ⟨celZ, []⟩
def beginC (S : SysD) : WldD := ⟨0, List.replicate S.parts.length celD0, List.replicate S.chans.length []⟩
theorem begin_right {S : SysD} (hk : chkS S = 0) : Right S (beginC S) := by
  obtain ⟨-, -, hch, -, -⟩ := chkS_zero hk
  refine ⟨Int.le_refl _, by show (0 : Int) ≤ 300; omega, cellsB_yes (by simp [beginC]) fun k h h' => ?_, linesB_yes (by simp [beginC]) fun k h h' => ?_⟩
  · simp only [beginC, List.getElem_replicate]
    exact celB_of (by decide) (by show (0 : Int) ≤ _; omega)
  · simp only [beginC, List.getElem_replicate]
    rw [List.any_eq_false] at hch
    have := hch _ (List.getElem_mem h)
    unfold kindBad at this
    unfold chkL
    simp at this
    by_cases h1 : S.chans[k].kd = 1
    · simp [h1]
    · simp [h1, this h1]
end Go.Proofs.YtjhjaafoikadgaaDoor

/- A tick keeps a world right; what it changes, and what not: plain mathematics. -/
import Derived.Test.YtbkdoohhdkahiaaGreatDoorK14
import Derived.Test.YtbkdoohhdkahiaaGreatDoorK3
namespace Go.Proofs.YtbkdoohhdkahiaaGreatDoor
set_option linter.unusedSimpArgs false
set_option linter.unusedVariables false
open Go.RowKit Go.Sort
structure Right (S : SysD) (D : WldD) : Prop where
  t0 : 0 ≤ D.tick
  t1 : D.tick ≤ 300
  c : cellsB S.parts D.cells = true
  l : linesB S.chans D.lines = true
theorem replied_at (c : Cel) (k reg flag kind val : Int) (is : Bool) : (c.replied k reg flag kind val is).at_ = c.at_ ∧ (c.replied k reg flag kind val is).read = c.read ∧ (c.replied k reg flag kind val is).en = c.en := by
  unfold Cel.replied
  split
  · exact ⟨setReg_at .., setReg_read .., setReg_en ..⟩
  · split
    · cases is
      · exact ⟨setReg_at .., setReg_read .., setReg_en ..⟩
      · exact ⟨(setReg_at ..).trans (setReg_at ..), (setReg_read ..).trans (setReg_read ..), (setReg_en ..).trans (setReg_en ..)⟩
    · exact ⟨rfl, rfl, rfl⟩
theorem servR_len {kind : Int} {l : List Int} (h : chkL kind l.length = 0) (x : Wnt) : chkL kind (servR kind l x).1.length = 0 := by
  unfold servR
  split
  · unfold putR
    rw [if_pos h]
    unfold putS
    rcases chkL_zero h with ⟨rfl, _⟩ | ⟨rfl, _⟩
    · rfl
    · simp only [show ¬((2 : Int) = 1) by decide, if_false]
      split
      · exact h
      · simp [chkL]
        omega
  · unfold getR
    rw [if_pos h]
    cases l with
    | nil => exact h
    | cons a r =>
      simp only []
      split
      · exact h
      · rcases chkL_zero h with ⟨rfl, _⟩ | ⟨rfl, h2⟩
        · contradiction
        · simp at h2
          simp [chkL]
          omega
theorem cellsB_set {ps : List Prt} {ds : List CelD} (h : cellsB ps ds = true) {k : Nat} {d : CelD} (hd : ∀ h : k < ps.length, celB ps[k] d = true) : cellsB ps (ds.set k d) = true := by
  have hl := cellsB_len h
  refine cellsB_yes (by simpa using hl) fun j h1 h2 => ?_
  by_cases e : k = j
  · subst e
    simpa using hd h1
  · rw [List.getElem_set_ne e]
    exact cellsB_at h j h1 (by omega)
theorem linesB_set {cs : List Chn} {ls : List (List Int)} (h : linesB cs ls = true) {k : Nat} {l : List Int} (hd : ∀ h : k < cs.length, chkL cs[k].kd l.length = 0) : linesB cs (ls.set k l) = true := by
  have hl := linesB_len h
  refine linesB_yes (by simpa using hl) fun j h1 h2 => ?_
  by_cases e : k = j
  · subst e
    simpa using hd h1
  · rw [List.getElem_set_ne e]
    exact linesB_at h j h1 (by omega)
theorem celB_is {p : Prt} {d : CelD} (h : celB p d = true) : d.c.fine d.out.length = true ∧ d.c.read ≤ p.inn.length := by
  unfold celB at h
  rw [Bool.and_eq_true] at h
  exact ⟨h.1, by simpa using h.2⟩
theorem celB_of {p : Prt} {d : CelD} (h : d.c.fine d.out.length = true) (h2 : d.c.read ≤ p.inn.length) : celB p d = true := by
  unfold celB
  rw [Bool.and_eq_true]
  exact ⟨h, by simpa using h2⟩
theorem step_home {S : SysD} (h : chkS S = 0) {p : Nat} (hp : p < S.parts.length) {inn xs : List Int} {c : Cel} : (stepC S.parts[p].code inn xs c).2.2 = wntZ ∨ ∃ ch, S.chans[(stepC S.parts[p].code inn xs c).2.2.ch.toNat]? = some ch ∧ (ch.fr = p ∨ ch.tt = p) := by
  obtain ⟨-, hc, -, -, hn⟩ := chkS_zero h
  have hcode := hc p hp
  have hnb := names_at (l := S.chans) (k := 0) hn p hp
  unfold nameBad at hnb
  rw [Bool.or_eq_false_iff, List.any_eq_false, List.any_eq_false] at hnb
  have hfe : firstE S.parts[p].code = 0 := by
    unfold chkC at hcode
    split at hcode
    · omega
    · exact hcode
  unfold stepC
  split
  · unfold runC
    split
    · exact .inl rfl
    · rename_i i hi
      have hlt : c.at_.toNat < S.parts[p].code.length := (List.getElem?_eq_some_iff.1 hi).1
      have hmem : i ∈ S.parts[p].code := List.mem_of_getElem? hi
      have hck : i.chk = 0 := by
        have := firstE_zero hfe _ hlt
        rw [(List.getElem?_eq_some_iff.1 hi).2] at this
        exact this
      obtain ⟨hop, ⟨ha0, ha1⟩, ⟨hb0, hb1⟩, hj, hch⟩ := chk0 (op := i.op) (a := i.a) (b := i.b) (n := i.n) hck
      cases hd : doC i inn xs c wntZ with
      | none => exact .inl rfl
      | some r =>
        obtain ⟨c', ys, x'⟩ := r
        rcases doC_want hd with e | ⟨ho, e⟩ | ⟨ho, e⟩
        · exact .inl e
        · right
          have hn5 := hch (.inl ho)
          have hb := hnb.1 _ (chan_named hmem ho hn5.1 hn5.2)
          subst e
          simp only [Option.getD_some]
          unfold putBad at hb
          split at hb
          · simp at hb
          · rename_i y hy
            exact ⟨y, hy, .inl (by simpa using hb)⟩
        · right
          have hn5 := hch (.inr ho)
          have hb := hnb.2 _ (chan_named hmem ho hn5.1 hn5.2)
          subst e
          simp only [Option.getD_some]
          unfold getBad at hb
          split at hb
          · simp at hb
          · rename_i y hy
            exact ⟨y, hy, .inr (by simpa using hb)⟩
  · exact .inl rfl
structure Tick (S : SysD) (D : WldD) (pn : Nat) (d : CelD) (D' : WldD) : Prop where
  p : pn < S.parts.length
  w : whoS S D.tick = pn
  e : nextC S D = D'
  t : D'.tick = D.tick + 1
  c : D'.cells = D.cells.set pn d
  f : celB (S.parts[pn]'p) d = true
  o : ∀ h : pn < D.cells.length, Goes (S.parts[pn]'p).inn D.cells[pn].out D.cells[pn].c d.c d.out
  s : ∀ h : pn < D.cells.length, D.cells[pn].c.en ≠ 0 → d = D.cells[pn]
  l : D'.lines = D.lines ∨ ∃ kn, ∃ h : kn < S.chans.length, ∃ l, D'.lines = D.lines.set kn l ∧ chkL (S.chans[kn]'h).kd l.length = 0 ∧ ((S.chans[kn]'h).fr = pn ∨ (S.chans[kn]'h).tt = pn)
theorem goes_replied {inn xs : List Int} {c c' : Cel} {ys : List Int} (h : Goes inn xs c c' ys) (k reg flag kind val : Int) (is : Bool) : Goes inn xs c (c'.replied k reg flag kind val is) ys := by
  obtain ⟨h1, h2, h3⟩ := replied_at c' k reg flag kind val is
  exact ⟨h1 ▸ h.at0, h1 ▸ h.at1, h3 ▸ h.en0, h3 ▸ h.en1, h2 ▸ h.rd0, h2 ▸ h.rd1, h2 ▸ h.rd2, h.out, h.len, h.len2⟩
theorem stepC_ended (l : List Ins) (inn xs : List Int) (c : Cel) (h : c.en ≠ 0) : stepC l inn xs c = (c, xs, wntZ) := by
  unfold stepC
  rw [if_neg h]
theorem tick_any {S : SysD} {D : WldD} (hk : chkS S = 0) (hR : Right S D) (ht : D.tick < 300) : ∃ pn d, Tick S D pn d (nextC S D) := by
  obtain ⟨hct, hco, -, -, -⟩ := chkS_zero hk
  obtain ⟨hcs, hin⟩ := countsB_is hct
  obtain ⟨hw0, hw1⟩ := who_range hk hR.t0
  obtain ⟨pn, hpn⟩ := Int.eq_ofNat_of_zero_le hw0
  have hlc := cellsB_len hR.c
  have hll := linesB_len hR.l
  have hp : pn < S.parts.length := by omega
  have hpd : pn < D.cells.length := by omega
  have hcel := celB_is (cellsB_at hR.c pn hp hpd)
  have hg := stepC_goes (hco pn hp) hcel.1 hcel.2
  have hw := step_want hk hp (inn := S.parts[pn].inn) (xs := D.cells[pn].out) (c := D.cells[pn].c) ((fine_iff _ _).1 hcel.1).1
  have hh := step_home hk hp (inn := S.parts[pn].inn) (xs := D.cells[pn].out) (c := D.cells[pn].c)
  have hen := stepC_ended S.parts[pn].code S.parts[pn].inn D.cells[pn].out D.cells[pn].c
  have hr0 := ((fine_iff _ _).1 hcel.1).2.2.1
  have hi := hin pn hp
  have e1 : S.parts[(whoS S D.tick).toNat]? = some S.parts[pn] := by rw [hpn]; simp [hp]
  have e2 : D.cells[(whoS S D.tick).toNat]? = some D.cells[pn] := by rw [hpn]; simp [hpd]
  have hz : wntZ.k = 0 := rfl
  cases hst : stepC S.parts[pn].code S.parts[pn].inn D.cells[pn].out D.cells[pn].c with
  | mk c' r =>
    obtain ⟨ys, x⟩ := r
    rw [hst] at hg hw hh hen
    simp only at hg hw hh
    by_cases hx : x.k = 0
    · refine ⟨pn, ⟨c', ys⟩, hp, hpn, rfl, ?_, ?_, celB_of (hg.fine hr0 hi) hg.rd2, fun _ => hg, fun _ h => ?_, .inl ?_⟩
      · unfold nextC; rw [e1, e2]; simp only [hst, hx, if_true]
      · unfold nextC; rw [e1, e2]; simp only [hst, hx, if_true]; rw [hpn]; rfl
      · have := hen h
        injection this with h1 h2
        injection h2 with h2 h3
        rw [h1, h2]
      · unfold nextC; rw [e1, e2]; simp only [hst, hx, if_true]
    · have hwo : WantOk S x := by
        rcases hw with e | h
        · rw [e] at hx; exact absurd hz hx
        · exact h
      obtain ⟨hkn, hft⟩ : ∃ hk : x.ch.toNat < S.chans.length, S.chans[x.ch.toNat].fr = pn ∨ S.chans[x.ch.toNat].tt = pn := by
        rcases hh with e | ⟨ch, h, h'⟩
        · rw [e] at hx; exact absurd hz hx
        · obtain ⟨h1, h2⟩ := List.getElem?_eq_some_iff.1 h
          exact ⟨h1, by rw [h2]; exact h'⟩
      have hln : x.ch.toNat < D.lines.length := by omega
      have e3 : S.chans[x.ch.toNat]? = some S.chans[x.ch.toNat] := by simp [hkn]
      have e4 : D.lines[x.ch.toNat]? = some D.lines[x.ch.toNat] := by simp [hln]
      have hlk := linesB_at hR.l _ hkn hln
      have E : nextC S D = ⟨D.tick + 1, D.cells.set pn ⟨c'.replied x.k x.reg x.flag S.chans[x.ch.toNat].kd (servR S.chans[x.ch.toNat].kd D.lines[x.ch.toNat] x).2.1 (servR S.chans[x.ch.toNat].kd D.lines[x.ch.toNat] x).2.2, ys⟩, D.lines.set x.ch.toNat (servR S.chans[x.ch.toNat].kd D.lines[x.ch.toNat] x).1⟩ := by
        unfold nextC
        rw [e1, e2]
        simp only [hst]
        rw [if_neg hx, e3, e4]
        simp only []
        rw [hpn]
        rfl
      have hg' := goes_replied hg x.k x.reg x.flag S.chans[x.ch.toNat].kd (servR S.chans[x.ch.toNat].kd D.lines[x.ch.toNat] x).2.1 (servR S.chans[x.ch.toNat].kd D.lines[x.ch.toNat] x).2.2
      refine ⟨pn, ⟨c'.replied x.k x.reg x.flag S.chans[x.ch.toNat].kd (servR S.chans[x.ch.toNat].kd D.lines[x.ch.toNat] x).2.1 (servR S.chans[x.ch.toNat].kd D.lines[x.ch.toNat] x).2.2, ys⟩, hp, hpn, rfl, by rw [E], by rw [E], celB_of (hg'.fine hr0 hi) hg'.rd2, fun _ => hg', fun _ h => ?_, .inr ⟨x.ch.toNat, hkn, (servR S.chans[x.ch.toNat].kd D.lines[x.ch.toNat] x).1, by rw [E], servR_len hlk x, hft⟩⟩
      have := hen h
      injection this with h1 h2
      injection h2 with h2 h3
      rw [h3] at hx
      exact absurd hz hx
theorem next_right {S : SysD} {D : WldD} (hk : chkS S = 0) (hR : Right S D) (ht : D.tick < 300) : Right S (nextC S D) ∧ (nextC S D).tick = D.tick + 1 := by
  obtain ⟨pn, d, T⟩ := tick_any hk hR ht
  refine ⟨⟨by rw [T.t]; have := hR.t0; omega, by rw [T.t]; omega, by rw [T.c]; exact cellsB_set hR.c (fun _ => T.f), ?_⟩, T.t⟩
  rcases T.l with e | ⟨kn, h, l, e, h2, -⟩
  · rw [e]; exact hR.l
  · rw [e]; exact linesB_set hR.l (fun _ => h2)
def runN (S : SysD) : Nat → WldD → WldD
  | 0, D => D
  | n + 1, D => runN S n (nextC S D)
theorem runN_right {S : SysD} (hk : chkS S = 0) : ∀ (n : Nat) {D : WldD}, Right S D → D.tick + n ≤ 300 → Right S (runN S n D) ∧ (runN S n D).tick = D.tick + n
  | 0, D, h, _ => ⟨h, by simp [runN]⟩
  | n + 1, D, h, ht => by
    obtain ⟨h1, h2⟩ := next_right hk h (by omega)
    obtain ⟨h3, h4⟩ := runN_right hk n h1 (by omega)
    exact ⟨h3, by rw [runN, h4, h2]; omega⟩
theorem runN_add (S : SysD) : ∀ (n m : Nat) (D : WldD), runN S (n + m) D = runN S m (runN S n D)
  | 0, m, D => by rw [Nat.zero_add]; rfl
  | n + 1, m, D => by rw [show n + 1 + m = (n + m) + 1 by omega]; exact runN_add S n m _
theorem runN_last (S : SysD) (n : Nat) (D : WldD) : runN S (n + 1) D = nextC S (runN S n D) := runN_add S n 1 D
def celD0 : CelD := ⟨celZ, []⟩
def beginC (S : SysD) : WldD := ⟨0, List.replicate S.parts.length celD0, List.replicate S.chans.length []⟩
theorem begin_right {S : SysD} (hk : chkS S = 0) : Right S (beginC S) := by
  obtain ⟨-, -, hch, -, -⟩ := chkS_zero hk
  refine ⟨Int.le_refl _, by show (0 : Int) ≤ 300; omega, cellsB_yes (by simp [beginC]) fun k h h' => ?_, linesB_yes (by simp [beginC]) fun k h h' => ?_⟩
  · simp only [beginC, List.getElem_replicate]
    exact celB_of (by decide) (by show (0 : Int) ≤ _; omega)
  · simp only [beginC, List.getElem_replicate]
    rw [List.any_eq_false] at hch
    have := hch _ (List.getElem_mem h)
    unfold kindBad at this
    unfold chkL
    simp at this
    by_cases h1 : S.chans[k].kd = 1
    · simp [h1]
    · simp [h1, this h1]
end Go.Proofs.YtbkdoohhdkahiaaGreatDoor
namespace Go.Proofs.YtbkdoohhdkahiaaGreatDoor
set_option linter.unusedSimpArgs false
set_option linter.unusedVariables false
open Go.RowKit Go.Sort
def NewB (n : Nat) (v : Value) : Prop := ∀ k, v.ownBlock = some k → n ≤ k
theorem NewB.mono {n m : Nat} {v : Value} (h : NewB n v) (hm : m ≤ n) : NewB m v := fun k e => Nat.le_trans hm (h k e)
theorem newB_nil (n : Nat) (c : Nat) : NewB n (.slice none 0 c) := fun k e => by cases e
theorem newB_at {n g o l c : Nat} (h : n ≤ g) : NewB n (.slice (some ⟨g, o, none⟩) l c) := fun k e => by simp [Value.ownBlock] at e; omega
def PartsN (n : Nat) (w : World) (v : Value) (ps : List Prt) : Prop :=
  ∃ vs : List (Value × Value), vs.length = ps.length ∧ Sl w 2 v ps.length (rowC prC vs) ∧ NewB n v ∧ ∀ k (hk : k < ps.length) (hk' : k < vs.length), PrtR w vs[k].1 vs[k].2 ps[k] ∧ NewB n vs[k].1 ∧ NewB n vs[k].2
structure SysN (n : Nat) (w : World) (vp vc vs : Value) (S : SysD) : Prop where
  p : PartsN n w vp S.parts
  c : Sl w 3 vc S.chans.length (rowC chC S.chans)
  s : Sl w 2 vs S.slots.length (rowC slC S.slots)
  nc : NewB n vc
  ns : NewB n vs
theorem PartsN.r {n : Nat} {w : World} {v : Value} {ps : List Prt} (h : PartsN n w v ps) : PartsR w v ps := by
  obtain ⟨vs, h1, h2, _, h4⟩ := h
  exact ⟨vs, h1, h2, fun k hk hk' => (h4 k hk hk').1⟩
theorem SysN.sys {n : Nat} {w : World} {vp vc vs : Value} {S : SysD} (h : SysN n w vp vc vs S) : Sys w vp vc vs S := ⟨h.p.r, h.c, h.s⟩
theorem Sl.far {w : World} {size n m c j : Nat} {v : Value} {xs : List Value} (h : Sl w size v m xs) (hn : NewB n v) (hc : c < n) (u : Value) : Sl (w.setCell ⟨c, j, none⟩ u) size v m xs := h.set u (fun e => by have := hn c e; omega)
theorem SysN.set {n : Nat} {w : World} {vp vc vs : Value} {S : SysD} (h : SysN n w vp vc vs S) {c j : Nat} (hc : c < n) (u : Value) : SysN n (w.setCell ⟨c, j, none⟩ u) vp vc vs S := by
  obtain ⟨ps, h1, h2, h3, h4⟩ := h.p
  exact ⟨⟨ps, h1, h2.far h3 hc u, h3, fun k hk hk' => ⟨⟨(h4 k hk hk').1.code.far (h4 k hk hk').2.1 hc u, (h4 k hk hk').1.inn.far (h4 k hk hk').2.2 hc u⟩, (h4 k hk hk').2⟩⟩, h.c.far h.nc hc u, h.s.far h.ns hc u, h.nc, h.ns⟩
theorem SysN.up {n : Nat} {w w' : World} {vp vc vs : Value} {S : SysD} (h : SysN n w vp vc vs S) (hb : Below w.heap.size w w') : SysN n w' vp vc vs S := by
  obtain ⟨ps, h1, h2, h3, h4⟩ := h.p
  exact ⟨⟨ps, h1, h2.up hb, h3, fun k hk hk' => ⟨(h4 k hk hk').1.up hb, (h4 k hk hk').2⟩⟩, h.c.up hb, h.s.up hb, h.nc, h.ns⟩
theorem lit_sl (w : World) (xs : List Value) (t : TypeId) (g n size : Nat) (hg : g = w.heap.size) (hl : xs.length = n * size) : Sl (w.alloc (.cells xs.toArray t)) size (.slice (some ⟨g, 0, none⟩) n n) n xs := by
  subst hg
  refine ⟨hl, _, _, rfl, Nat.le_refl _, fun _ => ⟨_, 0, rfl, by simp, fun j u hj => ?_⟩⟩
  rw [Nat.zero_add, World.cell?_alloc_new, ← Array.getElem?_toList]
  exact hj
theorem Sl.up1 {w : World} {size n : Nat} {v : Value} {xs : List Value} (h : Sl w size v n xs) (o : Obj) : Sl (w.alloc o) size v n xs := h.up ((Below.refl _ _).alloc (Nat.le_refl _) _)
def relayS : SysD := ⟨[⟨[⟨10, 0, 0, 0⟩, ⟨12, 0, 0, 0⟩, ⟨15, 0, 0, 0⟩], [6]⟩, ⟨tellerL, []⟩, ⟨[⟨13, 0, 1, 1⟩, ⟨9, 1, 0, 0⟩, ⟨11, 0, 0, 0⟩, ⟨15, 0, 0, 0⟩], []⟩, ⟨[⟨11, 0, 0, 0⟩, ⟨8, 0, 0, 0⟩], []⟩], [⟨2, 0, 1⟩, ⟨1, 1, 2⟩], [⟨0, 3⟩, ⟨1, 4⟩, ⟨3, 1⟩, ⟨2, 4⟩]⟩
theorem relay_chk : chkS relayS = 0 := by decide +kernel
theorem relay_ok : relayS.ok := by
  intro p hp j hj
  have h : ∀ p ∈ relayS.parts, ∀ i ∈ p.code, i.ok := by
    intro p hp i hi
    simp only [relayS, List.mem_cons, List.not_mem_nil, or_false] at hp
    rcases hp with rfl | rfl | rfl | rfl
    all_goals simp only [tellerL, List.mem_cons, List.not_mem_nil, or_false] at hi
    · rcases hi with rfl | rfl | rfl <;> exact ⟨⟨by decide, by decide⟩, ⟨by decide, by decide⟩, ⟨by decide, by decide⟩, ⟨by decide, by decide⟩⟩
    · rcases hi with rfl | rfl | rfl | rfl | rfl <;> exact ⟨⟨by decide, by decide⟩, ⟨by decide, by decide⟩, ⟨by decide, by decide⟩, ⟨by decide, by decide⟩⟩
    · rcases hi with rfl | rfl | rfl | rfl <;> exact ⟨⟨by decide, by decide⟩, ⟨by decide, by decide⟩, ⟨by decide, by decide⟩, ⟨by decide, by decide⟩⟩
    · rcases hi with rfl | rfl <;> exact ⟨⟨by decide, by decide⟩, ⟨by decide, by decide⟩, ⟨by decide, by decide⟩, ⟨by decide, by decide⟩⟩
  exact h p hp _ (List.getElem_mem hj)
set_option maxRecDepth 100000 in
theorem tellerN_any (w : World) : Calls Tryz.prog 67 #[] w fun e w' => e = .returned (.slice (some ⟨w.heap.size, 0, none⟩) 5 5) ∧ w' = w.alloc (.cells (codeC tellerL).toArray 124) := by
  go_enter Tryz.func67, Tryz.ntmps67
  go_wp2
  go_ret
  exact ⟨rfl, rfl⟩
set_option maxRecDepth 100000 in
set_option maxHeartbeats 2000000 in
theorem relay_any (w : World) : Calls Tryz.prog 32 #[] w fun e w' => ∃ vp vc vs, e = .returned (.agg #[vp, vc, vs]) ∧ SysN (w.heap.size + 1) w' vp vc vs relayS ∧ Below w.heap.size w w' := by
  go_enter Tryz.func32, Tryz.ntmps32
  go_wp2_with (go_at_call 67; refine (tellerN_any _).mono ?_; rintro e w1 ⟨rfl, rfl⟩)
  refine bodyPost_ret (v := .agg #[.slice (some ⟨w.heap.size + 1 + 1 + 1 + 1 + 1 + 1, 0, none⟩) 4 4, .slice (some ⟨w.heap.size + 1 + 1 + 1 + 1 + 1 + 1 + 1, 0, none⟩) 2 2, .slice (some ⟨w.heap.size + 1 + 1 + 1 + 1 + 1 + 1 + 1 + 1, 0, none⟩) 4 4]) (by simp [results, Tryz.f32, go_sem]) rfl ⟨_, _, _, rfl, ?_, up0⟩
  refine ⟨⟨[(.slice (some ⟨w.heap.size + 1, 0, none⟩) 3 3, .slice (some ⟨w.heap.size + 1 + 1, 0, none⟩) 1 1), (.slice (some ⟨w.heap.size + 1 + 1 + 1, 0, none⟩) 5 5, .slice none 0 0), (.slice (some ⟨w.heap.size + 1 + 1 + 1 + 1, 0, none⟩) 4 4, .slice none 0 0), (.slice (some ⟨w.heap.size + 1 + 1 + 1 + 1 + 1, 0, none⟩) 2 2, .slice none 0 0)], rfl, ?_, newB_at (by omega), ?_⟩, ?_, ?_, newB_at (by omega), newB_at (by omega)⟩
  · exact (by repeat (first | exact lit_sl _ _ _ _ _ _ (by simp) rfl | refine Sl.up1 ?_ _))
  · intro k hk hk'
    have hk4 : k = 0 ∨ k = 1 ∨ k = 2 ∨ k = 3 := by have : k < 4 := hk; omega
    rcases hk4 with rfl | rfl | rfl | rfl
    · exact ⟨⟨(by repeat (first | exact lit_sl _ _ _ _ _ _ (by simp) rfl | refine Sl.up1 ?_ _)), (by repeat (first | exact lit_sl _ _ _ _ _ _ (by simp) rfl | refine Sl.up1 ?_ _))⟩, newB_at (by omega), newB_at (by omega)⟩
    · exact ⟨⟨(by repeat (first | exact lit_sl _ _ _ _ _ _ (by simp) rfl | refine Sl.up1 ?_ _)), Sl.nil _ _⟩, newB_at (by omega), newB_nil _ _⟩
    · exact ⟨⟨(by repeat (first | exact lit_sl _ _ _ _ _ _ (by simp) rfl | refine Sl.up1 ?_ _)), Sl.nil _ _⟩, newB_at (by omega), newB_nil _ _⟩
    · exact ⟨⟨(by repeat (first | exact lit_sl _ _ _ _ _ _ (by simp) rfl | refine Sl.up1 ?_ _)), Sl.nil _ _⟩, newB_at (by omega), newB_nil _ _⟩
  · exact (by repeat (first | exact lit_sl _ _ _ _ _ _ (by simp) rfl | refine Sl.up1 ?_ _))
  · exact (by repeat (first | exact lit_sl _ _ _ _ _ _ (by simp) rfl | refine Sl.up1 ?_ _))
end Go.Proofs.YtbkdoohhdkahiaaGreatDoor
namespace Go.Proofs.YtbkdoohhdkahiaaGreatDoor
set_option linter.unusedSimpArgs false
set_option linter.unusedVariables false
open Go.RowKit Go.Sort
theorem wp_make {P : Program} {o : Oper} {a : Act} {w : World} {K : Act → World → Prop} {Q : Exit → Act → World → Prop} (l c : Operand) (t : TypeId) (ho : o.op = .makeSlice t l c)
    (e : TypeId) (i : TypeInfo) (z : Value) (size bytes : Nat) (h1 : P.underlying t = some (.slice e)) (h2 : P.info? e = some i) (h3 : i.zero = some z) (h4 : i.size = size) (h5 : i.bytes = bytes)
    (n : Nat) (hl : a.eval l = .int .i64 n) (hc : a.eval c = .int .i64 n) (b2 : bytes * n ≤ 281474976710656) (b3 : n ≤ 9223372036854775807)
    (h : K (a.put o.dst (.slice (some ⟨w.heap.size, 0, none⟩) n n)) (w.alloc (.cells (madeCells z.cells (n * size)) e))) : o.wp P a w K Q := by
  subst h4 h5
  have hb' : (i.bytes : Int) * (n : Int) ≤ 281474976710656 := by
    have h : ((i.bytes * n : Nat) : Int) ≤ 281474976710656 := by omega
    rwa [Int.natCast_mul] at h
  have hrun := run_make (P := P) w t e i z h1 h2 h3 .i64 .i64 n n (by omega) (Int.le_refl _) hb' (by omega)
  simp only [Int.toNat_natCast] at hrun
  unfold Oper.wp
  simp [execOp, ho, hl, hc, hrun, Result.andThen]
  exact h
theorem made_at (z : Array Value) (hz : 0 < z.size) (n k j : Nat) (hk : k < n) (hj : j < z.size) : (madeCells z (n * z.size)).toList[k * z.size + j]? = z[j]? := by
  have h1 : k * z.size + j < n * z.size := by
    have : (k + 1) * z.size ≤ n * z.size := Nat.mul_le_mul_right _ hk
    rw [Nat.add_mul] at this
    omega
  rw [Array.getElem?_toList]
  unfold madeCells
  rw [Array.getElem?_map, Array.getElem?_range, if_pos h1]
  simp [Nat.mod_eq_of_lt hj, hj]
theorem made_cells (n : Nat) : (madeCells (celZ.cs (.slice none 0 0)) (n * 16)).toList = rowC celC (List.replicate n (celZ, .slice none 0 0)) := by
  apply List.ext_getElem?
  intro j
  by_cases hj : j < n * 16
  · have hk : j / 16 < n := by omega
    have hr : j % 16 < 16 := by omega
    have hjk : j = j / 16 * 16 + j % 16 := by omega
    rw [hjk, rowC_at celC_len _ (j / 16) (j % 16) (by simpa using hk) hr]
    refine (made_at (celZ.cs (.slice none 0 0)) (by decide) n (j / 16) (j % 16) hk hr).trans ?_
    rw [List.getElem_replicate, celC, Array.getElem?_toList]
  · rw [List.getElem?_eq_none (by simp [size_madeCells]; omega), List.getElem?_eq_none (by rw [rowC_len celC_len]; simp; omega)]
structure Bg (X W : World) (oc ol : Option Value) (n m : Nat) : Prop where
  d : Below X.heap.size X W
  c : ∀ v, oc = some v → ∃ ps : List (Cel × Value), ps = List.replicate n (celZ, .slice none 0 0) ∧ Sl W 16 v n (rowC celC ps) ∧ ∀ b, v.ownBlock = some b → X.heap.size ≤ b ∧ b < W.heap.size ∧ ∃ cur, Rw W b 77 cur
  l : ∀ v, ol = some v → Sl W 1 v m (List.replicate m (.slice none 0 0)) ∧ ∀ b, v.ownBlock = some b → X.heap.size ≤ b ∧ b < W.heap.size
  ne : ∀ v u, oc = some v → ol = some u → ∀ b, u.ownBlock = some b → v.ownBlock ≠ some b
theorem Bg.begin (X : World) (n m : Nat) : Bg X X.drew none none n m := ⟨(Below.refl _ _).drew, by simp, by simp, by simp⟩
theorem Bg.cells {X W : World} {ol : Option Value} {n m : Nat} (h : Bg X W none ol n m) : Bg X (W.alloc (.cells (madeCells (celZ.cs (.slice none 0 0)) (n * 16)) 77)) (some (.slice (some ⟨W.heap.size, 0, none⟩) n n)) ol n m :=
  ⟨h.d.alloc h.d.size _, fun v q => by
    injection q with q
    subst q
    refine ⟨_, rfl, ?_, fun b e => by simp [Value.ownBlock] at e; have := h.d.size; exact ⟨by omega, by simp; omega, _, Rw.new _ _ _ e.symm⟩⟩
    rw [← made_cells]
    exact lit_sl W (madeCells (celZ.cs (.slice none 0 0)) (n * 16)).toList _ _ n 16 rfl (by simp [size_madeCells]), fun v q => ⟨(h.l v q).1.up1 _, fun b e => ⟨((h.l v q).2 b e).1, by have := ((h.l v q).2 b e).2; simp; omega⟩⟩, fun v u q q' b e => by
    injection q with q
    subst q
    have := ((h.l u q').2 b e).2
    simp [Value.ownBlock]
    omega⟩
theorem Bg.lines {X W : World} {oc : Option Value} {n m : Nat} (h : Bg X W oc none n m) : Bg X (W.alloc (.cells (madeCells #[.slice none 0 0] (m * 1)) 171)) oc (some (.slice (some ⟨W.heap.size, 0, none⟩) m m)) n m :=
  ⟨h.d.alloc h.d.size _, fun v q => by
    obtain ⟨ps, e, h2, h3⟩ := h.c v q
    exact ⟨ps, e, h2.up1 _, fun b e => ⟨(h3 b e).1, by have := (h3 b e).2.1; simp; omega, let ⟨c, hc⟩ := (h3 b e).2.2; ⟨c, hc.alloc _⟩⟩⟩, fun v q => by
    injection q with q
    subst q
    refine ⟨?_, fun b e => by simp [Value.ownBlock] at e; have := h.d.size; simp; omega⟩
    rw [Nat.mul_one, ← toList_madeCells_one]
    exact lit_sl W (madeCells #[.slice none 0 0] m).toList _ _ m 1 rfl (by simp [size_madeCells]), fun v u q q' b e e' => by
    injection q' with q'
    subst q'
    obtain ⟨ps, _, _, h3⟩ := h.c v q
    have := (h3 b e').2.1
    simp [Value.ownBlock] at e
    omega⟩
theorem Bg.done {X W : World} {vc vl : Value} {S : SysD} (h : Bg X W (some vc) (some vl) S.parts.length S.chans.length) {g B : Nat} (hg : g < X.heap.size) (hB : B ≤ X.heap.size) (cs : Array Value) : WldF B (W.setRow g cs) vc vl (beginC S) := by
  obtain ⟨ps, e, h2, h3⟩ := h.c vc rfl
  obtain ⟨h4, h5⟩ := h.l vl rfl
  subst e
  refine ⟨⟨List.replicate S.parts.length (celZ, .slice none 0 0), by simp [beginC], ?_, fun k hk hk' => ?_⟩, ⟨List.replicate S.chans.length (.slice none 0 0), by simp [beginC], ?_, fun k hk hk' => ?_⟩, fun b e => Nat.le_trans hB (h3 b e).1, fun b e => ⟨Nat.le_trans hB (h5 b e).1, h.ne vc vl rfl rfl b e⟩, fun b e => let ⟨c, hc⟩ := (h3 b e).2.2; ⟨c, hc.row_other _ (by have := (h3 b e).1; omega)⟩⟩
  · simp only [beginC, List.length_replicate]
    exact h2.row cs (fun e => by have := (h3 g e).1; omega)
  · simp only [beginC, List.getElem_replicate]
    exact ⟨rfl, Sl.nil _ _, fun b e => by cases e⟩
  · simp only [beginC, List.length_replicate]
    exact h4.row cs (fun e => by have := (h5 g e).1; omega)
  · simp only [beginC, List.getElem_replicate]
    exact ⟨Sl.nil _ _, fun b e => by cases e⟩
theorem sl_fresh {w : World} {size : Nat} {v : Value} {n : Nat} {xs : List Value} (h : Sl w size v n xs) (o : Obj) (u : Array Value) : Sl ((w.alloc o).setRow w.heap.size u) size v n xs :=
  sl_row0K (h.up1 o) fun hn e => by
    obtain ⟨b, off, cap, rfl, _, hb, _⟩ := h.open hn
    simp [Value.ownBlock] at e
    omega
theorem WldF.fresh {B : Nat} {w : World} {vc vl : Value} {D : WldD} (h : WldF B w vc vl D) (o : Obj) (u : Array Value) : WldF B ((w.alloc o).setRow w.heap.size u) vc vl D := by
  obtain ⟨⟨ps, p1, p2, p3⟩, ⟨vs, q1, q2, q3⟩, bc, bl, fz⟩ := h
  exact ⟨⟨ps, p1, sl_fresh p2 o u, fun k hk hk' => ⟨(p3 k hk hk').1, sl_fresh (p3 k hk hk').2.1 o u, (p3 k hk hk').2.2⟩⟩, ⟨vs, q1, sl_fresh q2 o u, fun k hk hk' => ⟨sl_fresh (q3 k hk hk').1 o u, (q3 k hk hk').2⟩⟩, bc, bl, fun g e => let ⟨c, hc⟩ := fz g e; ⟨c, (hc.alloc o).row_other _ (by have := hc.lt; omega)⟩⟩
def wldZ : WldD := ⟨0, [], []⟩
theorem WldF.nil (B : Nat) (w : World) : WldF B w (.slice none 0 0) (.slice none 0 0) wldZ := ⟨⟨[], rfl, Sl.nil _ _, fun k hk => by simp [wldZ] at hk⟩, ⟨[], rfl, Sl.nil _ _, fun k hk => by simp [wldZ] at hk⟩, fun b e => (by cases e), fun b e => (by cases e), fun b e => (by cases e)⟩
theorem world_one (t : Int) (a : Option Addr) (n c : Nat) (a' : Option Addr) (n' c' : Nat) : (#[.int .i64 t, .slice a n c, .slice a' n' c'] : Array Value).all (·.oneCell') = true := by simp [Value.oneCell']
theorem countsS {S : SysD} (h : chkS S = 0) : S.parts.length ≤ 4 ∧ S.chans.length ≤ 6 := by
  unfold chkS at h
  cases hb : countsB S with
  | false => rw [hb] at h; simp at h
  | true => simp [countsB] at hb; omega
def beginR (S : SysD) : WldD := if chkS S = 0 then beginC S else wldZ
set_option maxRecDepth 100000 in
set_option maxHeartbeats 8000000 in
theorem kernBegin_any (S : SysD) (vp vc vs : Value) (w : World) (he : Env w) (hS : Sys w vp vc vs S) (e0 : Int) (hk : chkS S = e0) (D : WldD) (hD : beginR S = D) :
    Calls Tryz.prog 50 #[.agg #[vp, vc, vs]] w fun e w' => ∃ uc ul, e = .returned (.tuple #[.agg #[.int .i64 D.tick, uc, ul], .int .i64 e0]) ∧ WldF w.heap.size w' uc ul D ∧ Below w.heap.size w w' := by
  obtain ⟨i1, hi1, hy0, hy1, hy2⟩ := info_parts infoCell
  obtain ⟨i2, hi2, hx0, hx1, hx2⟩ := info_parts infoLine
  obtain ⟨pa, pc, rfl⟩ := hS.p.form
  obtain ⟨ka, kc, rfl⟩ := hS.c.form
  obtain ⟨sa, sc, rfl⟩ := hS.s.form
  have HC := Lib.hid fun w he hS => confCheck_any S (.slice pa S.parts.length pc) (.slice ka S.chans.length kc) (.slice sa S.slots.length sc) w he hS
  rw [hk] at HC
  have HE := Lib.hid he
  have HS := Lib.hid hS
  clear he hS
  by_cases h0 : e0 = 0
  · subst h0
    obtain ⟨hcl1, hcl2⟩ := countsS hk
    have HD : Hid (beginC S = D) := by
      show _ = _
      rw [← hD, beginR, if_pos hk]
    clear hk hD
    go_enter Tryz.func50, Tryz.ntmps50
    go_wp2_with fail
    refine (HC.out _ (HE.out.up up0) (HS.out.up up0)).mono ?_
    rintro e w1 ⟨rfl, b1⟩
    have z1 := b1.size
    simp at z1
    have RA : Hid (Rw w1 w.heap.size 39 #[.slice pa S.parts.length pc, .slice ka S.chans.length kc, .slice sa S.slots.length sc]) := Rw.up (by repeat (first | exact Rw.new _ _ _ (by first | rfl | (simp; done) | omega | (simp; omega)) | refine Rw.alloc ?_ _)) b1 (by first | omega | (simp; done) | (simp; omega))
    have RB : Hid (Rw w1 (w.heap.size + 1) 61 #[.int .i64 0, .slice none 0 0, .slice none 0 0]) := Rw.up (by repeat (first | exact Rw.new _ _ _ (by first | rfl | (simp; done) | omega | (simp; omega)) | refine Rw.alloc ?_ _)) b1 (by first | omega | (simp; done) | (simp; omega))
    have HB : Hid (Below w.heap.size w w1) := by
      refine Below.trans ?_ (b1.mono (by first | omega | (simp; done) | (simp; omega)))
      exact up0
    clear b1 HC
    go_wp2
    refine region_still (S := fun w' => Rw w' w.heap.size 39 #[.slice pa S.parts.length pc, .slice ka S.chans.length kc, .slice sa S.slots.length sc]) 10 (by kernel_rfl) RA.out.drew (fun hHeld => ?_)
    have hq := fun w' (hSw : (fun w' => Rw w' w.heap.size 39 #[.slice pa S.parts.length pc, .slice ka S.chans.length kc, .slice sa S.slots.length sc]) w') => And.intro (hSw.cell (j := 0) (v := .slice pa S.parts.length pc) rfl) (hSw.cell (j := 1) (v := .slice ka S.chans.length kc) rfl)
    refine Still.u 0 [] hHeld hq ?_
    refine Still.u 1 [] hHeld hq ?_
    refine Still.u 2 [] hHeld hq ?_
    refine Still.u 4 [] hHeld hq ?_
    refine Still.u 5 [] hHeld hq ?_
    refine Still.u 6 [] hHeld hq ?_
    have M0 := Lib.hid (Bg.begin w1 S.parts.length S.chans.length)
    generalize World.drew _ = Y0 at M0 hHeld ⊢
    refine Still.all (rs := [3, 7]) (by kernel_rfl) (by simp) (Still.one (i := 3) rfl rfl (fun K hK => ?_) (Still.one (i := 7) rfl rfl (fun K hK => ?_) (by simp)))
    · refine wp_make _ _ 58 rfl 77 i1 _ 16 144 Tryz.underlying58 hi1 hy0 hy1 hy2 S.parts.length (by first | rfl | simp [Act.eval, Act.put]) (by first | rfl | simp [Act.eval, Act.put]) (by omega) (by omega) ?_
      have m := M0.out.cells
      rw [show Value.cells (.agg (celZ.cs (.slice none 0 0))) = celZ.cs (.slice none 0 0) from rfl]
      refine hK _ _ (fun _ => Rw.up (B := Y0.heap.size) hHeld ((Below.refl _ _).alloc (Nat.le_refl _) _) (Rw.lt hHeld)) (fun hh => ?_)
      have hHeld := hh (by decide)
      clear hK K hh
      try simp only [Act.put, List.getElem_toArray, List.getElem_cons_zero, List.getElem_cons_succ, List.setIfInBounds_toArray, List.set_cons_zero, List.set_cons_succ]
      generalize World.alloc _ _ = Y1 at m hHeld ⊢
      have M1 := Lib.hid m
      clear m M0
      refine Still.o 7 rfl rfl (fun K hK => ?_)
      refine wp_make _ _ 59 rfl 171 i2 _ 1 24 Tryz.underlying59 hi2 hx0 hx1 hx2 S.chans.length (by first | rfl | simp [Act.eval, Act.put]) (by first | rfl | simp [Act.eval, Act.put]) (by omega) (by omega) ?_
      have m := M1.out.lines
      rw [show Value.cells (.agg #[.slice none 0 0]) = #[.slice none 0 0] from rfl]
      refine hK _ _ (fun _ => Rw.up (B := Y1.heap.size) hHeld ((Below.refl _ _).alloc (Nat.le_refl _) _) (Rw.lt hHeld)) (fun hh => ?_)
      have hHeld := hh (by decide)
      clear hK K hh
      try simp only [Act.put, List.getElem_toArray, List.getElem_cons_zero, List.getElem_cons_succ, List.setIfInBounds_toArray, List.set_cons_zero, List.set_cons_succ]
      generalize World.alloc _ _ = Y2 at m hHeld ⊢
      have M2 := Lib.hid m
      clear m M1
      refine Still.t 8 [] hHeld ?_
      refine Still.o 9 rfl rfl (fun K hK => ?_)
      refine wp_store_row 61 _ _ rfl (w.heap.size + 1) #[.int .i64 0, (.slice (some ⟨Y0.heap.size, 0, none⟩) S.parts.length S.parts.length), (.slice (some ⟨Y1.heap.size, 0, none⟩) S.chans.length S.chans.length)] (by first | rfl | simp [Act.eval, Act.put]) (by first | rfl | simp [Act.eval, Act.put]) 61 #[.int .i64 0, .slice none 0 0, .slice none 0 0] (RB.out.up M2.out.d RB.out.lt) sizeWld rfl (world_one _ _ _ _ _ _ _) ?_
      refine hK _ _ (fun _ => Rw.row_other hHeld _ (by omega)) (fun hh => ?_)
      have hHeld := hh (by decide)
      clear hK K hh
      try simp only [Act.put, List.getElem_toArray, List.getElem_cons_zero, List.getElem_cons_succ, List.setIfInBounds_toArray, List.set_cons_zero, List.set_cons_succ]
      refine Still.o 10 rfl rfl (fun K hK => ?_)
      go_simp
      refine hK _ _ (fun h => absurd rfl h) (fun _ => ?_)
      clear hK K
      refine Still.over (by kernel_rfl) ?_ _
      clear hHeld
      go_wp2
      refine bodyPost_ret (results_row_tmp Tryz.results50 _ _ (w.heap.size + 1) _ _ rfl rfl (run_loadVar_row _ _ 61 _ #[.int .i64 0, (.slice (some ⟨Y0.heap.size, 0, none⟩) S.parts.length S.parts.length), (.slice (some ⟨Y1.heap.size, 0, none⟩) S.chans.length S.chans.length)] (0, 0) _ (Rw.row (RB.out.up M2.out.d RB.out.lt) _) Tryz.underlying61 rfl sizeWld)) rfl ⟨(.slice (some ⟨Y0.heap.size, 0, none⟩) S.parts.length S.parts.length), (.slice (some ⟨Y1.heap.size, 0, none⟩) S.chans.length S.chans.length), by rw [← HD.out]; rfl, by rw [← HD.out]; exact M2.out.done RB.out.lt (by omega) _, below_row (HB.out.trans (M2.out.d.mono (by omega))) (by omega) _⟩
    · refine wp_make _ _ 59 rfl 171 i2 _ 1 24 Tryz.underlying59 hi2 hx0 hx1 hx2 S.chans.length (by first | rfl | simp [Act.eval, Act.put]) (by first | rfl | simp [Act.eval, Act.put]) (by omega) (by omega) ?_
      have m := M0.out.lines
      rw [show Value.cells (.agg #[.slice none 0 0]) = #[.slice none 0 0] from rfl]
      refine hK _ _ (fun _ => Rw.up (B := Y0.heap.size) hHeld ((Below.refl _ _).alloc (Nat.le_refl _) _) (Rw.lt hHeld)) (fun hh => ?_)
      have hHeld := hh (by decide)
      clear hK K hh
      try simp only [Act.put, List.getElem_toArray, List.getElem_cons_zero, List.getElem_cons_succ, List.setIfInBounds_toArray, List.set_cons_zero, List.set_cons_succ]
      generalize World.alloc _ _ = Y1 at m hHeld ⊢
      have M1 := Lib.hid m
      clear m M0
      refine Still.o 3 rfl rfl (fun K hK => ?_)
      refine wp_make _ _ 58 rfl 77 i1 _ 16 144 Tryz.underlying58 hi1 hy0 hy1 hy2 S.parts.length (by first | rfl | simp [Act.eval, Act.put]) (by first | rfl | simp [Act.eval, Act.put]) (by omega) (by omega) ?_
      have m := M1.out.cells
      rw [show Value.cells (.agg (celZ.cs (.slice none 0 0))) = celZ.cs (.slice none 0 0) from rfl]
      refine hK _ _ (fun _ => Rw.up (B := Y1.heap.size) hHeld ((Below.refl _ _).alloc (Nat.le_refl _) _) (Rw.lt hHeld)) (fun hh => ?_)
      have hHeld := hh (by decide)
      clear hK K hh
      try simp only [Act.put, List.getElem_toArray, List.getElem_cons_zero, List.getElem_cons_succ, List.setIfInBounds_toArray, List.set_cons_zero, List.set_cons_succ]
      generalize World.alloc _ _ = Y2 at m hHeld ⊢
      have M2 := Lib.hid m
      clear m M1
      refine Still.t 8 [] hHeld ?_
      refine Still.o 9 rfl rfl (fun K hK => ?_)
      refine wp_store_row 61 _ _ rfl (w.heap.size + 1) #[.int .i64 0, (.slice (some ⟨Y1.heap.size, 0, none⟩) S.parts.length S.parts.length), (.slice (some ⟨Y0.heap.size, 0, none⟩) S.chans.length S.chans.length)] (by first | rfl | simp [Act.eval, Act.put]) (by first | rfl | simp [Act.eval, Act.put]) 61 #[.int .i64 0, .slice none 0 0, .slice none 0 0] (RB.out.up M2.out.d RB.out.lt) sizeWld rfl (world_one _ _ _ _ _ _ _) ?_
      refine hK _ _ (fun _ => Rw.row_other hHeld _ (by omega)) (fun hh => ?_)
      have hHeld := hh (by decide)
      clear hK K hh
      try simp only [Act.put, List.getElem_toArray, List.getElem_cons_zero, List.getElem_cons_succ, List.setIfInBounds_toArray, List.set_cons_zero, List.set_cons_succ]
      refine Still.o 10 rfl rfl (fun K hK => ?_)
      go_simp
      refine hK _ _ (fun h => absurd rfl h) (fun _ => ?_)
      clear hK K
      refine Still.over (by kernel_rfl) ?_ _
      clear hHeld
      go_wp2
      refine bodyPost_ret (results_row_tmp Tryz.results50 _ _ (w.heap.size + 1) _ _ rfl rfl (run_loadVar_row _ _ 61 _ #[.int .i64 0, (.slice (some ⟨Y1.heap.size, 0, none⟩) S.parts.length S.parts.length), (.slice (some ⟨Y0.heap.size, 0, none⟩) S.chans.length S.chans.length)] (0, 0) _ (Rw.row (RB.out.up M2.out.d RB.out.lt) _) Tryz.underlying61 rfl sizeWld)) rfl ⟨(.slice (some ⟨Y1.heap.size, 0, none⟩) S.parts.length S.parts.length), (.slice (some ⟨Y0.heap.size, 0, none⟩) S.chans.length S.chans.length), by rw [← HD.out]; rfl, by rw [← HD.out]; exact M2.out.done RB.out.lt (by omega) _, below_row (HB.out.trans (M2.out.d.mono (by omega))) (by omega) _⟩
  · have h0' : (e0 != 0) = true := by simpa using h0
    have HD : Hid (wldZ = D) := by
      show _ = _
      rw [← hD, beginR, if_neg (by rw [hk]; exact h0)]
    clear hk hD h0
    go_enter Tryz.func50, Tryz.ntmps50
    go_wp2_with fail
    refine (HC.out _ (HE.out.up up0) (HS.out.up up0)).mono ?_
    rintro e w1 ⟨rfl, b1⟩
    have z1 := b1.size
    simp at z1
    have RB : Hid (Rw w1 (w.heap.size + 1) 61 #[.int .i64 0, .slice none 0 0, .slice none 0 0]) := Rw.up (by repeat (first | exact Rw.new _ _ _ (by first | rfl | (simp; done) | omega | (simp; omega)) | refine Rw.alloc ?_ _)) b1 (by first | omega | (simp; done) | (simp; omega))
    have HB : Hid (Below w.heap.size w w1) := by
      refine Below.trans ?_ (b1.mono (by first | omega | (simp; done) | (simp; omega)))
      exact up0
    clear b1 HC
    go_wp2_with (refine wpList_store_row rfl 61 (.tmp 2) (.tmp 9) rfl (w.heap.size + 1) #[.int .i64 0, .slice none 0 0, .slice none 0 0] rfl rfl 61 #[.int .i64 0, .slice none 0 0, .slice none 0 0] RB.out sizeWld rfl (world_one _ _ _ _ _ _ _) ?_)
    refine bodyPost_ret (results_row_tmp Tryz.results50 _ _ (w.heap.size + 1) _ _ rfl rfl (run_loadVar_row _ _ 61 _ #[.int .i64 0, .slice none 0 0, .slice none 0 0] (0, 0) _ (RB.out.row _) Tryz.underlying61 rfl sizeWld)) rfl ⟨.slice none 0 0, .slice none 0 0, by rw [← HD.out]; rfl, by rw [← HD.out]; exact WldF.nil _ _, below_row HB.out (by omega) _⟩
end Go.Proofs.YtbkdoohhdkahiaaGreatDoor

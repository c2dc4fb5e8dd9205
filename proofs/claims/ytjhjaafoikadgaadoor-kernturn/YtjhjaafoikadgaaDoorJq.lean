/- The schedule, in plain words: a frame on it is the same one's turn; in a frame each has as many ticks as its slots; a system that is calmed is right, and has the same schedule. -/
import Derived.Test.YtjhjaafoikadgaaDoorJp
import Derived.Test.YtjhjaafoikadgaaDoorJk
import Derived.Test.YtjhjaafoikadgaaDoorKn9
namespace Go.Proofs.YtjhjaafoikadgaaDoor
set_option linter.unusedSimpArgs false
set_option linter.unusedVariables false
open Go.RowKit Go.Sort

theorem namesFrom_true {l : List Chn} {ps : List Prt} {k : Nat} (h : namesFrom l k ps = true) (j : Nat) (hj : j < ps.length) : nameBad l ((k + j : Nat) : Int) ps[j] = false := by
  cases hb : nameBad l ((k + j : Nat) : Int) ps[j]
  · rfl
  · rw [namesFrom_at l ps k j hj hb] at h; cases h
theorem stop_chk : chkC stopP.code = 0 := by decide +kernel
theorem calm_len (S : SysD) (p : Nat) : (calmS S p).parts.length = S.parts.length := by simp [calmS]
theorem calm_get (S : SysD) (p k : Nat) (h : k < (calmS S p).parts.length) (h' : k < S.parts.length) : (calmS S p).parts[k] = if p = k then stopP else S.parts[k] := by
  simp only [calmS, List.getElem_set]
/-- A right system, calmed, is right. -/
theorem calm_right {S : SysD} (h : chkS S = 0) (p : Nat) : chkS (calmS S p) = 0 := by
  obtain ⟨h1, h2, h3, h4, h5⟩ := chkS_zero h
  obtain ⟨hc, hi⟩ := countsB_is h1
  have hz : ∀ j (hj : j < (calmS S p).parts.length), chkC (calmS S p).parts[j].code = 0 := fun j hj => by
    rw [calm_get S p j hj (by rw [calm_len] at hj; exact hj)]
    split
    · exact stop_chk
    · exact h2 j (by rw [calm_len] at hj; exact hj)
  refine chkS_ok (countsB_mk ?_ (fun j hj => ?_)) hz h3 ?_ (namesB_yes hz (fun k hk => ?_))
  · rw [calm_len]; exact hc
  · rw [calm_get S p j hj (by rw [calm_len] at hj; exact hj)]
    split
    · simp [stopP]
    · exact hi j (by rw [calm_len] at hj; exact hj)
  · unfold placesB at h4 ⊢
    rw [calm_len]
    exact h4
  · have hk' : k < S.parts.length := by rw [calm_len] at hk; exact hk
    rw [calm_get S p k hk hk']
    split
    · rfl
    · have := namesFrom_true h5 k hk'
      rw [Nat.zero_add, nameBad_ins _ _ _ (h2 k hk')] at this
      exact this
theorem calm_who (S : SysD) (p : Nat) (t : Int) : whoS (calmS S p) t = whoS S t := rfl
theorem calm_ok {S : SysD} (h : S.ok) (p : Nat) : (calmS S p).ok := by
  intro q hq j hj
  obtain ⟨k, hk, rfl⟩ := List.getElem_of_mem hq
  have hk' : k < S.parts.length := by rw [calm_len] at hk; exact hk
  revert j
  rw [calm_get S p k hk hk']
  split
  · intro j hj
    have : j = 0 := by simp [stopP] at hj; exact hj
    subst this
    have h15 : (⟨15, 0, 0, 0⟩ : Ins).ok := ⟨⟨by decide, by decide⟩, ⟨by decide, by decide⟩, ⟨by decide, by decide⟩, ⟨by decide, by decide⟩⟩
    exact h15
  · intro j hj
    exact h _ (List.getElem_mem hk') j hj
/-- A frame on it is the same one's turn. -/
theorem who_frame (S : SysD) (t : Int) : whoS S (t + sumT 0 S.slots) = whoS S t := by
  unfold whoS
  rw [Int.add_emod_right]

def cntF (f : Nat → Bool) : Nat → Nat
  | 0 => 0
  | n + 1 => cntF f n + if f n then 1 else 0
theorem cntF_le (f : Nat → Bool) : ∀ n, cntF f n ≤ n
  | 0 => Nat.le_refl _
  | n + 1 => by rw [cntF]; have := cntF_le f n; split <;> omega
theorem cntF_front (f : Nat → Bool) : ∀ n, cntF f (n + 1) = (if f 0 then 1 else 0) + cntF (fun k => f (k + 1)) n
  | 0 => by simp [cntF]
  | n + 1 => by rw [cntF, cntF_front f n, cntF]; omega
theorem cntF_shift (f : Nat → Bool) (n : Nat) (hp : ∀ k, f (k + n) = f k) : ∀ t, cntF (fun k => f (t + k)) n = cntF f n
  | 0 => by simp
  | t + 1 => by
    have h1 := cntF_front (fun k => f (t + k)) n
    have h2 : cntF (fun k => f (t + k)) (n + 1) = cntF (fun k => f (t + k)) n + if f (t + n) then 1 else 0 := rfl
    rw [hp t] at h2
    have h3 : (fun k => f (t + (k + 1))) = fun k => f (t + 1 + k) := by funext k; congr 1; omega
    rw [h3] at h1
    have h4 := cntF_shift f n hp t
    simp only [Nat.add_zero] at h1
    omega
theorem cntF_congr {f g : Nat → Bool} : ∀ n, (∀ k, k < n → f k = g k) → cntF f n = cntF g n
  | 0, _ => rfl
  | n + 1, h => by rw [cntF, cntF, cntF_congr n (fun k hk => h k (by omega)), h n (by omega)]
theorem cntF_list (p : Int → Bool) : ∀ L : List Int, cntF (fun k => p (L.getD k 0)) L.length = L.countP p
  | [] => rfl
  | x :: r => by
    rw [List.length_cons, cntF_front, List.countP_cons]
    simp only [List.getD_cons_zero, List.getD_cons_succ]
    rw [cntF_list p r]; omega
def wantT (u : Int) : Int → List Slt → Int
  | e, [] => e
  | e, t :: r => wantT u (if t.pt == u then e + t.tk else e) r
theorem wantT_snoc (u : Int) : ∀ (l : List Slt) (e : Int) (t : Slt), wantT u e (l ++ [t]) = if t.pt == u then wantT u e l + t.tk else wantT u e l
  | [], e, t => rfl
  | x :: r, e, t => by rw [List.cons_append, wantT, wantT_snoc u r, wantT]
theorem wantT_count (u : Int) : ∀ (l : List Slt) (e : Int), (∀ t ∈ l, 0 ≤ t.tk) → wantT u e l = e + (repL l).countP (· == u)
  | [], e, _ => by simp [wantT, repL]
  | x :: r, e, h => by
    have h0 := h x (by simp)
    rw [wantT, wantT_count u r _ (fun t ht => h t (by simp [ht])), repL, List.countP_append, List.countP_replicate]
    by_cases hx : x.pt == u
    · rw [if_pos hx, if_pos hx]; omega
    · rw [if_neg hx, if_neg hx]; omega
theorem wantT_bd {ts : List Slt} (h : SlotsOk ts) (u : Int) : ∀ k, k ≤ ts.length → 0 ≤ wantT u 0 (ts.take k) ∧ wantT u 0 (ts.take k) ≤ 8 * k
  | 0, _ => by simp [wantT]
  | k + 1, hk => by
    have ih := wantT_bd h u k (by omega)
    have ht := h.2 k (by omega)
    rw [List.take_succ_eq_append_getElem (by omega), wantT_snoc]
    split <;> omega
/-- In a frame each has as many ticks as its slots. -/
theorem frame_count {S : SysD} (hok : SlotsOk S.slots) (h1 : 1 ≤ S.slots.length) (u : Int) (t n : Nat) (hn : (n : Int) = sumT 0 S.slots) : (cntF (fun k => whoS S ((t : Int) + k) == u) n : Int) = wantT u 0 S.slots := by
  have hl : n = (repL S.slots).length := by have := repL_len S.slots 0 hok.nonneg; omega
  have hp := frame_pos hok h1
  have hw : ∀ x : Nat, whoS S (x : Int) = (repL S.slots).getD (x % n) 0 := fun x => by
    obtain ⟨y, hy, hyl, hv⟩ := whoS_rep hok h1 (tick := (x : Int)) (by omega)
    rw [← hn] at hy
    have : y = x % n := by omega
    rw [← hv, ← this, List.getD_eq_getElem?_getD, List.getElem?_eq_getElem hyl]; rfl
  have e1 : (fun k : Nat => whoS S ((t : Int) + k) == u) = fun k => (fun x : Nat => (repL S.slots).getD (x % n) 0 == u) (t + k) := by
    funext k
    have := hw (t + k)
    push_cast at this
    rw [this]
  rw [e1, cntF_shift (fun x : Nat => (repL S.slots).getD (x % n) 0 == u) n (fun k => by simp only [Nat.add_mod_right]) t]
  rw [cntF_congr (g := fun k => (· == u) ((repL S.slots).getD k 0)) n (fun k hk => by simp only [Nat.mod_eq_of_lt hk]), hl, cntF_list (· == u), wantT_count u S.slots 0 hok.nonneg]
  omega

set_option maxHeartbeats 1000000 in
theorem choose_any (c : Int) (hc : in64 c) (n : Nat) (h1 : 1 ≤ n) (h2 : n ≤ 1048576) (w : World) : Calls Tryd.prog 20 #[.int .i64 c, .int .i64 (n : Int)] w fun e w' => ∃ m : Nat, e = .returned (.int .i64 (m : Int)) ∧ m < n ∧ w' = w := by
  have hn0 : ((n : Int) == 0) = false := by simp; omega
  obtain ⟨ha, hb⟩ := hc
  by_cases h : c < 0
  · have hr := Int.emod_nonneg (-(c + 1)) (show (n : Int) ≠ 0 by omega)
    have hs := Int.emod_lt_of_pos (-(c + 1)) (show (0 : Int) < n by omega)
    obtain ⟨m, hm⟩ := Int.eq_ofNat_of_zero_le hr
    have HM := Lib.hid hm
    clear hm hr
    go_enter Tryd.func20, Tryd.ntmps20
    go_wp2
    go_ret
    exact ⟨m, ret_int (show -((c + 1).tmod (n : Int)) = (m : Int) by rw [← Int.neg_tmod, Int.tmod_eq_emod_of_nonneg (by omega)]; exact HM.out), by have := HM.out; omega, rfl⟩
  · have hr := Int.emod_nonneg c (show (n : Int) ≠ 0 by omega)
    have hs := Int.emod_lt_of_pos c (show (0 : Int) < n by omega)
    obtain ⟨m, hm⟩ := Int.eq_ofNat_of_zero_le hr
    have HM := Lib.hid hm
    have h0 : 0 ≤ c := by omega
    clear hm hr
    go_enter Tryd.func20, Tryd.ntmps20
    go_wp2
    go_ret
    exact ⟨m, ret_int (by first | exact HM.out | (rw [← HM.out]; rfl) | (rw [← HM.out]; exact Int.tmod_eq_emod_of_nonneg (by omega))), by have := HM.out; omega, rfl⟩
end Go.Proofs.YtjhjaafoikadgaaDoor

namespace Go.Proofs.YtjhjaafoikadgaaDoor
set_option linter.unusedSimpArgs false
set_option linter.unusedVariables false
open Go.RowKit Go.Sort

def rdD (r : Int) (d : CelD) : CelD := ⟨{ d.c with read := r }, d.out⟩
def setRead (cs : List CelD) (u : Nat) (r : Int) : List CelD := cs.modify u (rdD r)
theorem setRead_len (cs : List CelD) (u : Nat) (r : Int) : (setRead cs u r).length = cs.length := by simp [setRead]
theorem setRead_at (cs : List CelD) (u : Nat) (r : Int) (j : Nat) (h : j < (setRead cs u r).length) (h' : j < cs.length) : (setRead cs u r)[j] = if u = j then rdD r cs[j] else cs[j] := List.getElem_modify ..
theorem setRead_at? (cs : List CelD) (u : Nat) (r : Int) (j : Nat) (h : u ≠ j) : (setRead cs u r)[j]? = cs[j]? := by
  unfold setRead
  rw [List.getElem?_modify]
  simp [h]
theorem setRead_set (cs : List CelD) (u p : Nat) (r : Int) (d : CelD) (h : u ≠ p) : setRead (cs.set p d) u r = (setRead cs u r).set p d := by
  apply List.ext_getElem?
  intro j
  unfold setRead
  simp only [List.getElem?_modify, List.getElem?_set, List.length_modify]
  by_cases e : p = j
  · subst e
    by_cases h2 : p < cs.length <;> simp [h, h2]
  · simp [e]
theorem setRead_back (cs : List CelD) (u : Nat) (h : u < cs.length) : setRead (setRead cs u 0) u cs[u].c.read = cs := by
  apply List.ext_getElem (by simp [setRead])
  intro j h1 h2
  rw [setRead_at _ _ _ _ h1 (by simpa [setRead] using h2), setRead_at _ _ _ _ (by simpa [setRead] using h2) h2]
  by_cases e : u = j
  · subst e
    simp [rdD]
  · simp [e]
/-- The world in which the one has read nothing. -/
def turnW (D : WldD) (u : Nat) : WldD := ⟨D.tick, setRead D.cells u 0, D.lines⟩
theorem fine_rd (d : CelD) (n : Nat) (h : d.c.fine n = true) : (rdD 0 d).c.fine n = true := by
  obtain ⟨h0, h1, -, -, h4, h5, h6⟩ := (fine_iff _ _).1 h
  exact (fine_iff _ _).2 ⟨h0, h1, by show (0 : Int) ≤ 0; omega, by show (0 : Int) ≤ 12; omega, h4, h5, h6⟩
theorem turn_right {S : SysD} {D : WldD} (hR : Right S D) (u : Nat) : Right (calmS S u) (turnW D u) := by
  have hl := cellsB_len hR.c
  refine ⟨hR.t0, hR.t1, cellsB_yes (by simp [turnW, setRead_len, calmS, hl]) fun j h h' => ?_, hR.l⟩
  have hj : j < S.parts.length := by simpa [calmS] using h
  have hj' : j < D.cells.length := by omega
  have hc := celB_is (cellsB_at hR.c j hj hj')
  have e2 : (turnW D u).cells[j] = if u = j then rdD 0 D.cells[j] else D.cells[j] := setRead_at _ _ _ _ h' hj'
  rw [e2, calm_get S u j h hj]
  by_cases e : u = j
  · rw [if_pos e, if_pos e]
    exact celB_of (fine_rd _ _ hc.1) (by show (0 : Int) ≤ _; omega)
  · rw [if_neg e, if_neg e]
    exact celB_of hc.1 hc.2
theorem turn_next (S : SysD) (D : WldD) (u : Nat) (hne : u ≠ (whoS S D.tick).toNat) : nextC (calmS S u) (turnW D u) = turnW (nextC S D) u := by
  have e1 : (calmS S u).parts[(whoS S D.tick).toNat]? = S.parts[(whoS S D.tick).toNat]? := by
    unfold calmS
    rw [List.getElem?_set]
    simp [hne]
  have e2 : (turnW D u).cells[(whoS S D.tick).toNat]? = D.cells[(whoS S D.tick).toNat]? := setRead_at? _ _ _ _ hne
  have e3 : whoS (calmS S u) (turnW D u).tick = whoS S D.tick := rfl
  have e4 : (calmS S u).chans = S.chans := rfl
  have e5 : (turnW D u).lines = D.lines := rfl
  have e6 : (turnW D u).tick = D.tick := rfl
  have e7 : (turnW D u).cells = setRead D.cells u 0 := rfl
  unfold nextC
  rw [e3, e1, e2, e4, e5, e6, e7]
  generalize (whoS S D.tick).toNat = pn at hne
  cases hP : S.parts[pn]? with
  | none => rfl
  | some P =>
    cases hc : D.cells[pn]? with
    | none => rfl
    | some d =>
      simp only []
      by_cases hk : (stepC P.code P.inn d.out d.c).2.2.k = 0
      · rw [if_pos hk, if_pos hk]
        simp only [turnW]
        rw [setRead_set _ _ _ _ _ hne]
      · rw [if_neg hk, if_neg hk]
        cases hq : S.chans[(stepC P.code P.inn d.out d.c).2.2.ch.toNat]? with
        | none => rfl
        | some ch =>
          cases hl : D.lines[(stepC P.code P.inn d.out d.c).2.2.ch.toNat]? with
          | none => rfl
          | some ln =>
            simp only [turnW]
            rw [setRead_set _ _ _ _ _ hne]
/-- What a tick leaves of the others: their cells, and the lines that are none of its channels. -/
theorem tick_cells {S : SysD} {D : WldD} {pn : Nat} {d : CelD} (T : Tick S D pn d (nextC S D)) (j : Nat) (hj : j < D.cells.length) (hj' : j < (nextC S D).cells.length) (hne : j ≠ pn) : (nextC S D).cells[j] = D.cells[j] := by
  have he : (nextC S D).cells[j] = (D.cells.set pn d)[j]'(by rw [← T.c]; exact hj') := by
    congr 1
    exact T.c
  rw [he, List.getElem_set_ne (Ne.symm hne)]
theorem tick_lines {S : SysD} {D : WldD} {pn : Nat} {d : CelD} (T : Tick S D pn d (nextC S D)) (k : Nat) (hk : k < D.lines.length) (hk' : k < (nextC S D).lines.length) (hc : k < S.chans.length) (h1 : S.chans[k].fr ≠ pn) (h2 : S.chans[k].tt ≠ pn) : (nextC S D).lines[k] = D.lines[k] := by
  rcases T.l with e | ⟨kn, h, l, e, _, hft⟩
  · congr 1
  · have hne : kn ≠ k := fun e' => by
      subst e'
      rcases hft with h' | h'
      · exact h1 h'
      · exact h2 h'
    have he : (nextC S D).lines[k] = (D.lines.set kn l)[k]'(by rw [← e]; exact hk') := by congr 1
    rw [he, List.getElem_set_ne hne]
/-- A cell's count of what was read, stored anew. -/
theorem celC_rd (c : Cel) (o : Value) (r : Int) (j : Nat) : (celC ({ c with read := r }, o))[j]? = if j = 13 then some (.int .i64 r) else (celC (c, o))[j]? := by
  unfold celC Cel.cs
  match j with
  | 0 | 1 | 2 | 3 | 4 | 5 | 6 | 7 | 8 | 9 | 10 | 11 | 12 | 13 | 14 | 15 => rfl
  | n + 16 => simp
theorem row_rd {ps : List (Cel × Value)} {u : Nat} (hu : u < ps.length) (r : Int) (j : Nat) : (rowC celC (ps.modify u (fun p => ({ p.1 with read := r }, p.2))))[j]? = if j = u * 16 + 13 then some (.int .i64 r) else (rowC celC ps)[j]? := by
  by_cases hj : j < ps.length * 16
  · have hk : j / 16 < ps.length := by omega
    have hr : j % 16 < 16 := by omega
    have hjk : j = j / 16 * 16 + j % 16 := by omega
    have h1 := rowC_at celC_len (ps.modify u (fun p => ({ p.1 with read := r }, p.2))) (j / 16) (j % 16) (by simpa using hk) hr
    have h2 := rowC_at celC_len ps (j / 16) (j % 16) hk hr
    rw [← hjk] at h1 h2
    rw [h1, h2, List.getElem_modify]
    by_cases e : u = j / 16
    · subst e
      rw [if_pos rfl, celC_rd]
      by_cases e13 : j % 16 = 13
      · rw [if_pos e13, if_pos (by omega)]
      · rw [if_neg e13, if_neg (by omega)]
    · rw [if_neg e, if_neg (by omega)]
  · rw [List.getElem?_eq_none (by rw [rowC_len celC_len]; simp; omega), if_neg (by omega), List.getElem?_eq_none (by rw [rowC_len celC_len]; omega)]
theorem WldF.setRead {B : Nat} {w : World} {vc vl : Value} {D : WldD} (h : WldF B w vc vl D) {u : Nat} (hu : u < D.cells.length) :
    ∃ g off cap, vc = .slice (some ⟨g, off, none⟩) D.cells.length cap ∧ B ≤ g ∧ g < w.heap.size ∧ D.cells.length ≤ cap ∧ w.cell? ⟨g, off + u * 16 + 13, none⟩ = some (.int .i64 D.cells[u].c.read) ∧ w.frozen? ⟨g, off + u * 16 + 13, none⟩ = false ∧ ∀ r, WldF B (w.setCell ⟨g, off + u * 16 + 13, none⟩ (.int .i64 r)) vc vl ⟨D.tick, Go.Proofs.YtjhjaafoikadgaaDoor.setRead D.cells u r, D.lines⟩ := by
  obtain ⟨⟨ps, p1, p2, p3⟩, ⟨vs, q1, q2, q3⟩, bc, bl, fz⟩ := h
  obtain ⟨g, off, cap, rfl, hcap, hg, hc⟩ := p2.open (by omega)
  obtain ⟨cur, hcur⟩ := fz g rfl
  have hup : u < ps.length := by omega
  have hcell : w.cell? ⟨g, off + u * 16 + 13, none⟩ = some (.int .i64 D.cells[u].c.read) := by
    have := hc (u * 16 + 13) (.int .i64 D.cells[u].c.read) (by
      rw [rowC_at celC_len ps u 13 hup (by decide)]
      have := (p3 u hu hup).1
      rw [← this]
      rfl)
    rw [Nat.add_assoc]
    exact this
  refine ⟨g, off, cap, rfl, bc g rfl, hg, hcap, hcell, hcur.fr _, fun r => ⟨⟨ps.modify u (fun p => ({ p.1 with read := r }, p.2)), by simp [setRead_len, p1], ?_, fun k hk hk' => ?_⟩, ⟨vs, q1, q2.set _ (fun e => (bl g e).2 rfl), fun k hk hk' => ⟨(q3 k hk hk').1.set _ (fun e => ((q3 k hk hk').2 g e).2 rfl), (q3 k hk hk').2⟩⟩, bc, bl, fun g' e => ?_⟩⟩
  · simp only [setRead_len]
    refine ⟨by rw [rowC_len celC_len]; simp [p1], some ⟨g, off, none⟩, cap, rfl, hcap, fun _ => ⟨g, off, rfl, by rw [size_set]; exact hg, fun j v hj => ?_⟩⟩
    rw [row_rd hup] at hj
    by_cases e : j = u * 16 + 13
    · rw [if_pos e] at hj
      subst e
      rw [← Nat.add_assoc, ← hj]
      exact cl_same hcell
    · rw [if_neg e] at hj
      exact cl_set (Or.inr (by simp; omega)) (hc j v hj)
  · have hk2 : k < D.cells.length := by simpa [setRead_len] using hk
    have hk2' : k < ps.length := by omega
    obtain ⟨a1, a2, a3⟩ := p3 k hk2 hk2'
    simp only [List.getElem_modify]
    have es : (Go.Proofs.YtjhjaafoikadgaaDoor.setRead D.cells u r)[k]'hk = if u = k then rdD r D.cells[k] else D.cells[k] := setRead_at _ _ _ _ hk hk2
    simp only [es]
    by_cases e : u = k
    · simp only [e, if_true, rdD]
      exact ⟨by rw [a1], a2.set _ (fun e => (a3 g e).2 rfl), a3⟩
    · simp only [e, if_false]
      exact ⟨a1, a2.set _ (fun e => (a3 g e).2 rfl), a3⟩
  · simp [Value.ownBlock] at e
    subst e
    exact ⟨_, hcur.set _ _⟩
theorem NewV.f {B G : Nat} {w : World} {vc vl : Value} {D : WldD} (h : NewV B G w vc vl D.cells D.lines) : WldF B w vc vl D := by
  obtain ⟨⟨ps, p1, p2, p3⟩, ⟨vs, q1, q2, q3⟩, a⟩ := h
  refine ⟨⟨ps, p1, own_sl p2, fun k hk hk' => ⟨(p3 k hk hk').1, (p3 k hk hk').2.1, fun b e => ⟨((p3 k hk hk').2.2 b e).1.1, ((p3 k hk hk').2.2 b e).2.2.1⟩⟩⟩, ⟨vs, q1, own_sl q2, fun k hk hk' => ⟨(q3 k hk hk').1, fun b e => ⟨((q3 k hk hk').2 b e).1.1, ((q3 k hk hk').2 b e).2.2.1⟩⟩⟩, own_block p2, fun b e => ⟨own_block q2 b e, fun e' => a b e' e⟩, fun g e => ?_⟩
  rcases p2.2 with ⟨e0, _⟩ | ⟨g', cap, cur, e0, _, hh, _⟩
  · rw [e0] at e
    cases e
  · rw [e0] at e
    simp [Value.ownBlock] at e
    subst e
    exact ⟨cur, hh⟩
end Go.Proofs.YtjhjaafoikadgaaDoor

/- Systems: what their slices hold; what conf.Check asks, in plain words. -/
import Derived.Test.YtdijpjmbicfcdaaDoorCCode2
namespace Go.Proofs.YtdijpjmbicfcdaaDoor
set_option linter.unusedSimpArgs false
set_option linter.unusedVariables false
open Go.RowKit Go.Sort

/-- The cells of a list, element by element. -/
def rowC {α : Type} (f : α → List Value) (l : List α) : List Value := l.flatMap f
theorem rowC_len {α : Type} {f : α → List Value} {s : Nat} (hs : ∀ x, (f x).length = s) : ∀ l : List α, (rowC f l).length = l.length * s
  | [] => by simp [rowC]
  | x :: r => by
    have := rowC_len hs r
    unfold rowC at this ⊢
    rw [List.flatMap_cons, List.length_append, this, hs x, List.length_cons, Nat.succ_mul]; omega
theorem rowC_at {α : Type} {f : α → List Value} {s : Nat} (hs : ∀ x, (f x).length = s) : ∀ (l : List α) (k j : Nat) (h : k < l.length), j < s → (rowC f l)[k * s + j]? = (f l[k])[j]?
  | x :: r, 0, j, _, hj => by
    unfold rowC
    rw [List.flatMap_cons, List.getElem?_append_left (by rw [hs]; omega)]; simp
  | x :: r, k + 1, j, h, hj => by
    have := rowC_at hs r k j (by simpa using h) hj
    unfold rowC at this ⊢
    rw [List.flatMap_cons, List.getElem?_append_right (by rw [hs, Nat.succ_mul]; omega)]
    rw [show (k + 1) * s + j - (f x).length = k * s + j by rw [hs, Nat.succ_mul]; omega, this]
    rfl

/-- A channel, a slot, a partition, a system. -/
structure Chn where
  kd : Int
  fr : Int
  tt : Int
structure Slt where
  pt : Int
  tk : Int
structure Prt where
  code : List Ins
  inn : List Int
structure SysD where
  parts : List Prt
  chans : List Chn
  slots : List Slt
def chC (c : Chn) : List Value := [.int .i64 c.kd, .int .i64 c.fr, .int .i64 c.tt]
def slC (c : Slt) : List Value := [.int .i64 c.pt, .int .i64 c.tk]
def prC (p : Value × Value) : List Value := [p.1, p.2]

theorem chan_cells {w : World} {b off : Nat} {l : List Chn} (hc : ∀ j u, (rowC chC l)[j]? = some u → w.cell? ⟨b, off + j, none⟩ = some u) (k : Nat) (h : k < l.length) :
    w.cell? ⟨b, off + k * 3, none⟩ = some (.int .i64 l[k].kd) ∧ w.cell? ⟨b, off + k * 3 + 1, none⟩ = some (.int .i64 l[k].fr) ∧ w.cell? ⟨b, off + k * 3 + 2, none⟩ = some (.int .i64 l[k].tt) := by
  refine ⟨?_, ?_, ?_⟩
  · exact hc (k * 3) _ (by have := rowC_at (s := 3) (f := chC) (fun _ => rfl) l k 0 h (by decide); simpa [chC] using this)
  · exact hc (k * 3 + 1) _ (by rw [rowC_at (s := 3) (f := chC) (fun _ => rfl) l k 1 h (by decide)]; rfl)
  · exact hc (k * 3 + 2) _ (by rw [rowC_at (s := 3) (f := chC) (fun _ => rfl) l k 2 h (by decide)]; rfl)
theorem slot_cells {w : World} {b off : Nat} {l : List Slt} (hc : ∀ j u, (rowC slC l)[j]? = some u → w.cell? ⟨b, off + j, none⟩ = some u) (k : Nat) (h : k < l.length) :
    w.cell? ⟨b, off + k * 2, none⟩ = some (.int .i64 l[k].pt) ∧ w.cell? ⟨b, off + k * 2 + 1, none⟩ = some (.int .i64 l[k].tk) := by
  refine ⟨?_, ?_⟩
  · exact hc (k * 2) _ (by have := rowC_at (s := 2) (f := slC) (fun _ => rfl) l k 0 h (by decide); simpa [slC] using this)
  · exact hc (k * 2 + 1) _ (by rw [rowC_at (s := 2) (f := slC) (fun _ => rfl) l k 1 h (by decide)]; rfl)
theorem part_cells {w : World} {b off : Nat} {l : List (Value × Value)} (hc : ∀ j u, (rowC prC l)[j]? = some u → w.cell? ⟨b, off + j, none⟩ = some u) (k : Nat) (h : k < l.length) :
    w.cell? ⟨b, off + k * 2, none⟩ = some l[k].1 ∧ w.cell? ⟨b, off + k * 2 + 1, none⟩ = some l[k].2 := by
  refine ⟨?_, ?_⟩
  · exact hc (k * 2) _ (by have := rowC_at (s := 2) (f := prC) (fun _ => rfl) l k 0 h (by decide); simpa [prC] using this)
  · exact hc (k * 2 + 1) _ (by rw [rowC_at (s := 2) (f := prC) (fun _ => rfl) l k 1 h (by decide)]; rfl)

/-- A part's two slices hold its code and what comes in. -/
structure PrtR (w : World) (c i : Value) (p : Prt) : Prop where
  code : Sl w 4 c p.code.length (codeC p.code)
  inn : Sl w 1 i p.inn.length (ints p.inn)
theorem PrtR.up {w w' : World} {c i : Value} {p : Prt} (h : PrtR w c i p) (hb : Below w.heap.size w w') : PrtR w' c i p := ⟨h.code.up hb, h.inn.up hb⟩
def PartsR (w : World) (v : Value) (ps : List Prt) : Prop :=
  ∃ vs : List (Value × Value), vs.length = ps.length ∧ Sl w 2 v ps.length (rowC prC vs) ∧ ∀ k (hk : k < ps.length) (hk' : k < vs.length), PrtR w vs[k].1 vs[k].2 ps[k]
theorem PartsR.up {w w' : World} {v : Value} {ps : List Prt} (h : PartsR w v ps) (hb : Below w.heap.size w w') : PartsR w' v ps := by
  obtain ⟨vs, h1, h2, h3⟩ := h
  exact ⟨vs, h1, h2.up hb, fun k hk hk' => (h3 k hk hk').up hb⟩
theorem PartsR.form {w : World} {v : Value} {ps : List Prt} (h : PartsR w v ps) : ∃ ao cap, v = .slice ao ps.length cap := by
  obtain ⟨vs, h1, h2, h3⟩ := h
  exact h2.form
theorem PartsR.open {w : World} {v : Value} {ps : List Prt} (h : PartsR w v ps) (hn : 0 < ps.length) :
    ∃ b off cap, v = .slice (some ⟨b, off, none⟩) ps.length cap ∧ ps.length ≤ cap ∧ b < w.heap.size ∧ ∀ k (hk : k < ps.length), ∃ c i, w.cell? ⟨b, off + k * 2, none⟩ = some c ∧ w.cell? ⟨b, off + k * 2 + 1, none⟩ = some i ∧ PrtR w c i ps[k] := by
  obtain ⟨vs, h1, h2, h3⟩ := h
  obtain ⟨b, off, cap, e, hcap, hb, hc⟩ := h2.open hn
  refine ⟨b, off, cap, e, hcap, hb, fun k hk => ?_⟩
  have hk' : k < vs.length := by omega
  obtain ⟨c0, c1⟩ := part_cells hc k hk'
  exact ⟨_, _, c0, c1, h3 k hk hk'⟩

/-- A system's three slices. -/
structure Sys (w : World) (vp vc vs : Value) (S : SysD) : Prop where
  p : PartsR w vp S.parts
  c : Sl w 3 vc S.chans.length (rowC chC S.chans)
  s : Sl w 2 vs S.slots.length (rowC slC S.slots)
theorem Sys.up {w w' : World} {vp vc vs : Value} {S : SysD} (h : Sys w vp vc vs S) (hb : Below w.heap.size w w') : Sys w' vp vc vs S := ⟨h.p.up hb, h.c.up hb, h.s.up hb⟩
/-- Its instructions' numbers are numbers of 64 bits. -/
def SysD.ok (S : SysD) : Prop := ∀ p ∈ S.parts, ∀ j (hj : j < p.code.length), p.code[j].ok

/-! What conf.Check asks. -/
def countsB (S : SysD) : Bool := decide (1 ≤ S.parts.length ∧ S.parts.length ≤ 4 ∧ S.chans.length ≤ 6 ∧ 1 ≤ S.slots.length ∧ S.slots.length ≤ 6) && !(S.parts.any fun p => decide (12 < p.inn.length))
def firstP : List Prt → Int
  | [] => 0
  | p :: r => if chkC p.code = 0 then firstP r else chkC p.code
theorem firstP_at : ∀ (l : List Prt) (k : Nat) (h : k < l.length), (∀ j (hj : j < l.length), j < k → chkC l[j].code = 0) → chkC l[k].code ≠ 0 → firstP l = chkC l[k].code
  | i :: r, 0, _, _, hne => by rw [firstP, if_neg (show ¬ chkC i.code = 0 from hne)]; rfl
  | i :: r, k + 1, h, hz, hne => by
    rw [firstP, if_pos (show chkC i.code = 0 from hz 0 (by simp) (by omega))]
    exact firstP_at r k (by simpa using h) (fun j hj hlt => hz (j + 1) (by simpa using hj) (by omega)) hne
theorem firstP_all : ∀ l : List Prt, (∀ j (hj : j < l.length), chkC l[j].code = 0) → firstP l = 0
  | [], _ => rfl
  | i :: r, hz => by
    rw [firstP, if_pos (show chkC i.code = 0 from hz 0 (by simp))]
    exact firstP_all r (fun j hj => hz (j + 1) (by simpa using hj))
theorem firstP_zero : ∀ {l : List Prt}, firstP l = 0 → ∀ j (hj : j < l.length), chkC l[j].code = 0
  | i :: r, h, j, hj => by
    rw [firstP] at h
    by_cases hc : chkC i.code = 0
    · rw [if_pos hc] at h
      cases j with
      | zero => exact hc
      | succ j => exact firstP_zero h j (by simpa using hj)
    · rw [if_neg hc] at h; exact absurd h hc
def kindBad (c : Chn) : Bool := c.kd != 1 && c.kd != 2
def placeBad (n : Nat) (c : Chn) : Bool := !(withinB c.fr 0 (n - 1)) || !(withinB c.tt 0 (n - 1)) || c.fr == c.tt
def slotBad (n : Nat) (t : Slt) : Bool := !(withinB t.pt 0 (n - 1)) || !(withinB t.tk 1 8)
def placesB (S : SysD) : Bool := !(S.chans.any (placeBad S.parts.length)) && !(S.slots.any (slotBad S.parts.length))
/-- A channel that one may not put to (get of). -/
def putBad (l : List Chn) (me : Int) (c : Int) : Bool := match l[c.toNat]? with | none => true | some x => x.fr != me
def getBad (l : List Chn) (me : Int) (c : Int) : Bool := match l[c.toNat]? with | none => true | some x => x.tt != me
def nameBad (l : List Chn) (me : Int) (p : Prt) : Bool := (chanL p.code 12 6).any (putBad l me) || (chanL p.code 13 6).any (getBad l me)
def namesFrom (l : List Chn) : Nat → List Prt → Bool
  | _, [] => true
  | k, p :: r => if nameBad l k p then false else namesFrom l (k + 1) r
def namesB (S : SysD) : Bool := namesFrom S.chans 0 S.parts
def chkS (S : SysD) : Int :=
  if countsB S = false then 2 else if firstP S.parts ≠ 0 then firstP S.parts else if S.chans.any kindBad = true then 4 else if placesB S = false then 3 else if namesB S = false then 1 else 0
end Go.Proofs.YtdijpjmbicfcdaaDoor

/- A world that is being copied: its slices are new, and lie apart. -/
import Derived.Test.YtjhjaafoikadgaaDoorKn2
import Derived.Great.BuildSlice
namespace Go.Proofs.YtjhjaafoikadgaaDoor
set_option linter.unusedSimpArgs false
set_option linter.unusedVariables false
open Go.RowKit Go.Sort

/-- A slice literal of one whole struct. -/
theorem wpList_buildOne {P : Program} {ops : Array Oper} {rest : List Oper} {o : Oper} {a : Act} {w : World} {Q : Exit → Act → World → Prop} (hg : o.guard = none) (t e : TypeId) (x : Operand) (ho : o.op = .buildSlice t 1 #[(0, x)])
    (cs : Array Value) (hx : a.eval x = .agg cs) (hu : P.underlying t = some (.slice e)) (hsz : (P.info? e).map (·.size) = some cs.size) (hz : ((P.info? e).bind (·.zero)).isSome = true) (hpos : 0 < cs.size) (hsmall : cs.size ≤ 2 ^ 24)
    (h : wpList P ops Q rest (a.put o.dst (.slice (some ⟨w.heap.size, 0, none⟩) 1 1)) (w.alloc (.cells cs e))) : wpList P ops Q (o :: rest) a w := by
  cases hie : P.info? e with
  | none => simp [hie] at hsz
  | some ie =>
    simp only [hie, Option.map_some, Option.some.injEq, Option.bind_some] at hsz hz
    obtain ⟨z, hzz⟩ := Option.isSome_iff_exists.1 hz
    refine wpList_buildSlice hg t e 1 _ ho cs ie z hu hie hzz (by omega) (by omega) ?_ h
    have hf := Great.fill_whole (s := ie.size) (by omega) [.agg cs] ((Array.range (1 * ie.size)).map (z.cells[· % z.cells.size]!)) (fun v hv => by simp at hv; subst hv; simpa [Value.cells] using hsz.symm) (by simp)
    simpa [hx, Value.cells] using hf

theorem sl_growK {w w' : World} {row : Option Nat} {size : Nat} {v : Value} {n : Nat} {xs : List Value} (h : Sl w size v n xs) (hg : w.grownBy w' row) (hne : ∀ k, v.ownBlock = some k → row ≠ some k) : Sl w' size v n xs := by
  obtain ⟨h1, ao, cap, rfl, h3, h4⟩ := h
  refine ⟨h1, ao, cap, rfl, h3, fun hn => ?_⟩
  obtain ⟨b, off, rfl, hlt, hc⟩ := h4 hn
  exact ⟨b, off, rfl, Nat.lt_of_lt_of_le hlt hg.size, fun j u hj => (hg.cell_far ⟨b, off + j, none⟩ hlt (fun e => hne b rfl e.symm)).trans (hc j u hj)⟩
theorem own_growK {w w' : World} {row : Option Nat} {base : Nat} {e : TypeId} {size : Nat} {v : Value} {n : Nat} {xs : List Value} (h : w.ownsRow base e size v n xs) (hg : w.grownBy w' row) (hne : ∀ k, v.ownBlock = some k → row ≠ some k) : w'.ownsRow base e size v n xs := by
  have hlt := own_lt h
  refine ⟨h.1, ?_⟩
  rcases h.2 with hn | ⟨g, cap, cur, rfl, hb, hh, r⟩
  · exact .inl hn
  · exact .inr ⟨g, cap, cur, rfl, hb, (hg.block g (hlt g rfl) (fun e => hne g rfl e.symm)).trans hh, r⟩
/-- Where an inner slice lies: new, and in none of the two rows. -/
def In (B G : Nat) (w : World) (vc vl o : Value) : Prop := ∀ b, o.ownBlock = some b → (B ≤ b ∧ b ≠ G) ∧ b < w.heap.size ∧ vc.ownBlock ≠ some b ∧ vl.ownBlock ≠ some b
structure NewV (B G : Nat) (w : World) (vc vl : Value) (cs : List CelD) (ls : List (List Int)) : Prop where
  c : ∃ ps : List (Cel × Value), ps.length = cs.length ∧ w.ownsRow B 54 16 vc cs.length (rowC celC ps) ∧ ∀ k (hk : k < cs.length) (hk' : k < ps.length), ps[k].1 = cs[k].c ∧ Sl w 1 ps[k].2 cs[k].out.length (ints cs[k].out) ∧ In B G w vc vl ps[k].2
  l : ∃ vs : List Value, vs.length = ls.length ∧ w.ownsRow B 59 1 vl ls.length vs ∧ ∀ k (hk : k < ls.length) (hk' : k < vs.length), Sl w 1 vs[k] ls[k].length (ints ls[k]) ∧ In B G w vc vl vs[k]
  a : ∀ b, vc.ownBlock = some b → vl.ownBlock ≠ some b
section
variable {B G : Nat} {w w' : World} {vc vl : Value} {cs : List CelD} {ls : List (List Int)}
theorem In.up {o : Value} (h : In B G w vc vl o) (hs : w.heap.size ≤ w'.heap.size) : In B G w' vc vl o := fun b e => ⟨(h b e).1, Nat.lt_of_lt_of_le (h b e).2.1 hs, (h b e).2.2⟩
theorem NewV.nil (B G : Nat) (w : World) : NewV B G w (.slice none 0 0) (.slice none 0 0) [] [] :=
  ⟨⟨[], rfl, World.ownsRow_nil _ _ _ _, fun k hk => by simp at hk⟩, ⟨[], rfl, World.ownsRow_nil _ _ _ _, fun k hk => by simp at hk⟩, fun b e => by cases e⟩
theorem NewV.up (h : NewV B G w vc vl cs ls) (hb : Below w.heap.size w w') : NewV B G w' vc vl cs ls := by
  obtain ⟨⟨ps, p1, p2, p3⟩, ⟨vs, q1, q2, q3⟩, a⟩ := h
  exact ⟨⟨ps, p1, own_up p2 hb (own_lt p2), fun k hk hk' => ⟨(p3 k hk hk').1, (p3 k hk hk').2.1.up hb, (p3 k hk hk').2.2.up hb.size⟩⟩, ⟨vs, q1, own_up q2 hb (own_lt q2), fun k hk hk' => ⟨(q3 k hk hk').1.up hb, (q3 k hk hk').2.up hb.size⟩⟩, a⟩
/-- A store elsewhere. -/
theorem NewV.set (h : NewV B G w vc vl cs ls) {g i : Nat} (hg : g < B) (u : Value) : NewV B G (w.setCell ⟨g, i, none⟩ u) vc vl cs ls := by
  obtain ⟨⟨ps, p1, p2, p3⟩, ⟨vs, q1, q2, q3⟩, a⟩ := h
  have hs : (w.setCell ⟨g, i, none⟩ u).heap.size = w.heap.size := size_set ..
  refine ⟨⟨ps, p1, own_set (a := ⟨g, i, none⟩) p2 u (fun e => by have := own_block p2 _ e; simp at this; omega), fun k hk hk' => ⟨(p3 k hk hk').1, (p3 k hk hk').2.1.set u (fun e => by have := ((p3 k hk hk').2.2 _ e).1; omega), (p3 k hk hk').2.2.up (by rw [hs]; exact Nat.le_refl _)⟩⟩, ⟨vs, q1, own_set (a := ⟨g, i, none⟩) q2 u (fun e => by have := own_block q2 _ e; simp at this; omega), fun k hk hk' => ⟨(q3 k hk hk').1.set u (fun e => by have := ((q3 k hk hk').2 _ e).1; omega), (q3 k hk hk').2.up (by rw [hs]; exact Nat.le_refl _)⟩⟩, a⟩
/-- One cell more. -/
theorem NewV.addC (h : NewV B G w vc vl cs ls) (d : CelD) (o : Value) (ho : Sl w 1 o d.out.length (ints d.out)) (hi : In B G w vc vl o) :
    ∃ ps : List (Cel × Value), w.ownsRow B 54 16 vc cs.length (rowC celC ps) ∧
      ∀ vc' w', w'.ownsRow B 54 16 vc' (cs.length + 1) (rowC celC ps ++ (d.c.cs o).toList) → w.grownBy w' vc.ownBlock → (vc.ownBlock = vc'.ownBlock ∨ ∃ g, vc'.ownBlock = some g ∧ w.heap.size ≤ g) → NewV B G w' vc' vl (cs ++ [d]) ls := by
  obtain ⟨⟨ps, p1, p2, p3⟩, ⟨vs, q1, q2, q3⟩, a⟩ := h
  refine ⟨ps, p2, fun vc' w' hown hgr hat => ?_⟩
  have hin : ∀ x, In B G w vc vl x → In B G w' vc' vl x := fun x hx b e => by
    obtain ⟨h1, h2, h3, h4⟩ := hx b e
    refine ⟨h1, Nat.lt_of_lt_of_le h2 hgr.size, fun e' => ?_, h4⟩
    rcases hat with h5 | ⟨g, h5, h6⟩
    · exact h3 (h5.trans e')
    · rw [h5] at e'; injection e' with e'; omega
  have hsl : ∀ x n xs, Sl w 1 x n xs → In B G w vc vl x → Sl w' 1 x n xs := fun x n xs hx hi => sl_growK hx hgr (fun k e => (hi k e).2.2.1)
  refine ⟨⟨ps ++ [(d.c, o)], by simp [p1], by simpa [rowC, celC] using hown, fun k hk hk' => ?_⟩, ⟨vs, q1, own_growK q2 hgr (fun k e e' => a k e' e), fun k hk hk' => ⟨hsl _ _ _ (q3 k hk hk').1 (q3 k hk hk').2, hin _ (q3 k hk hk').2⟩⟩, fun b e e' => ?_⟩
  · rcases Nat.lt_or_ge k cs.length with h1 | h1
    · have h2 : k < ps.length := by omega
      simp only [List.getElem_append_left h1, List.getElem_append_left h2]
      exact ⟨(p3 k h1 h2).1, hsl _ _ _ (p3 k h1 h2).2.1 (p3 k h1 h2).2.2, hin _ (p3 k h1 h2).2.2⟩
    · have hk2 : k = cs.length := by simp at hk; omega
      subst hk2
      simp only [List.getElem_append_right (Nat.le_refl _), Nat.sub_self, List.getElem_cons_zero]
      rw [List.getElem_append_right (by omega)]
      simp only [p1, Nat.sub_self, List.getElem_cons_zero]
      exact ⟨trivial, hsl _ _ _ ho hi, hin _ hi⟩
  · rcases hat with h5 | ⟨g, h5, h6⟩
    · exact a b (h5.trans e) e'
    · rw [h5] at e
      injection e with e
      have := own_lt q2 b e'
      omega
/-- One line more. -/
theorem NewV.addL (h : NewV B G w vc vl cs ls) (d : List Int) (o : Value) (ho : Sl w 1 o d.length (ints d)) (hi : In B G w vc vl o) :
    ∃ vs : List Value, w.ownsRow B 59 1 vl ls.length vs ∧
      ∀ vl' w', w'.ownsRow B 59 1 vl' (ls.length + 1) (vs ++ [o]) → w.grownBy w' vl.ownBlock → (vl.ownBlock = vl'.ownBlock ∨ ∃ g, vl'.ownBlock = some g ∧ w.heap.size ≤ g) → NewV B G w' vc vl' cs (ls ++ [d]) := by
  obtain ⟨⟨ps, p1, p2, p3⟩, ⟨vs, q1, q2, q3⟩, a⟩ := h
  refine ⟨vs, q2, fun vl' w' hown hgr hat => ?_⟩
  have hin : ∀ x, In B G w vc vl x → In B G w' vc vl' x := fun x hx b e => by
    obtain ⟨h1, h2, h3, h4⟩ := hx b e
    refine ⟨h1, Nat.lt_of_lt_of_le h2 hgr.size, h3, fun e' => ?_⟩
    rcases hat with h5 | ⟨g, h5, h6⟩
    · exact h4 (h5.trans e')
    · rw [h5] at e'; injection e' with e'; omega
  have hsl : ∀ x n xs, Sl w 1 x n xs → In B G w vc vl x → Sl w' 1 x n xs := fun x n xs hx hi => sl_growK hx hgr (fun k e => (hi k e).2.2.2)
  refine ⟨⟨ps, p1, own_growK p2 hgr (fun k e e' => a k e e'), fun k hk hk' => ⟨(p3 k hk hk').1, hsl _ _ _ (p3 k hk hk').2.1 (p3 k hk hk').2.2, hin _ (p3 k hk hk').2.2⟩⟩, ⟨vs ++ [o], by simp [q1], by simpa using hown, fun k hk hk' => ?_⟩, fun b e e' => ?_⟩
  · rcases Nat.lt_or_ge k ls.length with h1 | h1
    · have h2 : k < vs.length := by omega
      simp only [List.getElem_append_left h1, List.getElem_append_left h2]
      exact ⟨hsl _ _ _ (q3 k h1 h2).1 (q3 k h1 h2).2, hin _ (q3 k h1 h2).2⟩
    · have hk2 : k = ls.length := by simp at hk; omega
      subst hk2
      simp only [List.getElem_append_right (Nat.le_refl _), Nat.sub_self, List.getElem_cons_zero]
      rw [List.getElem_append_right (by omega)]
      simp only [q1, Nat.sub_self, List.getElem_cons_zero]
      exact ⟨hsl _ _ _ ho hi, hin _ hi⟩
  · rcases hat with h5 | ⟨g, h5, h6⟩
    · exact a b e (h5.trans e')
    · rw [h5] at e'
      injection e' with e'
      have := own_lt p2 b e
      omega
/-- Another block that none lies in: one that is not there yet. -/
theorem NewV.reG {G' : Nat} (h : NewV B G w vc vl cs ls) (hG : w.heap.size ≤ G') : NewV B G' w vc vl cs ls := by
  obtain ⟨⟨ps, p1, p2, p3⟩, ⟨vs, q1, q2, q3⟩, a⟩ := h
  have hin : ∀ x, In B G w vc vl x → In B G' w vc vl x := fun x hx b e => by
    obtain ⟨⟨h1, _⟩, h2, h3⟩ := hx b e
    exact ⟨⟨h1, by omega⟩, h2, h3⟩
  exact ⟨⟨ps, p1, p2, fun k hk hk' => ⟨(p3 k hk hk').1, (p3 k hk hk').2.1, hin _ (p3 k hk hk').2.2⟩⟩, ⟨vs, q1, q2, fun k hk hk' => ⟨(q3 k hk hk').1, hin _ (q3 k hk hk').2⟩⟩, a⟩
theorem NewV.wld {D : WldD} (h : NewV B G w vc vl D.cells D.lines) : Wld w vc vl D := by
  obtain ⟨⟨ps, p1, p2, p3⟩, ⟨vs, q1, q2, q3⟩, a⟩ := h
  exact ⟨⟨ps, p1, own_sl p2, fun k hk hk' => ⟨(p3 k hk hk').1, (p3 k hk hk').2.1⟩⟩, ⟨vs, q1, own_sl q2, fun k hk hk' => (q3 k hk hk').1⟩⟩
end
end Go.Proofs.YtjhjaafoikadgaaDoor

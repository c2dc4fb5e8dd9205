/- A world that is being copied: its slices are new, and lie apart. -/
import Derived.Test.YtehhhiodfcdnmaaGreatDoorR7
import Derived.Great.BuildSlice
import Derived.Test.YtehhhiodfcdnmaaGreatDoorR5
namespace Go.Proofs.YtehhhiodfcdnmaaGreatDoor
set_option linter.unusedSimpArgs false
set_option linter.unusedVariables false
set_option maxRecDepth 100000
set_option maxHeartbeats 8000000
open Go.RowKit Go.Sort
theorem wpList_buildOne {P : Program} {ops : Array Oper} {rest : List Oper} {o : Oper} {a : Act} {w : World} {Q : Exit → Act → World → Prop} (hg : o.guard = none) (t e : TypeId) (x : Operand) (ho : o.op = .buildSlice t 1 #[(0, x)])
  (cs : Array Value) (hx : a.eval x = .agg cs) (hu : P.underlying t = some (.slice e)) (hsz : (P.info? e).map (·.size) = some cs.size) (hz : ((P.info? e).bind (·.zero)).isSome = true) (hpos : 0 < cs.size) (hsmall : cs.size ≤ 2 ^ 24)
  (h : wpList P ops Q rest (a.put o.dst (.slice (some ⟨w.heap.size, 0, none⟩) 1 1)) (w.alloc (.cells cs e))) : wpList P ops Q (o :: rest) a w := by
 cases hie : P.info? e with
 | none => simp [hie] at hsz
 | some ie =>
  simp only [hie, Option.map_some, Option.some.injEq, Option.bind_some] at hsz hz
  obtain ⟨z, hzz⟩ := Option.isSome_iff_exists.1 hz
  refine wpList_buildSlice hg t e 1 _ ho cs ie z hu hie hzz om om ?_ h
  have hf := Great.fill_whole (s := ie.size) om [.agg cs] ((Array.range (1 * ie.size)).map (z.cells[· % z.cells.size]!)) (fun v hv => by simp at hv; subst hv; simpa [Value.cells] using hsz.symm) (by simp)
  simpa [hx, Value.cells] using hf
theorem sl_growK {w w' : World} {row : Option Nat} {size : Nat} {v : Value} {n : Nat} {xs : List Value} (h : Sl w size v n xs) (hg : w.grownBy w' row) (hne : ∀ k, v.ownBlock = some k → row ≠ some k) : Sl w' size v n xs := by
 obtain ⟨h1, ao, cap, rfl, h3, h4⟩ := h
 refine ⟨h1, ao, cap, rfl, h3, fun hn => ?_⟩
 obtain ⟨b, off, rfl, hlt, hc, hz⟩ := h4 hn
 exact ⟨b, off, rfl, Nat.lt_of_lt_of_le hlt hg.size, fun j u hj => (hg.cell_far ⟨b, off + j, none⟩ hlt (fun e => hne b rfl e.symm)).trans (hc j u hj), hz.of (hg.block b hlt (fun e => hne b rfl e.symm))⟩
theorem own_growK {w w' : World} {row : Option Nat} {base : Nat} {e : TypeId} {size : Nat} {v : Value} {n : Nat} {xs : List Value} (h : w.ownsRow base e size v n xs) (hg : w.grownBy w' row) (hne : ∀ k, v.ownBlock = some k → row ≠ some k) : w'.ownsRow base e size v n xs := by
 have hlt := own_lt h
 refine ⟨h.1, ?_⟩
 rcases h.2 with hn | ⟨g, cap, cur, rfl, hb, hh, r⟩
 ·exact .inl hn
 ·exact .inr ⟨g, cap, cur, rfl, hb, (hg.block g (hlt g rfl) (fun e => hne g rfl e.symm)).trans hh, r⟩
def In (B G : Nat) (w : World) (vc vl o : Value) : Prop := ∀ b, o.ownBlock = some b → (B ≤ b ∧ b ≠ G) ∧ b < w.heap.size ∧ vc.ownBlock ≠ some b ∧ vl.ownBlock ≠ some b
structure NewV (B G : Nat) (w : World) (vc vl : Value) (cs : List CelD) (ls : List (List Int)) : Prop where
 c : ∃ ps : List (Cel × Value), ps.length = cs.length ∧ w.ownsRow B 35 16 vc cs.length (rowC celC ps) ∧ ∀ k (hk : k < cs.length) (hk' : k < ps.length), ps[k].1 = cs[k].c ∧ Sl w 1 ps[k].2 cs[k].out.length (ints cs[k].out) ∧ In B G w vc vl ps[k].2
 l : ∃ vs : List Value, vs.length = ls.length ∧ w.ownsRow B 81 1 vl ls.length vs ∧ ∀ k (hk : k < ls.length) (hk' : k < vs.length), Sl w 1 vs[k] ls[k].length (ints ls[k]) ∧ In B G w vc vl vs[k]
 a : ∀ b, vc.ownBlock = some b → vl.ownBlock ≠ some b
section
variable {B G : Nat} {w w' : World} {vc vl : Value} {cs : List CelD} {ls : List (List Int)}
theorem In.up {o : Value} (h : In B G w vc vl o) (hs : w.heap.size ≤ w'.heap.size) : In B G w' vc vl o := fun b e => ⟨(h b e).1, Nat.lt_of_lt_of_le (h b e).2.1 hs, (h b e).2.2⟩
theorem NewV.nil (B G : Nat) (w : World) : NewV B G w (.slice none 0 0) (.slice none 0 0) [] [] :=
 ⟨⟨[], rfl, World.ownsRow_nil _ _ _ _, fun k hk => by simp at hk⟩, ⟨[], rfl, World.ownsRow_nil _ _ _ _, fun k hk => by simp at hk⟩, fun b e => by cases e⟩
theorem NewV.up (h : NewV B G w vc vl cs ls) (hb : Below w.heap.size w w') : NewV B G w' vc vl cs ls := by
 obtain ⟨⟨ps, p1, p2, p3⟩, ⟨vs, q1, q2, q3⟩, a⟩ := h
 exact ⟨⟨ps, p1, own_up p2 hb (own_lt p2), fun k hk hk' => ⟨(p3 k hk hk').1, (p3 k hk hk').2.1.up hb, (p3 k hk hk').2.2.up hb.size⟩⟩, ⟨vs, q1, own_up q2 hb (own_lt q2), fun k hk hk' => ⟨(q3 k hk hk').1.up hb, (q3 k hk hk').2.up hb.size⟩⟩, a⟩
theorem NewV.set (h : NewV B G w vc vl cs ls) {g i : Nat} (hg : g < B) (u : Value) : NewV B G (w.setCell ⟨g, i, none⟩ u) vc vl cs ls := by
 obtain ⟨⟨ps, p1, p2, p3⟩, ⟨vs, q1, q2, q3⟩, a⟩ := h
 have hs : (w.setCell ⟨g, i, none⟩ u).heap.size = w.heap.size := size_set ..
 refine ⟨⟨ps, p1, own_set (a := ⟨g, i, none⟩) p2 u (fun e => by have := own_block p2 _ e; simp at this; omega), fun k hk hk' => ⟨(p3 k hk hk').1, (p3 k hk hk').2.1.set u (fun e => by have := ((p3 k hk hk').2.2 _ e).1; omega), (p3 k hk hk').2.2.up (by rw [hs]; exact Nat.le_refl _)⟩⟩, ⟨vs, q1, own_set (a := ⟨g, i, none⟩) q2 u (fun e => by have := own_block q2 _ e; simp at this; omega), fun k hk hk' => ⟨(q3 k hk hk').1.set u (fun e => by have := ((q3 k hk hk').2 _ e).1; omega), (q3 k hk hk').2.up (by rw [hs]; exact Nat.le_refl _)⟩⟩, a⟩
theorem NewV.addC (h : NewV B G w vc vl cs ls) (d : CelD) (o : Value) (ho : Sl w 1 o d.out.length (ints d.out)) (hi : In B G w vc vl o) :
  ∃ ps : List (Cel × Value), w.ownsRow B 35 16 vc cs.length (rowC celC ps) ∧
   ∀ vc' w', w'.ownsRow B 35 16 vc' (cs.length + 1) (rowC celC ps ++ (d.c.cs o).toList) → w.grownBy w' vc.ownBlock → (vc.ownBlock = vc'.ownBlock ∨ ∃ g, vc'.ownBlock = some g ∧ w.heap.size ≤ g) → NewV B G w' vc' vl (cs ++ [d]) ls := by
 obtain ⟨⟨ps, p1, p2, p3⟩, ⟨vs, q1, q2, q3⟩, a⟩ := h
 refine ⟨ps, p2, fun vc' w' hown hgr hat => ?_⟩
 have hin : ∀ x, In B G w vc vl x → In B G w' vc' vl x := fun x hx b e => by
  obtain ⟨h1, h2, h3, h4⟩ := hx b e
  refine ⟨h1, Nat.lt_of_lt_of_le h2 hgr.size, fun e' => ?_, h4⟩
  rcases hat with h5 | ⟨g, h5, h6⟩
  ·exact h3 (h5.trans e')
  ·rw [h5] at e'; injection e' with e'; omega
 have hsl : ∀ x n xs, Sl w 1 x n xs → In B G w vc vl x → Sl w' 1 x n xs := fun x n xs hx hi => sl_growK hx hgr (fun k e => (hi k e).2.2.1)
 refine ⟨⟨ps ++ [(d.c, o)], by simp [p1], by simpa [rowC, celC] using hown, fun k hk hk' => ?_⟩, ⟨vs, q1, own_growK q2 hgr (fun k e e' => a k e' e), fun k hk hk' => ⟨hsl _ _ _ (q3 k hk hk').1 (q3 k hk hk').2, hin _ (q3 k hk hk').2⟩⟩, fun b e e' => ?_⟩
 ·rcases Nat.lt_or_ge k cs.length with h1 | h1
  ·have h2 : k < ps.length := by omega
   simp only [List.getElem_append_left h1, List.getElem_append_left h2]
   exact ⟨(p3 k h1 h2).1, hsl _ _ _ (p3 k h1 h2).2.1 (p3 k h1 h2).2.2, hin _ (p3 k h1 h2).2.2⟩
  ·have hk2 : k = cs.length := by simp at hk; omega
   subst hk2
   simp only [List.getElem_append_right (Nat.le_refl _), Nat.sub_self, List.getElem_cons_zero]
   rw [List.getElem_append_right om]
   simp only [p1, Nat.sub_self, List.getElem_cons_zero]
   exact ⟨trivial, hsl _ _ _ ho hi, hin _ hi⟩
 ·rcases hat with h5 | ⟨g, h5, h6⟩
  ·exact a b (h5.trans e) e'
  ·rw [h5] at e
   injection e with e
   have := own_lt q2 b e'
   omega
theorem NewV.addL (h : NewV B G w vc vl cs ls) (d : List Int) (o : Value) (ho : Sl w 1 o d.length (ints d)) (hi : In B G w vc vl o) :
  ∃ vs : List Value, w.ownsRow B 81 1 vl ls.length vs ∧
   ∀ vl' w', w'.ownsRow B 81 1 vl' (ls.length + 1) (vs ++ [o]) → w.grownBy w' vl.ownBlock → (vl.ownBlock = vl'.ownBlock ∨ ∃ g, vl'.ownBlock = some g ∧ w.heap.size ≤ g) → NewV B G w' vc vl' cs (ls ++ [d]) := by
 obtain ⟨⟨ps, p1, p2, p3⟩, ⟨vs, q1, q2, q3⟩, a⟩ := h
 refine ⟨vs, q2, fun vl' w' hown hgr hat => ?_⟩
 have hin : ∀ x, In B G w vc vl x → In B G w' vc vl' x := fun x hx b e => by
  obtain ⟨h1, h2, h3, h4⟩ := hx b e
  refine ⟨h1, Nat.lt_of_lt_of_le h2 hgr.size, h3, fun e' => ?_⟩
  rcases hat with h5 | ⟨g, h5, h6⟩
  ·exact h4 (h5.trans e')
  ·rw [h5] at e'; injection e' with e'; omega
 have hsl : ∀ x n xs, Sl w 1 x n xs → In B G w vc vl x → Sl w' 1 x n xs := fun x n xs hx hi => sl_growK hx hgr (fun k e => (hi k e).2.2.2)
 refine ⟨⟨ps, p1, own_growK p2 hgr (fun k e e' => a k e e'), fun k hk hk' => ⟨(p3 k hk hk').1, hsl _ _ _ (p3 k hk hk').2.1 (p3 k hk hk').2.2, hin _ (p3 k hk hk').2.2⟩⟩, ⟨vs ++ [o], by simp [q1], by simpa using hown, fun k hk hk' => ?_⟩, fun b e e' => ?_⟩
 ·rcases Nat.lt_or_ge k ls.length with h1 | h1
  ·have h2 : k < vs.length := by omega
   simp only [List.getElem_append_left h1, List.getElem_append_left h2]
   exact ⟨hsl _ _ _ (q3 k h1 h2).1 (q3 k h1 h2).2, hin _ (q3 k h1 h2).2⟩
  ·have hk2 : k = ls.length := by simp at hk; omega
   subst hk2
   simp only [List.getElem_append_right (Nat.le_refl _), Nat.sub_self, List.getElem_cons_zero]
   rw [List.getElem_append_right om]
   simp only [q1, Nat.sub_self, List.getElem_cons_zero]
   exact ⟨hsl _ _ _ ho hi, hin _ hi⟩
 ·rcases hat with h5 | ⟨g, h5, h6⟩
  ·exact a b e (h5.trans e')
  ·rw [h5] at e'
   injection e' with e'
   have := own_lt p2 b e
   omega
theorem NewV.reG {G' : Nat} (h : NewV B G w vc vl cs ls) (hG : w.heap.size ≤ G') : NewV B G' w vc vl cs ls := by
 obtain ⟨⟨ps, p1, p2, p3⟩, ⟨vs, q1, q2, q3⟩, a⟩ := h
 have hin : ∀ x, In B G w vc vl x → In B G' w vc vl x := fun x hx b e => by
  obtain ⟨⟨h1, _⟩, h2, h3⟩ := hx b e
  exact ⟨⟨h1, by omega⟩, h2, h3⟩
 exact ⟨⟨ps, p1, p2, fun k hk hk' => ⟨(p3 k hk hk').1, (p3 k hk hk').2.1, hin _ (p3 k hk hk').2.2⟩⟩, ⟨vs, q1, q2, fun k hk hk' => ⟨(q3 k hk hk').1, hin _ (q3 k hk hk').2⟩⟩, a⟩
theorem NewV.wld {D : WldD} (h : NewV B G w vc vl D.cells D.lines) : Wld w vc vl D := by
 obtain ⟨⟨ps, p1, p2, p3⟩, ⟨vs, q1, q2, q3⟩, a⟩ := h
 exact ⟨⟨ps, p1, own_sl p2, fun k hk hk' => ⟨(p3 k hk hk').1, (p3 k hk hk').2.1⟩⟩, ⟨vs, q1, own_sl q2, fun k hk hk' => (q3 k hk hk').1⟩⟩
end
theorem infoCell : (Tryz.prog.info? 35).map (fun i => (i.zero, i.size, i.bytes)) = some (some (.agg (celZ.cs (.slice none 0 0))), 16, 144) := by kernel_rfl
theorem zeroCell : ((Tryz.prog.info? 35).bind (·.zero)).isSome = true := by kernel_rfl
theorem sizeInts : (Tryz.prog.info? 33).map (·.size) = some 1 := by kernel_rfl
theorem sizeCells : (Tryz.prog.info? 27).map (·.size) = some 1 := by kernel_rfl
theorem sizeWld : (Tryz.prog.info? 30).map (·.size) = some 3 := by kernel_rfl
theorem new_range (w : World) (t : TypeId) (cs : Array Value) (g : Nat) (hg : g = w.heap.size) : ∀ j u, cs.toList[j]? = some u → (w.alloc (.cells cs t)).cell? ((⟨g, 0, none⟩ : Addr).add j) = some u := fun j u hj => by
 rw [Addr.add_mid, Nat.zero_add, hg, World.cell?_alloc_new]
 simpa using hj
theorem cs_oneL (c : Cel) (o : Value) (h : o.oneCell' = true) : ∀ u ∈ (c.cs o).toList, u.oneCell' = true := fun u hu => (Array.all_eq_true_iff_forall_mem.1 (Cel.cs_one c o h)) u (by simpa using hu)
theorem cs_len (c : Cel) (o : Value) : (c.cs o).toList.length = 1 * 16 := rfl
structure Cp (w wr : World) (tick : Int) (uc ul vc vl : Value) (cs : List CelD) (ls : List (List Int)) : Prop where
 d : Below w.heap.size w wr
 z : w.heap.size + 3 ≤ wr.heap.size
 r1 : Rw wr w.heap.size 30 #[.int .i64 tick, uc, ul]
 r2 : Rw wr (w.heap.size + 1) 30 #[.int .i64 0, .slice none 0 0, .slice none 0 0]
 r3 : Rw wr (w.heap.size + 1 + 1) 30 #[.int .i64 tick, vc, vl]
 n : NewV (w.heap.size + 3) 0 wr vc vl cs ls
section
variable {w wr wr' : World} {tick : Int} {uc ul vc vl : Value} {cs : List CelD} {ls : List (List Int)}
theorem NewV.alloc {B G : Nat} {w : World} (h : NewV B G w vc vl cs ls) (o : Obj) : NewV B G (w.alloc o) vc vl cs ls := h.up ((Below.refl _ _).alloc (Nat.le_refl _) _)
theorem Cp.up (h : Cp w wr tick uc ul vc vl cs ls) (hb : Below wr.heap.size wr wr') : Cp w wr' tick uc ul vc vl cs ls :=
 ⟨h.d.trans (hb.mono h.d.size), Nat.le_trans h.z hb.size, h.r1.up hb h.r1.lt, h.r2.up hb h.r2.lt, h.r3.up hb h.r3.lt, h.n.up hb⟩
theorem NewV.row {B G : Nat} {w : World} (h : NewV B G w vc vl cs ls) {g : Nat} (hg : g < B) (u : Array Value) : NewV B G (w.setRow g u) vc vl cs ls := by
 obtain ⟨⟨ps, p1, p2, p3⟩, ⟨vs, q1, q2, q3⟩, a⟩ := h
 have hs : (w.setRow g u).heap.size = w.heap.size := by simp
 refine ⟨⟨ps, p1, own_row p2 u (fun e => by have := own_block p2 _ e; omega), fun k hk hk' => ⟨(p3 k hk hk').1, (p3 k hk hk').2.1.row u (fun e => by have := ((p3 k hk hk').2.2 _ e).1; omega), (p3 k hk hk').2.2.up (by rw [hs]; exact Nat.le_refl _)⟩⟩, ⟨vs, q1, own_row q2 u (fun e => by have := own_block q2 _ e; omega), fun k hk hk' => ⟨(q3 k hk hk').1.row u (fun e => by have := ((q3 k hk hk').2 _ e).1; omega), (q3 k hk hk').2.up (by rw [hs]; exact Nat.le_refl _)⟩⟩, a⟩
theorem NewV.formC {B G : Nat} {w : World} (h : NewV B G w vc vl cs ls) : ∃ a c, vc = .slice a cs.length c := by
 obtain ⟨⟨ps, p1, p2, p3⟩, _, _⟩ := h
 exact own_form p2
theorem NewV.formL {B G : Nat} {w : World} (h : NewV B G w vc vl cs ls) : ∃ a c, vl = .slice a ls.length c := by
 obtain ⟨_, ⟨ps, p1, p2, p3⟩, _⟩ := h
 exact own_form p2
theorem NewV.ltC {B G : Nat} {w : World} (h : NewV B G w vc vl cs ls) : ∀ b, vc.ownBlock = some b → B ≤ b ∧ b < w.heap.size := by
 obtain ⟨⟨ps, p1, p2, p3⟩, _, _⟩ := h
 exact fun b e => ⟨own_block p2 b e, own_lt p2 b e⟩
theorem NewV.ltL {B G : Nat} {w : World} (h : NewV B G w vc vl cs ls) : ∀ b, vl.ownBlock = some b → B ≤ b ∧ b < w.heap.size := by
 obtain ⟨_, ⟨ps, p1, p2, p3⟩, _⟩ := h
 exact fun b e => ⟨own_block p2 b e, own_lt p2 b e⟩
theorem NewV.low {B B' G : Nat} {w : World} (h : NewV B G w vc vl cs ls) (hb : B' ≤ B) : NewV B' G w vc vl cs ls := by
 obtain ⟨⟨ps, p1, p2, p3⟩, ⟨vs, q1, q2, q3⟩, a⟩ := h
 exact ⟨⟨ps, p1, own_low p2 hb, fun k hk hk' => ⟨(p3 k hk hk').1, (p3 k hk hk').2.1, fun b e => ⟨⟨Nat.le_trans hb ((p3 k hk hk').2.2 b e).1.1, ((p3 k hk hk').2.2 b e).1.2⟩, ((p3 k hk hk').2.2 b e).2⟩⟩⟩, ⟨vs, q1, own_low q2 hb, fun k hk hk' => ⟨(q3 k hk hk').1, fun b e => ⟨⟨Nat.le_trans hb ((q3 k hk hk').2 b e).1.1, ((q3 k hk hk').2 b e).1.2⟩, ((q3 k hk hk').2 b e).2⟩⟩⟩, a⟩
end
theorem infoLine : (Tryz.prog.info? 81).map (fun i => (i.zero, i.size, i.bytes)) = some (some (.agg #[.slice none 0 0]), 1, 24) := by kernel_rfl
theorem sizeLine : (Tryz.prog.info? 81).map (·.size) = some 1 := by kernel_rfl
theorem wp_append_nil {P : Program} {o : Oper} {a : Act} {w : World} {K : Act → World → Prop} {Q : Exit → Act → World → Prop} (s x : Operand) (t : TypeId)
  (ho : o.op = .call { callee := .builtin .append, args := #[s, x], argTypes := #[t, t] })
  (e : TypeId) (i : TypeInfo) (z : Value) (size bytes : Nat) (ht : P.underlying t = some (.slice e)) (hi : P.info? e = some i) (hz : i.zero = some z)
  (hsize : i.size = size) (hby : i.bytes = bytes) (hzs : z.cells.size = size) (hsz : 0 < size) (hs : a.eval s = .slice none 0 0)
  (u : Value) (m : Nat) (news : List Value) (hx : a.eval x = u) (hS : Sl w size u m news) (h1 : ∀ u ∈ news, u.oneCell' = true) (h63 : m ≤ maxLen) (hbytes : m * bytes ≤ 140737488355328)
  (h : ∀ v' w', w'.ownsRow w.heap.size e size v' m news → Below w.heap.size w w' → K (a.put o.dst v') w') : o.wp P a w K Q :=
 wp_append_sl s x t ho w.heap.size e i z size bytes ht hi hz hsize hby hzs hsz _ 0 [] hs (World.ownsRow_nil _ _ _ _) u m news hx hS h1 (by simpa using h63) (by simpa using hbytes) (Nat.le_refl _)
  fun v' w' g1 g2 _ => h v' w' (by simpa using g1) ((Below.refl _ _).grown g2 (Nat.le_refl _) (fun k hk => by cases hk))
theorem Cp.grow {w W W4 : World} {tick : Int} {uc ul vc vc' vl : Value} {cs cs' : List CelD} {ls : List (List Int)} (h : Cp w W tick uc ul vc vl cs ls) (hgr : W.grownBy W4 vc.ownBlock) (hn : NewV (w.heap.size + 3) 0 W4 vc' vl cs' ls) :
  Cp w (W4.setCell ⟨w.heap.size + 1 + 1, 1, none⟩ vc') tick uc ul vc' vl cs' ls ∧ Rw W4 (w.heap.size + 1 + 1) 30 #[.int .i64 tick, vc, vl] := by
 have hne : ∀ g, g < w.heap.size + 3 → some g ≠ vc.ownBlock := fun g hg e => by have := (h.n.ltC g e.symm).1; omega
 have r3 : Rw W4 (w.heap.size + 1 + 1) 30 #[.int .i64 tick, vc, vl] := (hgr.block _ h.r3.lt (hne _ om)).trans h.r3
 have hs : (W4.setCell ⟨w.heap.size + 1 + 1, 1, none⟩ vc').heap.size = W4.heap.size := size_set ..
 refine ⟨⟨(h.d.grown hgr (by have := h.z; omega) (fun k e => by have := (h.n.ltC k e).1; omega)).setCell (p := ⟨w.heap.size + 1 + 1, 1, none⟩) so _, ?_, ?_, ?_, r3.set 1 _, hn.set om _⟩, r3⟩
 ·rw [hs]; exact Nat.le_trans h.z hgr.size
 ·exact Rw.set_other ((hgr.block _ h.r1.lt (hne _ om)).trans h.r1) _ so
 ·exact Rw.set_other ((hgr.block _ h.r2.lt (hne _ om)).trans h.r2) _ (by simp)
theorem Cp.growL {w W W4 : World} {tick : Int} {uc ul vc vl vl' : Value} {cs : List CelD} {ls ls' : List (List Int)} (h : Cp w W tick uc ul vc vl cs ls) (hgr : W.grownBy W4 vl.ownBlock) (hn : NewV (w.heap.size + 3) 0 W4 vc vl' cs ls') :
  Cp w (W4.setCell ⟨w.heap.size + 1 + 1, 2, none⟩ vl') tick uc ul vc vl' cs ls' ∧ Rw W4 (w.heap.size + 1 + 1) 30 #[.int .i64 tick, vc, vl] := by
 have hne : ∀ g, g < w.heap.size + 3 → some g ≠ vl.ownBlock := fun g hg e => by have := (h.n.ltL g e.symm).1; omega
 have r3 : Rw W4 (w.heap.size + 1 + 1) 30 #[.int .i64 tick, vc, vl] := (hgr.block _ h.r3.lt (hne _ om)).trans h.r3
 have hs : (W4.setCell ⟨w.heap.size + 1 + 1, 2, none⟩ vl').heap.size = W4.heap.size := size_set ..
 refine ⟨⟨(h.d.grown hgr (by have := h.z; omega) (fun k e => by have := (h.n.ltL k e).1; omega)).setCell (p := ⟨w.heap.size + 1 + 1, 2, none⟩) so _, ?_, ?_, ?_, r3.set 2 _, hn.set om _⟩, r3⟩
 ·rw [hs]; exact Nat.le_trans h.z hgr.size
 ·exact Rw.set_other ((hgr.block _ h.r1.lt (hne _ om)).trans h.r1) _ so
 ·exact Rw.set_other ((hgr.block _ h.r2.lt (hne _ om)).trans h.r2) _ (by simp)
theorem kcopied_any (D : WldD) (uc ul : Value) (w : World) (hc : D.cells.length ≤ 4) (hl : D.lines.length ≤ 6) (ho : ∀ k (h : k < D.cells.length), D.cells[k].out.length ≤ 16) (hln : ∀ k (h : k < D.lines.length), D.lines[k].length ≤ 3) (hW : Wld w uc ul D) :
  Calls Tryz.prog 107 #[.agg #[.int .i64 D.tick, uc, ul]] w fun e w' => ∃ vc vl, e = .returned (.agg #[.int .i64 D.tick, vc, vl]) ∧ NewV w.heap.size 0 w' vc vl D.cells D.lines ∧ Below w.heap.size w w' := by
 obtain ⟨i0, hi0, hz0, hz1, hz2⟩ := info_parts infoInt
 obtain ⟨i1, hi1, hy0, hy1, hy2⟩ := info_parts infoCell
 obtain ⟨i2, hi2, hx0, hx1, hx2⟩ := info_parts infoLine
 obtain ⟨ca, cc, rfl⟩ := hW.c.form
 obtain ⟨la, lc, rfl⟩ := hW.l.form
 have HW := Lib.hid hW
 have HO := Lib.hid ho
 have HLN := Lib.hid hln
 clear hW ho hln
 go_enter Tryz.func107, Tryz.ntmps107
 go_wp2
 go_loopw [14] (fun i wr => ∃ k : Nat, i = .int .i64 k ∧ k ≤ D.cells.length ∧ Hid (∃ vc, Cp w wr D.tick (.slice ca D.cells.length cc) (.slice la D.lines.length lc) vc (.slice none 0 0) (D.cells.take k) [])) (fun i _ => D.cells.length - (intOf i).toNat)
 case atStart => exact ⟨0, rfl, Nat.zero_le _, Lib.hid ⟨_, up0, by simp, rn0, rn0, rn0, NewV.nil _ _ _⟩⟩
 case round =>
  obtain ⟨k, rfl, hk, HC⟩ := hrel
  obtain ⟨vc, hC⟩ := HC.out
  clear HC
  generalize hlk : D.cells.take k = l at hC
  have HLK := Lib.hid hlk
  have HLL : Hid (l.length = k) := by
   show _ = _
   rw [← hlk]
   simp
   omega
  clear hlk
  by_cases hlt : k < D.cells.length
  ·have hli : (k : Int) < D.cells.length := by omega
   have hz := hC.z
   have hws := hC.d.size
   obtain ⟨b, off, cap, e1, hcap, hbw, hcc⟩ := HW.out.c.open om
   cases e1
   obtain ⟨ao, oc, hra, hso⟩ := hcc k hlt
   have RA := Lib.hid (range_up hra hC.d hbw)
   have SO := Lib.hid (hso.up hC.d)
   have hol := HO.out k hlt
   generalize hd : D.cells[k] = d at RA SO hol
   obtain ⟨c, out⟩ := d
   have HD := Lib.hid hd
   simp only at RA SO hol
   have CP := Lib.hid hC
   clear hra hso hcc hd hC
   go_wp2_with (first | (refine wpList_load_midA rfl 35 (.tmp 16) rfl b (off + k * 16) rfl (c.cs (.slice ao out.length oc)) _ RA.out Tryz.underlying35 rfl sizeCell ?_) | (refine wpList_store_rowW rfl 35 (.tmp 5) (.tmp 17) rfl wr.heap.size (c.cs (.slice ao out.length oc)) rfl rfl 35 (celZ.cs (.slice none 0 0)) rn0 sizeCell rfl (Cel.cs_one _ _ rfl) ?_))
   intro W HW1
   have RW : Rw W wr.heap.size 35 (c.cs (.slice ao out.length oc)) := by
    rw [HW1.out]
    exact Rw.row (cs := celZ.cs (.slice none 0 0)) rn0 _
   have hzW : W.heap.size = wr.heap.size + 1 := by rw [HW1.out]; simp
   have b0 : Below wr.heap.size wr W := by
    rw [HW1.out]
    exact below_row ((Below.refl _ _).alloc (Nat.le_refl _) _) (Nat.le_refl _) _
   have B0 := Lib.hid b0
   have RW' := Lib.hid RW
   have q0 := RW.cell (j := 14) (v := .slice ao out.length oc) rfl
   clear HW1 RA b0 RW
   go_wp2_with (at_builtin; refine wpList_append_nil rfl (.const (.slice none 0 0)) (.tmp 19) 33 rfl 3 i0 _ 1 8 Tryz.underlying33 hi0 hz0 hz1 hz2 rfl (by decide) rfl _ out.length (ints out) rfl (SO.out.up B0.out) (ints_cell out) (by unfold maxLen; omega) om ?_)
   intro v' W2 hown hb2
   have z2 := hb2.size
   obtain ⟨a2, c2, rfl⟩ := own_form hown
   have hob := own_block hown
   have hol2 := own_lt hown
   have RW2 := Lib.hid (RW'.out.up hb2 om)
   have B2 := Lib.hid (B0.out.trans (hb2.mono om))
   have OW := Lib.hid hown
   clear hb2 hown RW' B0 q0
   go_wp2_with (refine wpList_store_cellW rfl 33 (.tmp 21) (.tmp 20) rfl wr.heap.size 14 (.slice a2 out.length c2) rfl rfl rfl 35 (c.cs (.slice ao out.length oc)) RW2.out (by show 14 < 16; decide) sizeInts ?_)
   intro W3 HW3
   have HZ3 : Hid (W3.heap.size = W2.heap.size) := by
    show _ = _
    rw [HW3.out]
    exact size_set ..
   have RW3 : Hid (Rw W3 wr.heap.size 35 (c.cs (.slice a2 out.length c2))) := by
    show Rw _ _ _ _
    rw [HW3.out]
    exact RW2.out.set 14 _
   have B3 : Hid (Below wr.heap.size wr W3) := by
    show Below _ _ _
    rw [HW3.out]
    exact B2.out.setCell (p := ⟨wr.heap.size, 14, none⟩) (Nat.le_refl _) _
   have S3 : Hid (Sl W3 1 (.slice a2 out.length c2) out.length (ints out)) := by
    show Sl _ _ _ _ _
    rw [HW3.out]
    exact (own_sl OW.out).set _ (fun e => by have := hob _ e; omega)
   have CP3 := Lib.hid (CP.out.up B3.out)
   have IN : Hid (In (w.heap.size + 3) 0 W3 vc (.slice none 0 0) (.slice a2 out.length c2)) := fun x e => by
    have h1 := hob x e
    have h2 := hol2 x e
    have h3 := HZ3.out
    refine ⟨by omega, by omega, fun e' => ?_, fun e' => by cases e'⟩
    have := (CP.out.n.ltC x e').2
    omega
   have hcl := CP.out.n.formC
   clear HW3 RW2 B2 OW CP SO hob hol2
   obtain ⟨a3, c3, rfl⟩ := hcl
   obtain ⟨ps, hps, hadd⟩ := (CP3.out.n.alloc (.cells (c.cs (.slice a2 out.length c2)) 35)).addC ⟨c, out⟩ (.slice a2 out.length c2) (S3.out.up ((Below.refl _ _).alloc (Nat.le_refl _) _)) (IN.out.up (by simp))
   have HPS := Lib.hid hps
   have HADD := Lib.hid hadd
   have q3 := CP3.out.r3.cell (j := 1) (v := .slice a3 l.length c3) rfl
   clear hps hadd S3 IN
   go_wp2_with (first | (refine wpList_load_row rfl 35 (.tmp 5) rfl wr.heap.size rfl 35 (c.cs (.slice a2 out.length c2)) (0, 0) _ RW3.out Tryz.underlying35 rfl sizeCell ?_) | (refine wpList_buildOne rfl 27 35 (.tmp 24) rfl (c.cs (.slice a2 out.length c2)) rfl Tryz.underlying27 sizeCell zeroCell (by show 0 < 16; decide) (by show 16 ≤ 2 ^ 24; decide) ?_) | (at_builtin; refine wpList_append_lies _ rfl (.tmp 23) (.tmp 25) 27 rfl (w.heap.size + 3) 35 i1 _ 16 144 Tryz.underlying27 hi1 hy0 hy1 hy2 rfl (by decide) _ l.length (rowC celC ps) rfl HPS.out ⟨W3.heap.size, 0, none⟩ 1 1 (c.cs (.slice a2 out.length c2)).toList rfl (cs_len _ _) (new_range _ _ _ _ rfl) (cs_oneL _ _ rfl) (by decide) (by have := HLL.out; unfold maxLen; omega) (by have := HLL.out; omega) (by have := HZ3.out; simp; omega) _ rfl ?_))
   intro g4 cap4 W4 hown hgrow hat hg4
   have hn4 := HADD.out _ W4 hown hgrow (hat.imp (fun e => e) (fun e => ⟨g4, rfl, by rw [e]; simp⟩))
   obtain ⟨hC5, hr5⟩ := (CP3.out.up (wr' := W3.alloc (.cells (c.cs (.slice a2 out.length c2)) 35)) ((Below.refl _ _).alloc (Nat.le_refl _) _)).grow hgrow hn4
   have C5 := Lib.hid hC5
   have R5 := Lib.hid hr5
   clear hown hgrow hat hn4 hC5 hr5 HADD HPS CP3 RW3 B3 q3
   go_wp2_with (refine wpList_store_cellW rfl 27 (.tmp 27) (.tmp 26) rfl (w.heap.size + 1 + 1) 1 (.slice (some ⟨g4, 0, none⟩) (l.length + 1) cap4) rfl rfl rfl 30 _ R5.out (by show 1 < 3; decide) sizeCells ?_)
   intro W5 HW5
   rw [← HW5.out] at C5
   clear HW5 R5
   go_wp2
   go_roundw
   case rel => exact ⟨k + 1, by go_num, by omega, Lib.hid ⟨_, by rw [List.take_succ_eq_append_getElem hlt, HLK.out, HD.out]; exact C5.out⟩⟩
   case measure => simp [intOf]; omega
  ·have hli : ¬ (k : Int) < D.cells.length := by omega
   have hle : l = D.cells := by rw [← HLK.out]; exact List.take_of_length_le om
   subst hle
   have q4 := hC.r1.cell (j := 2) (v := .slice la D.lines.length lc) rfl
   have CP := Lib.hid hC
   clear hC HLK HLL
   go_wp2
   go_loopw [32] (fun i wr => ∃ k : Nat, i = .int .i64 k ∧ k ≤ D.lines.length ∧ Hid (∃ vl, Cp w wr D.tick (.slice ca D.cells.length cc) (.slice la D.lines.length lc) vc vl D.cells (D.lines.take k))) (fun i _ => D.lines.length - (intOf i).toNat)
   case atStart => exact ⟨0, rfl, Nat.zero_le _, Lib.hid ⟨_, CP.out⟩⟩
   case round =>
    clear CP q4 hlt hli hk
    obtain ⟨j, rfl, hj, HC⟩ := hrel
    obtain ⟨vl, hC⟩ := HC.out
    clear HC
    generalize hlk : D.lines.take j = l at hC
    have HLK := Lib.hid hlk
    have HLL : Hid (l.length = j) := by
     show _ = _
     rw [← hlk]
     simp
     omega
    clear hlk
    by_cases hlt : j < D.lines.length
    ·have hli : (j : Int) < D.lines.length := by omega
     have hz := hC.z
     have hws := hC.d.size
     obtain ⟨b, off, cap, e1, hcap, hbw, hcc⟩ := HW.out.l.open om
     cases e1
     obtain ⟨ao, oc, hra, hso⟩ := hcc j hlt
     have ra := bcl hC.d hbw hra
     have SO := Lib.hid (hso.up hC.d)
     have hol := HLN.out j hlt
     have hbr : b < wr.heap.size := by omega
     have hbr' : b ≠ wr.heap.size := by omega
     generalize hd : D.lines[j] = d at ra SO hol
     have HD := Lib.hid hd
     have CP := Lib.hid hC
     clear hra hso hcc hd hC
     go_wp2
     generalize hW : World.alloc _ _ = W
     have RW : Hid (Rw W wr.heap.size 81 #[.slice ao d.length oc]) := by
      show Rw _ _ _ _
      rw [← hW]
      exact rn0
     have b0 : Below wr.heap.size wr W := by rw [← hW]; exact (Below.refl _ _).alloc (Nat.le_refl _) _
     have hzW : W.heap.size = wr.heap.size + 1 := by rw [← hW]; simp
     have CPW := Lib.hid (CP.out.up b0)
     have SOW := Lib.hid (SO.out.up b0)
     have hvl := CP.out.n.ltL
     obtain ⟨a3, c3, hfl⟩ := CP.out.n.formL
     subst hfl
     have HVL := Lib.hid hvl
     clear hW ra b0 CP SO hvl
     refine region_still (S := fun w' => Rw w' (w.heap.size + 1 + 1) 30 #[.int .i64 D.tick, vc, .slice a3 l.length c3] ∧ Rw w' wr.heap.size 81 #[.slice ao d.length oc]) 9 kr ⟨CPW.out.r3, RW.out⟩ (fun hHeld => ?_)
     have hq := fun w' (hSw : (fun w' => Rw w' (w.heap.size + 1 + 1) 30 #[.int .i64 D.tick, vc, .slice a3 l.length c3] ∧ Rw w' wr.heap.size 81 #[.slice ao d.length oc]) w') => And.intro (hSw.1.cell (j := 2) (v := .slice a3 l.length c3) rfl) (hSw.2.cell (j := 0) (v := .slice ao d.length oc) rfl)
     refine Still.u 0 [] hHeld hq ?_
     refine Still.u 1 [] hHeld hq ?_
     refine Still.u 2 [] hHeld hq ?_
     refine Still.u 3 [] hHeld hq ?_
     refine Still.o 4 rfl rfl (fun K hK => ?_)
     refine wp_append_nil (.const (.slice none 0 0)) (.tmp 39) 33 rfl 3 i0 _ 1 8 Tryz.underlying33 hi0 hz0 hz1 hz2 rfl (by decide) rfl _ d.length (ints d) ev (SOW.out.up (Below.refl _ _).drew) (ints_cell d) (by unfold maxLen; omega) om ?_
     intro v' W2 hown hb2
     have z2 : W.heap.size ≤ W2.heap.size := hb2.size
     obtain ⟨a2, c2, rfl⟩ := own_form hown
     have hob := own_block hown
     have hol2 := own_lt hown
     have bW : Below W.heap.size W W2 := Below.trans (Below.refl _ _).drew hb2
     have CP2 := Lib.hid (CPW.out.up bW)
     have RW2 := Lib.hid (RW.out.up bW om)
     have S2 := Lib.hid (own_sl hown)
     refine hK _ _ (fun _ => ⟨CP2.out.r3, RW2.out⟩) (fun hh => ?_)
     have hHeld := hh (by decide)
     clear hK K hh
     try simp only [Act.put, l1, l2, l3, l4, l5, l6]
     clear hown hb2 bW
     refine Still.t 5 [] hHeld ?_
     refine Still.o 6 rfl rfl (fun K hK => ?_)
     go_simp
     refine hK _ _ (fun _ => ⟨CP2.out.r3.alloc _, RW2.out.alloc _⟩) (fun hh => ?_)
     have hHeld := hh (by decide)
     clear hK K hh
     try simp only [Act.put, l1, l2, l3, l4, l5, l6]
     have IN : In (w.heap.size + 3) 0 (W2.alloc (.cells #[.slice a2 d.length c2] 81)) vc (.slice a3 l.length c3) (.slice a2 d.length c2) := fun x e => by
      have h1 : W.heap.size ≤ x := hob x e
      have h2 := hol2 x e
      refine ⟨by omega, by simp; omega, fun e' => ?_, fun e' => ?_⟩
      ·have := (CPW.out.n.ltC x e').2; omega
      ·have := (HVL.out x e').2; omega
     obtain ⟨vs, hvs, hadd⟩ := (CP2.out.n.alloc (.cells #[.slice a2 d.length c2] 81)).addL d (.slice a2 d.length c2) (S2.out.up ((Below.refl _ _).alloc (Nat.le_refl _) _)) IN
     refine Still.o 7 rfl rfl (fun K hK => ?_)
     refine wp_append_lies _ (.tmp 37) (.tmp 42) 28 rfl (w.heap.size + 3) 81 i2 _ 1 24 Tryz.underlying28 hi2 hx0 hx1 hx2 rfl (by decide) (.slice a3 l.length c3) l.length vs ev hvs ⟨W2.heap.size, 0, none⟩ 1 1 [.slice a2 d.length c2] ev rfl (new_range _ _ #[.slice a2 d.length c2] _ rfl) (fun u hu => by simp at hu; subst hu; rfl) (by decide) (by have := HLL.out; unfold maxLen; omega) (by have := HLL.out; omega) so _ rfl ?_
     intro g4 cap4 W4 hown hgrow hat hg4
     have hn4 := hadd _ W4 hown hgrow (hat.imp (fun e => e) (fun e => ⟨g4, rfl, by rw [e]; simp⟩))
     obtain ⟨hC5, hr5⟩ := (CP2.out.up (wr' := W2.alloc (.cells #[.slice a2 d.length c2] 81)) ((Below.refl _ _).alloc (Nat.le_refl _) _)).growL hgrow hn4
     have C5 := Lib.hid hC5
     have RL : Rw W4 wr.heap.size 81 #[.slice ao d.length oc] := (hgrow.block _ so (fun e => by have := (HVL.out _ e.symm).2; omega)).trans (RW2.out.alloc _)
     have q5 := hr5.cell (j := 2) (v := .slice a3 l.length c3) rfl
     have f5 := hr5.fr 2
     clear hown hgrow hat hn4 hC5 hvs hadd IN
     refine hK _ _ (fun _ => ⟨hr5, RL⟩) (fun hh => ?_)
     have hHeld := hh (by decide)
     clear hK K hh
     try simp only [Act.put, l1, l2, l3, l4, l5, l6]
     clear hr5 RL
     refine Still.t 8 [] hHeld ?_
     refine Still.o 9 rfl rfl (fun K hK => ?_)
     clear hHeld
     go_simp
     refine hK _ _ ab (fun _ => Still.vv ?_)
     clear hK K
     clear q5 f5
     go_wp2
     go_roundw
     case rel => exact ⟨j + 1, by go_num, by omega, Lib.hid ⟨_, by rw [List.take_succ_eq_append_getElem hlt, HLK.out, HD.out]; exact C5.out⟩⟩
     case measure => simp [intOf]; omega
    ·have hli : ¬ (j : Int) < D.lines.length := by omega
     have hle : l = D.lines := by rw [← HLK.out]; exact List.take_of_length_le om
     subst hle
     have CP := Lib.hid hC
     obtain ⟨a3, c3, rfl⟩ := hC.n.formC
     obtain ⟨a4, c4, rfl⟩ := hC.n.formL
     clear hC HLK HLL
     go_wp2_with (first | (refine wpList_load_row rfl 30 (.tmp 3) rfl (w.heap.size + 1 + 1) rfl 30 _ (0, 0) _ CP.out.r3 Tryz.underlying30 rfl sizeWld ?_) | (refine wpList_store_row rfl 30 (.tmp 2) (.tmp 46) rfl (w.heap.size + 1) #[.int .i64 D.tick, .slice a3 D.cells.length c3, .slice a4 D.lines.length c4] rfl rfl 30 _ CP.out.r2 sizeWld rfl (by simp [Value.oneCell']) ?_))
     refine bodyPost_ret (results_cell_row Tryz.results107 _ _ (w.heap.size + 1) 30 #[.int .i64 D.tick, .slice a3 D.cells.length c3, .slice a4 D.lines.length c4] (0, 0) _ rfl (CP.out.r2.row _) Tryz.underlying30 rfl sizeWld) rfl ⟨_, _, rfl, (CP.out.n.row om _).low om, below_row CP.out.d om _⟩
theorem infoLn3 : (Tryz.prog.info? 3).map (fun i => (i.zero, i.size, i.bytes)) = some (some (.int .i64 0), 1, 8) := by kernel_rfl
theorem line_any (xs : List Int) (hx : xs.length ≤ 3) (v : Value) (w : World) (hS : Sl w 1 v xs.length (ints xs)) :
  Calls Tryz.prog 165 #[v] w fun e w' => ∃ v', e = .returned (.agg #[v']) ∧ w'.ownsRow (w.heap.size + 1) 3 1 v' xs.length (ints xs) ∧ Below w.heap.size w w' := by
 obtain ⟨i0, hi, hz0, hz1, hz2⟩ := info_parts infoLn3
 by_cases h0 : xs.length = 0
 ·obtain ⟨ao, cap, rfl⟩ := hS.form
  rw [h0]
  have hxs : xs = [] := List.length_eq_zero_iff.1 h0
  subst hxs
  clear hS h0 hx
  go_enter Tryz.func165, Tryz.ntmps165
  cases ao
  all_goals
   go_wp2
   refine bodyPost_ret (v := .agg #[.slice none 0 0]) ?_ rfl ⟨_, rfl, World.ownsRow_nil _ _ _ _, up0⟩
   simp [results, Tryz.results165, go_sem]
 ·obtain ⟨b, off, cap, rfl, hcap, hbw, hc⟩ := hS.open om
  have HCC := hd hc
  clear hS hc
  go_enter Tryz.func165, Tryz.ntmps165
  go_wp2_with (at_builtin; refine wpList_append_lies _ rfl (.const (.slice none 0 0)) (.tmp 3) 33 rfl (w.heap.size + 1) 3 i0 (.int .i64 0) 1 8 Tryz.underlying33 hi hz0 hz1 hz2 rfl (by decide) (.slice none 0 0) 0 [] rfl (World.ownsRow_nil _ _ _ _) ⟨b, off, none⟩ xs.length cap (ints xs) rfl (by simp [ints]) (fun j u hj => ?_) (ints_cell xs) om (by unfold maxLen; omega) om (by simp) _ rfl ?_)
  ·have hadd : (⟨b, off, none⟩ : Addr).add j = ⟨b, off + j, none⟩ := by
    unfold Addr.add
    by_cases h0 : j = 0 <;> simp [h0]
   rw [hadd]
   exact cl_alloc _ hbw (HCC.out j u hj)
  intro g cap1 w3 hown hgrow hat hglt
  have hu : Below w.heap.size w w3 := (up0 : Below w.heap.size w _).grown hgrow (by simp) (fun k hk => by cases hk)
  have z0 : w3.cell? ⟨w.heap.size, 0, none⟩ = some (.slice none 0 0) := (hgrow.cell_far ⟨w.heap.size, 0, none⟩ (by simp) (by simp [Value.ownBlock])).trans (by simp)
  have y0 : w3.frozen? ⟨w.heap.size, 0, none⟩ = false := (hgrow.frozen_far ⟨w.heap.size, 0, none⟩ (by simp) (by simp [Value.ownBlock])).trans (by simp)
  have hown2 : w3.ownsRow (w.heap.size + 1) 3 1 (.slice (some ⟨g, 0, none⟩) xs.length cap1) xs.length (ints xs) := by simpa using hown
  have HO := hd hown2
  clear hown hown2 hgrow hat HCC
  go_wp2
  refine bodyPost_ret (v := .agg #[.slice (some ⟨g, 0, none⟩) xs.length cap1]) ?_ rfl ⟨_, rfl, ownsRow_setCell_below HO.out (by simp) _, hu.setCell (by simp) _⟩
  simp [results, Tryz.results165, go_sem, *]
end Go.Proofs.YtehhhiodfcdnmaaGreatDoor

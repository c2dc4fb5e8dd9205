/- A queue of integers: a slice that is cut at its head and grows at its end. -/
import Derived.Test.YtehhhiodfcdnmaaGreatDoorR28
import Derived.ArgAppend
namespace Go.Proofs.YtehhhiodfcdnmaaGreatDoor
set_option linter.unusedSimpArgs false
set_option linter.unusedVariables false
set_option maxRecDepth 100000
set_option maxHeartbeats 8000000
open Go.RowKit Go.Sort Go.Shelf Go.Lib Go.Maps
def QRow (w : World) (base : Nat) (v : Value) (zs : List Int) : Prop :=
 ∃ g off cap cur, v = .slice (some ⟨g, off, none⟩) zs.length cap ∧ base ≤ g ∧ Rw w g 3 cur ∧ zs.length ≤ cap ∧ (0 < cap → off + cap ≤ cur.size) ∧ ∀ j (hj : j < zs.length), cur[off + j]? = some (.int .i64 zs[j])
theorem QRow.block {w : World} {base : Nat} {v : Value} {zs : List Int} (h : QRow w base v zs) : ∀ k, v.ownBlock = some k → base ≤ k ∧ k < w.heap.size := by
 obtain ⟨g, off, cap, cur, rfl, hg, hr, _⟩ := h
 intro k hk
 simp [Value.ownBlock] at hk
 subst hk
 exact ⟨hg, hr.lt⟩
theorem QRow.kept {w w' : World} {base : Nat} {v : Value} {zs : List Int} {row : Option Nat} (h : QRow w base v zs) (hg : w.grownBy w' row) (hne : v.ownBlock ≠ row) : QRow w' base v zs := by
 obtain ⟨g, off, cap, cur, rfl, hb, hr, r⟩ := h
 exact ⟨g, off, cap, cur, rfl, hb, (hg.block g hr.lt (by simpa [Value.ownBlock] using hne)).trans hr, r⟩
theorem QRow.up {w w' : World} {base : Nat} {v : Value} {zs : List Int} (h : QRow w base v zs) (hb : Below w.heap.size w w') : QRow w' base v zs := by
 obtain ⟨g, off, cap, cur, rfl, hg, hr, r⟩ := h
 exact ⟨g, off, cap, cur, rfl, hg, (hb.block g hr.lt).trans hr, r⟩
theorem QRow.form {w : World} {base : Nat} {v : Value} {zs : List Int} (h : QRow w base v zs) : ∃ g off cap, v = .slice (some ⟨g, off, none⟩) zs.length cap ∧ zs.length ≤ cap ∧ base ≤ g ∧ g < w.heap.size ∧ ∀ j (hj : j < zs.length), w.cell? ⟨g, off + j, none⟩ = some (.int .i64 zs[j]) := by
 obtain ⟨g, off, cap, cur, rfl, hg, hr, h1, _, h2⟩ := h
 exact ⟨g, off, cap, rfl, h1, hg, hr.lt, fun j hj => hr.cell (h2 j hj)⟩
theorem q_one (w : World) (x : Int) : QRow (w.alloc (.cells #[.int .i64 x] 3)) w.heap.size (.slice (some ⟨w.heap.size, 0, none⟩) 1 1) [x] :=
 ⟨w.heap.size, 0, 1, #[.int .i64 x], rfl, Nat.le_refl _, Rw.new w _ _ rfl, Nat.le_refl _, fun _ => by simp, fun j hj => by
  have : j = 0 := by simp at hj; omega
  subst this
  rfl⟩
theorem q_pop {w : World} {base : Nat} {v : Value} {z : Int} {zs : List Int} (h : QRow w base v (z :: zs)) :
  ∃ v', (Instr.slice 33 v (some (.int .i64 1)) none none).run Tryz.prog w = .ok v' w ∧ QRow w base v' zs ∧ v'.ownBlock = v.ownBlock := by
 obtain ⟨g, off, cap, cur, rfl, hg, hr, h1, h2, h3⟩ := h
 have ht : Tryz.prog.underlying 33 = some (.slice (Tryz.prog.elem 33)) := by simp [Program.elem, Tryz.underlying33]
 have he : Tryz.prog.elem 33 = 3 := by simp [Program.elem, Tryz.underlying33]
 have hz : ∀ w, (Go.sizeOf 3).run Tryz.prog w = .ok 1 w := Tryz.sizeOf3
 have hl : (z :: zs).length = zs.length + 1 := rfl
 rw [hl] at h1
 have hrun := run_slice_l (P := Tryz.prog) w 33 (some ⟨g, off, none⟩) (z :: zs).length cap ht .i64 1 om (by rw [hl]; omega)
 rw [he, hz] at hrun
 by_cases hc : cap = 1
 ·subst hc
  have hz0 : zs = [] := List.eq_nil_of_length_eq_zero om
  subst hz0
  exact ⟨.slice (some ⟨g, off, none⟩) 0 0, by rw [hrun]; simp [Result.andThen, sliced], ⟨g, off, 0, cur, rfl, hg, hr, by simp, by simp, by simp⟩, rfl⟩
 ·have h4 := h2 om
  refine ⟨.slice (some ⟨g, off + 1, none⟩) zs.length (cap - 1), by rw [hrun]; simp [Result.andThen, sliced, Addr.add, hc], ⟨g, off + 1, cap - 1, cur, rfl, hg, hr, by omega, fun _ => by omega, fun j hj => ?_⟩, rfl⟩
  have := h3 (j + 1) (by rw [hl]; omega)
  rw [show off + 1 + j = off + (j + 1) by omega, this]
  rfl
theorem q_append {w : World} {base : Nat} {v : Value} {zs : List Int} (h : QRow w base v zs) (hl : zs.length ≤ 1000) (hb : base ≤ w.heap.size) {i1 : TypeInfo} (hi1 : Tryz.prog.info? 3 = some i1) (hy0 : i1.zero = some (.int .i64 0)) (hy1 : i1.size = 1) (hy2 : i1.bytes = 8)
  (ad : Addr) (c : Nat) (y : Int) (hn : ∀ j u, [Value.int .i64 y][j]? = some u → w.cell? (ad.add j) = some u) (ty : TypeId) :
  ∃ v' w', (Builtin.append_ #[33, 33] ty #[v, .slice (some ad) 1 c]).run Tryz.prog w = .ok v' w' ∧ QRow w' base v' (zs ++ [y]) ∧ w.grownBy w' v.ownBlock := by
 obtain ⟨g, off, cap, cur, rfl, hg, hr, h1, h2, h3⟩ := h
 by_cases hroom : zs.length + 1 ≤ cap
 ·have h4 := h2 om
  have hrun := run_append_room_cells (P := Tryz.prog) w 33 ty 3 i1 Tryz.underlying33 hi1 g off zs.length cap ad 1 c [.int .i64 y] (by simp [hy1]) hn (int_cell _) hroom
   (fun j hj => by
    have : j = 0 := by simp at hj; omega
    subst this
    rw [hy1, hr.cell (j := off + zs.length * 1 + 0) (v := cur[off + zs.length * 1 + 0]'om) (by rw [Array.getElem?_eq_getElem])]
    rfl)
   (fun j hj => hr.fr _)
  rw [hy1] at hrun
  refine ⟨_, _, hrun, ⟨g, off, cap, cur.setIfInBounds (off + zs.length) (.int .i64 y), by simp, hg, ?_, by simpa using hroom, fun _ => by simpa using h4, fun j hj => ?_⟩, ⟨rfl, rfl, rfl, by simp [World.setCells, World.setCell], fun k hk hne => ?_⟩⟩
  ·show (w.heap.modify g _)[g]? = _
   rw [Array.getElem?_modify, if_pos rfl, show w.heap[g]? = some _ from hr]
   simp
  ·by_cases e : j = zs.length
   ·subst e
    rw [Array.getElem?_setIfInBounds_self_of_lt om]
    simp
   ·have hj' : j < zs.length := by simp at hj; omega
    rw [Array.getElem?_setIfInBounds_ne om, h3 j hj']
    simp [List.getElem_append_left hj']
  ·show (w.heap.modify g _)[k]? = _
   rw [Array.getElem?_modify, if_neg (fun e => hne (by rw [e]; rfl))]
 ·obtain ⟨v', w', hrun, r1, r2⟩ := run_append_arg_grows (P := Tryz.prog) w 33 ty 3 i1 (.int .i64 0) 1 8 Tryz.underlying33 hi1 hy0 hy1 hy2 rfl (by decide) ⟨g, off, none⟩ zs.length cap (ints zs) (by simp [ints]) (fun j u hj => by
    rw [Addr.add_lit]
    have hjl : j < zs.length := by
     have := (List.getElem?_eq_some_iff.1 hj).1
     simpa [ints] using this
    rw [hr.cell (h3 j hjl)]
    simp [ints, hjl] at hj
    rw [hj]) ad 1 c [.int .i64 y] (by simp) hn om (by unfold maxLen; omega) om
  refine ⟨v', w', hrun, ?_, ⟨r2.os, r2.tape, r2.output, r2.size, fun k hk _ => r2.block k hk (by simp)⟩⟩
  rcases r1.2 with ⟨_, h0⟩ | ⟨g', cap', cur', e0, hg', hh, hc1, _, hc3, hc4⟩
  ·omega
  ·refine ⟨g', 0, cap', cur', by rw [e0]; simp, by omega, hh, by simpa using hc1, fun _ => by omega, fun j hj => ?_⟩
   have hj2 : j < zs.length + 1 := by simpa using hj
   have hcl : (ints (zs ++ [y]))[j]? = some (.int .i64 (zs ++ [y])[j]) := by unfold ints; rw [List.getElem?_map, List.getElem?_eq_getElem hj]; rfl
   have e1 : ints zs ++ [.int .i64 y] = ints (zs ++ [y]) := by simp [ints]
   rw [e1] at hc4
   rw [← hc4, List.getElem?_take] at hcl
   split at hcl
   ·rw [Nat.zero_add]
    simpa using hcl
   ·cases hcl
section
variable {w : World} {ops : Array Oper} {rest : List Oper} {o : Oper} {a : Act} {Q : Exit → Act → World → Prop}
theorem wpList_q_pop (hg : o.guard = none) (s : Operand) (hop : o.op = Op.slice 33 s (some (.const (.int .i64 1))) none none) (base : Nat) (v : Value) (z : Int) (zs : List Int) (hs : a.eval s = v) (hq : QRow w base v (z :: zs))
  (hK : ∀ v', QRow w base v' zs → wpList Tryz.prog ops Q rest (a.put o.dst v') w) : wpList Tryz.prog ops Q (o :: rest) a w := by
 obtain ⟨v', hrun, h1, _⟩ := q_pop hq
 refine wpList_plain hg fun K' hK' => ?_
 have hfin := hK v' h1
 unfold Oper.wp
 have ht : Tryz.prog.underlying 33 = some (.slice (Tryz.prog.elem 33)) := by simp [Program.elem, Tryz.underlying33]
 have hc : a.eval (.const (.int .i64 1)) = .int .i64 1 := rfl
 simp [execOp, hop, hs, hc, run_sliceAt_slice _ _ _ _ _ _ ht, hrun, Result.andThen]
 exact hK' _ _ hfin
theorem wpList_q_append (hg : o.guard = none) (s x : Operand) (hop : o.op = .call { callee := .builtin .append, args := #[s, x], argTypes := #[33, 33] }) (base : Nat) (v : Value) (zs : List Int) (hs : a.eval s = v) (hq : QRow w base v zs) (hl : zs.length ≤ 1000) (hb : base ≤ w.heap.size)
  (ad : Addr) (c : Nat) (y : Int) (hx : a.eval x = .slice (some ad) 1 c) (hn : ∀ j u, [Value.int .i64 y][j]? = some u → w.cell? (ad.add j) = some u)
  (hK : ∀ v' w', QRow w' base v' (zs ++ [y]) → w.grownBy w' v.ownBlock → wpList Tryz.prog ops Q rest (a.put o.dst v') w') : wpList Tryz.prog ops Q (o :: rest) a w := by
 obtain ⟨i1, hi1, hy0, hy1, hy2⟩ := info_parts info3
 obtain ⟨v', w', hrun, h1, h2⟩ := q_append hq hl hb hi1 hy0 hy1 hy2 ad c y hn o.type
 refine wpList_plain hg fun K' hK' => ?_
 have hfin := hK v' w' h1 h2
 unfold Oper.wp
 simp [execOp, hop, resolve, invoke, builtin, hs, hx, hrun, Result.andThen]
 exact hK' _ _ hfin
end
abbrev Vis := List (Int × Int)
def addE (x : Int) (V : Vis) (e : Edg) : Vis := if e.fr = x ∧ V.lookup e.tt = none then V ++ [(e.tt, x)] else V
def addAll (x : Int) (V : Vis) (E : List Edg) : Vis := E.foldl (addE x) V
theorem addAll_snoc (x : Int) (V : Vis) (E : List Edg) (e : Edg) : addAll x V (E ++ [e]) = addE x (addAll x V E) e := by simp [addAll]
inductive Bfs (E : List Edg) (a : Int) : Vis → Nat → Prop
 | start : Bfs E a [(a, a)] 0
 | pop {V : Vis} {k : Nat} {x y : Int} (h : Bfs E a V k) (hk : V[k]? = some (x, y)) : Bfs E a (addAll x V E) (k + 1)
structure Inv (E : List Edg) (a : Int) (V : Vis) : Prop where
 nd : (V.map Prod.fst).Nodup
 hd : V[0]? = some (a, a)
 par : ∀ (i : Nat) (x y : Int), V[i]? = some (x, y) → 0 < i → x ≠ y ∧ (⟨y, x⟩ : Edg) ∈ E ∧ ∃ j, j < i ∧ ∃ z, V[j]? = some (y, z)
theorem look_none : ∀ {V : Vis} {x : Int}, V.lookup x = none ↔ ∀ q ∈ V, q.1 ≠ x
 | [], x => by simp
 | (u, v) :: r, x => by
  rw [List.lookup_cons]
  by_cases h : x = u
  ·subst h
   simp
  ·have hb : (x == u) = false := by simpa using h
   rw [hb]
   simp only [List.mem_cons, forall_eq_or_imp]
   rw [look_none (V := r)]
   exact ⟨fun hr => ⟨fun e => h e.symm, hr⟩, fun hr => hr.2⟩
theorem look_at : ∀ {V : Vis} {i : Nat} {x y : Int}, (V.map Prod.fst).Nodup → V[i]? = some (x, y) → V.lookup x = some y
 | (u, v) :: r, 0, x, y, _, h => by
  simp at h
  rw [List.lookup_cons]
  simp [h]
 | (u, v) :: r, i + 1, x, y, hn, h => by
  simp at h hn
  rw [List.lookup_cons]
  have hne : ¬ x = u := by
   intro e
   subst e
   exact hn.1 y (List.mem_of_getElem? h)
  have hb : (x == u) = false := by simpa using hne
  rw [hb]
  exact look_at (by simpa using hn.2) h
theorem addE_at {x : Int} {V : Vis} {e : Edg} {i : Nat} {q : Int × Int} (h : V[i]? = some q) : (addE x V e)[i]? = some q := by
 unfold addE
 split
 ·rw [List.getElem?_append_left (List.getElem?_eq_some_iff.1 h).1]
  exact h
 ·exact h
theorem addE_len {x : Int} {V : Vis} {e : Edg} : V.length ≤ (addE x V e).length := by
 unfold addE
 split <;> simp
theorem Inv.add {E : List Edg} {a : Int} {V : Vis} (h : Inv E a V) {e : Edg} (he : e ∈ E) {x : Int} {k : Nat} {z : Int} (hk : V[k]? = some (x, z)) : Inv E a (addE x V e) := by
 by_cases hc : e.fr = x ∧ V.lookup e.tt = none
 ·have hadd : addE x V e = V ++ [(e.tt, x)] := if_pos hc
  have hkl := (List.getElem?_eq_some_iff.1 hk).1
  refine ⟨?_, addE_at h.hd, fun i u v hi h0 => ?_⟩
  ·rw [hadd, List.map_append, List.nodup_append]
   refine ⟨h.nd, by simp, fun p hp q hq => ?_⟩
   simp at hq
   subst hq
   obtain ⟨r, hr, rfl⟩ := List.mem_map.1 hp
   exact look_none.1 hc.2 r hr
  ·by_cases hl : i < V.length
   ·rw [hadd, List.getElem?_append_left hl] at hi
    obtain ⟨h1, h2, j, hj, w, hw⟩ := h.par i u v hi h0
    exact ⟨h1, h2, j, hj, w, addE_at hw⟩
   ·rw [hadd] at hi
    have hi2 : i = V.length := by
     have := (List.getElem?_eq_some_iff.1 hi).1
     simp at this
     omega
    subst hi2
    simp at hi
    obtain ⟨rfl, rfl⟩ := hi
    refine ⟨fun e2 => ?_, ?_, k, hkl, z, addE_at hk⟩
    ·exact look_none.1 hc.2 _ (List.mem_of_getElem? hk) e2.symm
    ·have : (⟨x, e.tt⟩ : Edg) = e := by cases e; simp at hc; simp [hc.1]
     rw [this]
     exact he
 ·have hadd : addE x V e = V := if_neg hc
  rw [hadd]
  exact h
theorem Inv.addAll {E : List Edg} {a : Int} {x : Int} {k : Nat} {z : Int} : ∀ (l : List Edg) {V : Vis}, Inv E a V → (∀ e ∈ l, e ∈ E) → V[k]? = some (x, z) → Inv E a (addAll x V l)
 | [], V, h, _, _ => h
 | e :: r, V, h, hl, hk => Inv.addAll r (h.add (hl e (by simp)) hk) (fun e' he => hl e' (by simp [he])) (addE_at hk)
theorem addAll_at {x : Int} {i : Nat} {q : Int × Int} : ∀ (l : List Edg) {V : Vis}, V[i]? = some q → (addAll x V l)[i]? = some q
 | [], V, h => h
 | e :: r, V, h => addAll_at r (addE_at h)
theorem addAll_len {x : Int} : ∀ (l : List Edg) {V : Vis}, V.length ≤ (addAll x V l).length
 | [], V => Nat.le_refl _
 | e :: r, V => Nat.le_trans addE_len (addAll_len r)
theorem Bfs.inv {E : List Edg} {a : Int} {V : Vis} {k : Nat} (h : Bfs E a V k) : Inv E a V ∧ k ≤ V.length := by
 induction h with
 | start => exact ⟨⟨by simp, rfl, fun i x y hi h0 => by
   have := (List.getElem?_eq_some_iff.1 hi).1
   simp at this
   omega⟩, by simp⟩
 | @pop V k x y h hk ih =>
  refine ⟨Inv.addAll E ih.1 (fun _ h => h) hk, ?_⟩
  have h1 := (List.getElem?_eq_some_iff.1 hk).1
  have h2 := addAll_len (x := x) E (V := V)
  omega
theorem nodup_len : ∀ (n : Nat) (l : List Int), l.Nodup → (∀ x ∈ l, 0 ≤ x ∧ x < n) → l.length ≤ n
 | 0, l, _, h => by
  cases l with
  | nil => simp
  | cons x r => have := h x (by simp); omega
 | n + 1, l, hn, h => by
  have := nodup_len n (l.erase n) (hn.erase _) (fun x hx => by
   have h1 := h x (List.mem_of_mem_erase hx)
   have h2 := (hn.mem_erase_iff).1 hx
   have := h2.1
   omega)
  have h3 := List.length_erase (a := (n : Int)) (l := l)
  split at h3 <;> omega
def EdgIn (E : List Edg) (n : Nat) : Prop := ∀ e ∈ E, 0 ≤ e.fr ∧ e.fr < n ∧ 0 ≤ e.tt ∧ e.tt < n
theorem Inv.within {E : List Edg} {a : Int} {V : Vis} {n : Nat} (h : Inv E a V) (hE : EdgIn E n) (ha : 0 ≤ a ∧ a < n) : ∀ q ∈ V, (0 ≤ q.1 ∧ q.1 < n) ∧ (0 ≤ q.2 ∧ q.2 < n) := by
 intro q hq
 obtain ⟨i, hi, he⟩ := List.getElem_of_mem hq
 have hi2 : V[i]? = some (q.1, q.2) := by rw [List.getElem?_eq_getElem hi, he]
 by_cases h0 : i = 0
 ·subst h0
  rw [h.hd] at hi2
  simp at hi2
  rw [← hi2.1, ← hi2.2]
  exact ⟨ha, ha⟩
 ·obtain ⟨_, h2, _⟩ := h.par i q.1 q.2 hi2 om
  have := hE _ h2
  simp at this
  omega
theorem Inv.len {E : List Edg} {a : Int} {V : Vis} {n : Nat} (h : Inv E a V) (hE : EdgIn E n) (ha : 0 ≤ a ∧ a < n) : V.length ≤ n := by
 have := nodup_len n (V.map Prod.fst) h.nd (fun x hx => by
  obtain ⟨q, hq, rfl⟩ := List.mem_map.1 hx
  exact (h.within hE ha q hq).1)
 simpa using this
theorem Inv.back {E : List Edg} {a : Int} {V : Vis} (h : Inv E a V) : ∀ (i : Nat) (x y : Int), V[i]? = some (x, y) → ∃ p, Back V x p ∧ p.length ≤ i + 1 ∧ ∀ u ∈ p, ∃ v, (u, v) ∈ V := by
 intro i
 induction i using Nat.strongRecOn with
 | _ i ih =>
  intro x y hi
  by_cases h0 : i = 0
  ·subst h0
   rw [h.hd] at hi
   simp at hi
   rw [← hi.1]
   exact ⟨[a], .root (look_at h.nd h.hd), by simp, fun u hu => by simp at hu; rw [hu]; exact ⟨a, List.mem_of_getElem? h.hd⟩⟩
  ·obtain ⟨h1, _, j, hj, z, hz⟩ := h.par i x y hi om
   obtain ⟨p, hp, hpl, hpm⟩ := ih j hj y z hz
   refine ⟨x :: p, .step (look_at h.nd hi) (fun e => h1 e.symm) hp, by simp; omega, fun u hu => ?_⟩
   rcases List.mem_cons.1 hu with rfl | hu
   ·exact ⟨y, List.mem_of_getElem? hi⟩
   ·exact hpm u hu
theorem wf_small {x : Int} (h0 : 0 ≤ x) (h1 : x < 1000) : wfI x := by
 have h2 : IntKind.min .i64 ≤ 0 := by decide
 have h3 : 1000 ≤ IntKind.max .i64 := by decide
 unfold wfI Lit.wf
 simp
 omega
def SearchR (E : List Edg) (a b : Int) (l : List Int) (r : Bool) : Prop :=
 (r = true ∧ ∃ V k y p, Bfs E a V k ∧ V[k]? = some (b, y) ∧ Back V b p ∧ l = p.reverse) ∨ (r = false ∧ l = [] ∧ ∃ V, Bfs E a V V.length ∧ ∀ q ∈ V, q.1 ≠ b)
theorem QRow.mono {w : World} {base base' : Nat} {v : Value} {zs : List Int} (h : QRow w base v zs) (hb : base' ≤ base) : QRow w base' v zs := by
 obtain ⟨g, off, cap, cur, e, hg, r⟩ := h
 exact ⟨g, off, cap, cur, e, Nat.le_trans hb hg, r⟩
theorem QRow.alloc {w : World} {base : Nat} {v : Value} {zs : List Int} (h : QRow w base v zs) (o : Obj) : QRow (w.alloc o) base v zs := h.up ((Below.refl _ _).alloc (Nat.le_refl _) _)
section
variable {w : World} {ops : Array Oper} {rest : List Oper} {o : Oper} {a : Act} {Q : Exit → Act → World → Prop}
theorem wpList_seen_okn (hg : o.guard = none) (m x : Operand) (hop : o.op = Op.lookup 147 m x true) (b n : Nat) (V : List (Int × Int)) (hm : a.eval m = .map (some b)) (hown : SeenM w b n V)
  (kx : Int) (hx : a.eval x = .int .i64 kx) (wx : wfI kx) (hl : V.lookup kx = none)
  (hK : wpList Tryz.prog ops Q rest (a.put o.dst (.tuple #[.int .i64 0, .bool false])) w) : wpList Tryz.prog ops Q (o :: rest) a w :=
 wpList_seen_ok hg m x hop b n V hm hown kx hx wx (by rw [hl]; exact hK)
theorem wpList_seen_oks (hg : o.guard = none) (m x : Operand) (hop : o.op = Op.lookup 147 m x true) (b n : Nat) (V : List (Int × Int)) (hm : a.eval m = .map (some b)) (hown : SeenM w b n V)
  (kx : Int) (hx : a.eval x = .int .i64 kx) (wx : wfI kx) (ky : Int) (hl : V.lookup kx = some ky)
  (hK : wpList Tryz.prog ops Q rest (a.put o.dst (.tuple #[.int .i64 ky, .bool true])) w) : wpList Tryz.prog ops Q (o :: rest) a w :=
 wpList_seen_ok hg m x hop b n V hm hown kx hx wx (by rw [hl]; exact hK)
end
theorem edge_cells {w : World} {b off : Nat} {l : List Edg} (hc : ∀ j u, (rowC Edg.cells l)[j]? = some u → w.cell? ⟨b, off + j, none⟩ = some u) (k : Nat) (h : k < l.length) :
  w.cell? ⟨b, off + k * 2, none⟩ = some (.int .i64 l[k].fr) ∧ w.cell? ⟨b, off + k * 2 + 1, none⟩ = some (.int .i64 l[k].tt) := by
 refine ⟨?_, ?_⟩
 ·exact hc (k * 2) _ (by have := rowC_at (s := 2) (f := Edg.cells) edg_len l k 0 h (by decide); simpa [Edg.cells] using this)
 ·exact hc (k * 2 + 1) _ (by rw [rowC_at (s := 2) (f := Edg.cells) edg_len l k 1 h (by decide)]; rfl)
theorem search_any (E : List Edg) (n : Nat) (hn : n ≤ 100) (hE : EdgIn E n) (hEl : E.length ≤ 1000) (a b : Int) (ha : 0 ≤ a ∧ a < n) (f : Nat) (hen : Enters f) (caps : Array Value) (ve : Value) (w : World) (hS : Sl w 2 ve E.length (rowC Edg.cells E))
  (hf : ∀ x w', Below w.heap.size w w' → Calls Tryz.prog f (#[.int .i64 x] ++ caps) w' fun e w'' => e = .returned (.bool (x == b)) ∧ w'' = w') :
  Calls Tryz.prog 55 #[ve, .int .i64 a, .func (.func f) #[] caps] w fun e w' => ∃ v l r, e = .returned (.tuple #[v, .bool r]) ∧ SearchR E a b l r ∧ Sl w' 1 v l.length (ints l) ∧ Below w.heap.size w w' := by
 obtain ⟨va, vcap, rfl⟩ := hS.form
 have HS := hd hS
 have HF := hd hf
 have HEI := hd hE
 have HA := hd ha
 have wa : wfI a := wf_small ha.1 om
 clear hS hf hE ha
 unfold Enters at hen
 have hmm := @run_makeMap Tryz.prog
 go_enter Tryz.func55, Tryz.ntmps55
 go_wp2_with (refine wpList_seen_put rfl (.tmp 15) (.tmp 16) (.tmp 17) (Or.inr rfl) w.heap.size 0 [] rfl (seen_made w) (by decide) a a rfl rfl wa wa rfl ?_; intro w1 hs1 hg1; have HS1 := hd hs1; have HB1 := hd ((Below.refl w.heap.size w |>.alloc (Nat.le_refl _) _).grown hg1 (by simp) (fun q e => by cases e; exact Nat.le_refl _)); have hw1 : w.heap.size + 1 ≤ w1.heap.size := Nat.le_trans (by simp) hg1.size; clear hs1 hg1)
 clear hmm
 go_loopg [9] n (fun m l wr => ∃ (V : Vis) (k : Nat), n - k ≤ m ∧ Hid (Bfs E a V k) ∧ Hid (∀ (j : Nat) (x y : Int), j < k → V[j]? = some (x, y) → x ≠ b) ∧ Hid (QRow wr (w.heap.size + 1) l ((V.drop k).map Prod.fst)) ∧ Hid (SeenM wr w.heap.size V.length V) ∧ Hid (Below w.heap.size w wr))
 case atStart => exact ⟨[(a, a)], 0, by omega, hd .start, hd (fun j x y hj => by omega), hd ((q_one w1 a).mono hw1), hd (HS1.out.alloc _), hd (HB1.out.alloc HB1.out.size _)⟩
 case round =>
  clear HS1 HB1 hw1
  obtain ⟨V, k, hm, HBF, HNB, HQ, HM, HB⟩ := hrel
  have hinv := HBF.out.inv
  have hkl := hinv.2
  have hvl := hinv.1.len HEI.out HA.out
  by_cases hlt : k < V.length
  ·have hvk : V[k]? = some (V[k].1, V[k].2) := List.getElem?_eq_getElem hlt
   have hdr : (V.drop k).map Prod.fst = V[k].1 :: (V.drop (k + 1)).map Prod.fst := by
    rw [List.drop_eq_getElem_cons hlt]
    rfl
   have hwx := hinv.1.within HEI.out HA.out V[k] (List.getElem_mem hlt)
   rw [hdr] at HQ
   generalize V[k].1 = x at HQ hvk hwx
   generalize V[k].2 = y at hvk hwx
   have wx : wfI x := wf_small hwx.1.1 om
   obtain ⟨g, off, cap, hv, hcap, hgb, hgl, hcl⟩ := HQ.out.form
   subst hv
   have c0 : wr.cell? ⟨g, off, none⟩ = some (.int .i64 x) := hcl 0 (by simp)
   generalize hL : (x :: (V.drop (k + 1)).map Prod.fst).length = L at HQ hcap
   have hL0 : (0 : Int) < L := by rw [← hL]; simp
   have hL1 : 0 < L := by omega
   clear hL hcl hdr hinv
   by_cases hxb : x = b
   ·subst hxb
    have HC := hd (fun w' hb => HF.out x w' hb)
    have hbb : (x == x) = true := by simp
    rw [hbb] at HC
    obtain ⟨p, hp, hpl, hpm⟩ := HBF.out.inv.1.back k x y hvk
    have HP := hd hp
    have HWF : Hid (∀ u ∈ p, wfI u) := hd (fun u hu => by
     obtain ⟨v, hv⟩ := hpm u hu
     have := HBF.out.inv.1.within HEI.out HA.out _ hv
     exact wf_small this.1.1 om)
    have HPL : Hid (p.length ≤ 1000) := hd om
    clear hp hpl hpm
    go_wp2_with (first | (refine wpList_q_pop rfl (.tmp 27) rfl (w.heap.size + 1) _ x ((V.drop (k + 1)).map Prod.fst) rfl HQ.out ?_; intro v2 hq2) | (go_at_call 100; refine (trail_any V w.heap.size V.length x p HP.out HWF.out HPL.out _ HM.out).mono ?_; rintro e w3 ⟨v3, rfl, hs3, hb3⟩) | (refine (HC.out _ HB.out).mono ?_; rintro e w2 ⟨rfl, rfl⟩))
    go_ret2
    exact ⟨_, p.reverse, true, rfl, .inl ⟨rfl, V, k, y, p, HBF.out, hvk, HP.out, rfl⟩, hs3, HB.out.trans (hb3.mono HB.out.size)⟩
   ·have HC := hd (fun w' hb => HF.out x w' hb)
    have hbb : (x == b) = false := by simpa using hxb
    rw [hbb] at HC
    have HNB2 : Hid (∀ (j : Nat) (x y : Int), j < k + 1 → V[j]? = some (x, y) → x ≠ b) := hd (fun j u v hj huv => by
     by_cases e : j = k
     ·subst e
      rw [hvk] at huv
      simp at huv
      rw [← huv.1]
      exact hxb
     ·exact HNB.out j u v om huv)
    have HVK := hd hvk
    clear HNB hbb hvk
    go_wp2_with (first | (refine wpList_q_pop rfl (.tmp 27) rfl (w.heap.size + 1) _ x ((V.drop (k + 1)).map Prod.fst) rfl HQ.out ?_; intro v2 hq2; have HQ2 := hd hq2; clear hq2 HQ c0) | (refine (HC.out _ HB.out).mono ?_; rintro e w2 ⟨rfl, rfl⟩; clear HC HF))
    go_loopw [37, 9] (fun i l wr2 => ∃ (j : Nat), i = .int .i64 j ∧ j ≤ E.length ∧ Hid (QRow wr2 (w.heap.size + 1) l (((addAll x V (E.take j)).drop (k + 1)).map Prod.fst)) ∧ Hid (SeenM wr2 w.heap.size (addAll x V (E.take j)).length (addAll x V (E.take j))) ∧ Hid (Below w.heap.size w wr2)) (fun i _ _ => E.length - (intOf i).toNat)
    case atStart => exact ⟨0, rfl, Nat.zero_le _, HQ2, HM, HB⟩
    case round =>
     clear HQ2 HM HB
     obtain ⟨j, rfl, hj, HQ, HM, HB⟩ := hrel
     by_cases hjl : j < E.length
     ·have hji : (j : Int) < E.length := by omega
      have h0i : (0 : Int) ≤ j := by omega
      obtain ⟨eb, eo, ecap, e1, hec, hebw, hc⟩ := HS.out.open om
      cases e1
      obtain ⟨hfr, htt⟩ := edge_cells hc j hjl
      have hws := HB.out.size
      have c0 := bcl HB.out hebw hfr
      have c1 := bcl HB.out hebw htt
      have hbr : eb < wr.heap.size := by omega
      have hbr' : eb ≠ wr.heap.size := by omega
      have HST : Hid (addAll x V (E.take (j + 1)) = addE x (addAll x V (E.take j)) E[j]) := hd (by rw [List.take_succ_eq_append_getElem hjl, addAll_snoc])
      have HIN := hd (Inv.addAll (E.take j) HBF.out.inv.1 (fun e he => List.mem_of_mem_take he) HVK.out)
      have HLE := hd (addAll_len (x := x) (E.take j) (V := V))
      have HED := hd (HEI.out E[j] (List.getElem_mem hjl))
      generalize addAll x V (E.take j) = V1 at HQ HM HST HIN HLE
      generalize E[j] = ed at c0 c1 HST HED
      obtain ⟨ef, et⟩ := ed
      simp only at c0 c1
      have wt : wfI et := wf_small HED.out.2.2.1 (by have := HED.out.2.2.2; simp at this; omega)
      have hmlt := HM.out.lt
      have hmne : wr.heap.size ≠ w.heap.size := by omega
      have hv1 := HIN.out.len HEI.out HA.out
      clear hc hfr htt HED
      by_cases h1 : ef = x
      ·subst h1
       cases hlk : V1.lookup et with
       | none =>
        have HAD : Hid (addE ef V1 ⟨ef, et⟩ = V1 ++ [(et, ef)]) := hd (if_pos ⟨rfl, hlk⟩)
        rw [HAD.out] at HST
        have HDR : Hid (((V1 ++ [(et, ef)]).drop (k + 1)).map Prod.fst = (V1.drop (k + 1)).map Prod.fst ++ [et]) := hd (by rw [List.drop_append_of_le_length (by have := HLE.out; omega), List.map_append]; rfl)
        have hql : ((V1.drop (k + 1)).map Prod.fst).length ≤ 1000 := by simp; omega
        clear HAD
        go_wp2_with (first
         | (at_lookup; refine wpList_seen_okn rfl _ _ rfl w.heap.size V1.length V1 rfl (HM.out.alloc _) et rfl wt hlk ?_)
         | (at_mapUpdate; refine wpList_seen_put rfl _ _ _ (Or.inl rfl) w.heap.size V1.length V1 rfl (HM.out.alloc _) om et ef rfl rfl wt wx hlk ?_; intro W1 hs1 hg1; have HM2 := hd hs1; have HB2 := hd ((HB.out.alloc hws _).grown hg1 so (fun q e => by cases e; exact Nat.le_refl _)); have HQ2 := hd ((HQ.out.alloc _).kept hg1 (fun e => by have := (HQ.out.block _ e).1; omega)); have d1 : W1.cell? ⟨wr.heap.size, 1, none⟩ = some (.int .i64 et) := (hg1.cell_far ⟨wr.heap.size, 1, none⟩ (by simp) (fun e => hmne (Option.some.inj e))).trans (by simp); have hlt2 : wr.heap.size < W1.heap.size := Nat.lt_of_lt_of_le (by simp) hg1.size; have hne2 : wr.heap.size ≠ W1.heap.size := om; have hW1 := HB2.out.size; clear hs1 hg1)
         | (at_builtin; refine wpList_q_append rfl _ _ rfl (w.heap.size + 1) _ _ rfl (HQ2.out.alloc _) hql so ⟨W1.heap.size, 0, none⟩ 1 et rfl (new_rangeE _ _ #[.int .i64 et] _ rfl) ?_; intro v3 W3 hq3 hg3; have HB3 := hd ((HB2.out.alloc hW1 _).grown hg3 so (fun q e => by have := (HQ2.out.block q e).1; omega)); have HM3 := hd ((HM2.out.alloc _).kept hg3 (fun e => by have := (HQ2.out.block _ e.symm).1; omega)); have HQ3 := hd hq3; clear hq3 hg3))
        go_roundw
        case rel => exact ⟨j + 1, by go_num, by omega, by rw [HST.out, HDR.out]; exact HQ3, by rw [HST.out, List.length_append]; exact HM3, HB3⟩
        case measure => simp [intOf]; omega
       | some z =>
        have HAD : Hid (addE ef V1 ⟨ef, et⟩ = V1) := hd (if_neg (fun h => by rw [hlk] at h; cases h.2))
        rw [HAD.out] at HST
        clear HAD
        go_wp2_with (at_lookup; refine wpList_seen_oks rfl _ _ rfl w.heap.size V1.length V1 rfl (HM.out.alloc _) et rfl wt z hlk ?_)
        go_roundw
        case rel => exact ⟨j + 1, by go_num, by omega, by rw [HST.out]; exact hd (HQ.out.alloc _), by rw [HST.out]; exact hd (HM.out.alloc _), hd (HB.out.alloc hws _)⟩
        case measure => simp [intOf]; omega
      ·have HAD : Hid (addE x V1 ⟨ef, et⟩ = V1) := hd (if_neg (fun h => h1 h.1))
       rw [HAD.out] at HST
       clear HAD
       cases hlk : V1.lookup et with
       | none =>
        go_wp2_with (at_lookup; refine wpList_seen_okn rfl _ _ rfl w.heap.size V1.length V1 rfl (HM.out.alloc _) et rfl wt hlk ?_)
        go_roundw
        case rel => exact ⟨j + 1, by go_num, by omega, by rw [HST.out]; exact hd (HQ.out.alloc _), by rw [HST.out]; exact hd (HM.out.alloc _), hd (HB.out.alloc hws _)⟩
        case measure => simp [intOf]; omega
       | some z =>
        go_wp2_with (at_lookup; refine wpList_seen_oks rfl _ _ rfl w.heap.size V1.length V1 rfl (HM.out.alloc _) et rfl wt z hlk ?_)
        go_roundw
        case rel => exact ⟨j + 1, by go_num, by omega, by rw [HST.out]; exact hd (HQ.out.alloc _), by rw [HST.out]; exact hd (HM.out.alloc _), hd (HB.out.alloc hws _)⟩
        case measure => simp [intOf]; omega
     ·have hji : ¬ (j : Int) < E.length := by omega
      have htk : E.take j = E := List.take_of_length_le om
      rw [htk] at HQ HM
      have HBF2 := hd (Bfs.pop HBF.out HVK.out)
      have HNB3 : Hid (∀ (j : Nat) (u v : Int), j < k + 1 → (addAll x V E)[j]? = some (u, v) → u ≠ b) := hd (fun j u v hj huv => by
       have hj2 : j < V.length := by omega
       have h3 : V[j]? = some (V[j].1, V[j].2) := List.getElem?_eq_getElem hj2
       have h4 := addAll_at (x := x) E h3
       rw [h4] at huv
       simp at huv
       have := HNB2.out j _ _ hj h3
       rw [← huv.1]
       exact this)
      clear htk HNB2
      go_wp2
      go_roundg (n - (k + 1))
      case measure => omega
      case rel => exact ⟨addAll x V E, k + 1, Nat.le_refl _, HBF2, HNB3, HQ, HM, HB⟩
  ·have hke : k = V.length := by omega
   have hnil : (V.drop k).map Prod.fst = [] := by rw [List.drop_of_length_le om]; rfl
   rw [hnil] at HQ
   obtain ⟨g, off, cap, hv, _⟩ := HQ.out.form
   subst hv
   have HFI : Hid (SearchR E a b [] false) := hd (.inr ⟨rfl, rfl, V, hke ▸ HBF.out, fun q hq => by
    obtain ⟨i, hi, he⟩ := List.getElem_of_mem hq
    exact HNB.out i q.1 q.2 om (by rw [List.getElem?_eq_getElem hi, he])⟩)
   clear HQ HNB hnil
   go_wp2
   go_ret2
   exact ⟨_, [], false, rfl, HFI.out, ⟨rfl, none, 0, rfl, Nat.le_refl _, fun h => absurd h (by simp)⟩, HB.out⟩
inductive WalkR (E : List Edg) (a : Int) : List Int → Prop
 | one : WalkR E a [a]
 | step {x y : Int} {p : List Int} (h : WalkR E a (y :: p)) (he : (⟨y, x⟩ : Edg) ∈ E) : WalkR E a (x :: y :: p)
def code : List Int → Int
 | [] => 0
 | x :: p => code p * 8 + x + 1
theorem Back.uniq {V : Vis} {x : Int} {p : List Int} (h : Back V x p) : ∀ {q : List Int}, Back V x q → p = q := by
 induction h with
 | root h =>
  intro q hq
  cases hq with
  | root _ => rfl
  | step h2 hne _ => rw [h] at h2; cases h2; exact absurd rfl hne
 | step h hne hp ih =>
  intro q hq
  cases hq with
  | root h2 => rw [h] at h2; cases h2; exact absurd rfl hne
  | step h2 _ hp2 =>
   rw [h] at h2
   cases h2
   rw [ih hp2]
theorem look_app {V : Vis} {x y : Int} (h : V.lookup x = some y) (q : Int × Int) : (V ++ [q]).lookup x = some y := by
 rw [List.lookup_append, h]
 rfl
theorem Back.app {V : Vis} {x : Int} {p : List Int} (h : Back V x p) (q : Int × Int) : Back (V ++ [q]) x p := by
 induction h with
 | root h => exact .root (look_app h q)
 | step h hne _ ih => exact .step (look_app h q) hne ih
theorem Back.addE {V : Vis} {x : Int} {p : List Int} (h : Back V x p) (u : Int) (e : Edg) : Back (addE u V e) x p := by
 unfold Go.Proofs.YtehhhiodfcdnmaaGreatDoor.addE
 split
 ·exact h.app _
 ·exact h
theorem Back.walk {E : List Edg} {a : Int} {V : Vis} (hI : Inv E a V) {x : Int} {p : List Int} (h : Back V x p) : (∃ v, (x, v) ∈ V) → WalkR E a p := by
 induction h with
 | @root x h =>
  rintro ⟨v, hv⟩
  obtain ⟨i, hi, he⟩ := List.getElem_of_mem hv
  have hi2 : V[i]? = some (x, v) := by rw [List.getElem?_eq_getElem hi, he]
  have hl := look_at hI.nd hi2
  rw [h] at hl
  cases hl
  by_cases h0 : i = 0
  ·subst h0
   rw [hI.hd] at hi2
   simp at hi2
   rw [← hi2]
   exact .one
  ·exact absurd rfl (hI.par i x x hi2 om).1
 | @step x y p h hne hp ih =>
  rintro ⟨v, hv⟩
  obtain ⟨i, hi, he⟩ := List.getElem_of_mem hv
  have hi2 : V[i]? = some (x, v) := by rw [List.getElem?_eq_getElem hi, he]
  have hl := look_at hI.nd hi2
  rw [h] at hl
  cases hl
  by_cases h0 : i = 0
  ·subst h0
   rw [hI.hd] at hi2
   simp at hi2
   exact absurd (hi2.2.symm.trans hi2.1) hne
  ·obtain ⟨_, h2, j, hj, z, hz⟩ := hI.par i x y hi2 om
   obtain ⟨r, rfl⟩ := hp.head
   exact .step (ih ⟨z, List.mem_of_getElem? hz⟩) h2
end Go.Proofs.YtehhhiodfcdnmaaGreatDoor

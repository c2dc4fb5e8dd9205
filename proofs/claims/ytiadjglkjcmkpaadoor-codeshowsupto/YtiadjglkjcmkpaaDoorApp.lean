/- Append onto a slice that lies anywhere in a block of the call's own: one law for both ways, room or a new array. -/
import Derived.WalkKit
import Derived.ArgAppend
import Derived.Deep.AppendLies
namespace Go.Proofs.YtiadjglkjcmkpaaDoor
set_option linter.unusedSimpArgs false
set_option linter.unusedVariables false
open Go.RowKit

theorem grown_setCells (b : Nat) : ∀ (vs : List Value) (o : Nat) (w : World), w.grownBy (w.setCells b o vs) (some b)
  | [], _, w => ⟨rfl, rfl, rfl, Nat.le_refl _, fun _ _ _ => rfl⟩
  | v :: r, o, w => by
    have h := grown_setCells b r (o + 1) (w.setCell ⟨b, o, none⟩ v)
    have hs : (w.setCell ⟨b, o, none⟩ v).heap.size = w.heap.size := by simp [World.setCell]
    refine ⟨h.os, h.tape, h.output, by rw [← hs]; exact h.size, fun k hk hne => ?_⟩
    refine (h.block k (by rw [hs]; exact hk) hne).trans (Below.heap_setCell w _ _ _ ?_)
    intro e; exact hne (by rw [e])

theorem own_open {w : World} {base : Nat} {e : TypeId} {size : Nat} {v : Value} {n : Nat} {xs : List Value} (h : w.ownsRow base e size v (n + 1) xs) :
    ∃ g cap cur, v = .slice (some ⟨g, 0, none⟩) (n + 1) cap ∧ base ≤ g ∧ w.heap[g]? = some (.cells cur e (0, 0)) ∧ n + 1 ≤ cap ∧ cap ≤ maxLen ∧ cur.size = cap * size ∧ cur.toList.take ((n + 1) * size) = xs := by
  rcases h.2 with ⟨_, h0⟩ | h
  · omega
  · exact h

/-- Behind it: the cells of the new slice from its place on; blocks but b are as they were. -/
theorem wpList_append_mid {P : Program} (w : World) {ops : Array Oper} {rest : List Oper} {o : Oper} {a : Act} {Q : Exit → Act → World → Prop}
    (hg : o.guard = none) (s x : Operand) (t : TypeId) (hop : o.op = Op.call { callee := Callee.builtin Builtin.append, args := #[s, x], argTypes := #[t, t] })
    (e : TypeId) (i : TypeInfo) (z : Value) (size bytes : Nat) (h1 : P.underlying t = some (.slice e)) (h2 : P.info? e = some i) (h3 : i.zero = some z) (h4 : i.size = size) (h5 : i.bytes = bytes) (h6 : z.cells.size = size) (h7 : 0 < size)
    (b off n cap : Nat) (olds : List Value) (hs : a.eval s = .slice (some ⟨b, off, none⟩) n cap) (hlo : olds.length = n * size) (holds : ∀ j u, olds[j]? = some u → w.cell? ⟨b, off + j, none⟩ = some u) (hbw : b < w.heap.size)
    (ad : Addr) (m c : Nat) (news : List Value) (hx : a.eval x = .slice (some ad) m c) (hn : news.length = m * size) (hc : ∀ j u, news[j]? = some u → w.cell? (ad.add j) = some u) (h1c : ∀ u ∈ news, u.oneCell' = true)
    (hspare : n + m ≤ cap → ∀ j, j < news.length → (w.cell? ⟨b, off + n * size + j, none⟩).isSome = true ∧ w.frozen? ⟨b, off + n * size + j, none⟩ = false)
    (b1 : n + m ≤ maxLen) (b2 : (n + m) * bytes ≤ 140737488355328) (hm : 0 < m)
    (hk : ∀ b' off' cap' w', (∀ j u, (olds ++ news)[j]? = some u → w'.cell? ⟨b', off' + j, none⟩ = some u) → w.grownBy w' (some b) → (b' = b ∨ w.heap.size ≤ b') → b' < w'.heap.size → n + m ≤ cap' →
      wpList P ops Q rest (a.put o.dst (.slice (some ⟨b', off', none⟩) (n + m) cap')) w') :
    wpList P ops Q (o :: rest) a w := by
  refine wpList_append_arg w hg s x t hop e i z size bytes h1 h2 h3 h4 h5 h6 h7 b off n cap olds hs hlo holds ad m c news hx hn hc h1c hspare b1 b2 (fun hroom => ?_) (fun hroom v' w' hown hgr => ?_)
  · have hgs := grown_setCells b news (off + n * size) w
    refine hk b off cap _ (fun j u hj => ?_) hgs (Or.inl rfl) (Nat.lt_of_lt_of_le hbw hgs.size) hroom
    by_cases hjo : j < olds.length
    · rw [List.getElem?_append_left hjo] at hj
      rw [World.cell?_setCells_out b news _ w _ (fun _ _ => Or.inl (by simp; omega))]
      exact holds j u hj
    · rw [List.getElem?_append_right (by omega)] at hj
      have hjn := (List.getElem?_eq_some_iff.1 hj).1
      have := World.cell?_setCells_in b news (off + n * size) w (fun q hq => (hspare hroom q hq).1) (j - olds.length) hjn
      rw [show off + j = off + n * size + (j - olds.length) by omega, this]
      rw [List.getElem?_eq_getElem hjn] at hj
      exact hj
  · obtain ⟨g, cap', rfl, hgb, hglt⟩ := hown.form (by omega)
    have hcells := hown.cells (g := g) rfl
    refine hk g 0 cap' w' (fun j u hj => ?_) ⟨hgr.os, hgr.tape, hgr.output, hgr.size, fun k hk _ => hgr.block k hk (by simp)⟩ (Or.inr hgb) hglt ?_
    · have := hcells j u hj
      have hadd : (⟨g, 0, none⟩ : Addr).add j = ⟨g, j, none⟩ := by unfold Addr.add; split <;> simp_all
      rw [Nat.zero_add, ← hadd]
      exact this
    · rcases hown.2 with ⟨h, _⟩ | ⟨g', cap'', cur, hv, _, _, hle, _⟩
      · cases h
      · cases hv; exact hle
end Go.Proofs.YtiadjglkjcmkpaaDoor

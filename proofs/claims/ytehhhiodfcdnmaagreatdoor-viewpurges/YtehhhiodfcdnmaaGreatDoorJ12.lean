/- slices.Compact at edges. -/
import Derived.Test.YtehhhiodfcdnmaaGreatDoorJ11
import Derived.Test.YtehhhiodfcdnmaaGreatDoorJ0
import Derived.Test.YtehhhiodfcdnmaaGreatDoorJ4
import Derived.Deep.AppendLies
import Derived.Shelf.SlSortCmp.NoneTotal
import Derived.Test.YtehhhiodfcdnmaaGreatDoorJ2
namespace Go.Proofs.YtehhhiodfcdnmaaGreatDoor
set_option linter.unusedSimpArgs false
set_option linter.unusedVariables false
open Go.RowKit Go.Sort Go.Shelf Go.Lib
theorem wpList_store_midF {P : Program} {ops : Array Oper} {rest : List Oper} {op : Oper} {a : Act} {w : World} {Q : Exit → Act → World → Prop} (hgd : op.guard = none) (ty : TypeId) (x y : Operand) (ho : op.op = .store ty x y)
    (b o : Nat) (cells : Array Value) (hx : a.eval x = .pointer (some ⟨b, o, none⟩)) (hy : a.eval y = .agg cells)
    (ht : w.there b o cells.size) (hi : (P.info? ty).map (·.size) = some cells.size) (h1 : cells.all (·.oneCell') = true)
    (h : ∀ W, Hid (W = w.setCells b o cells.toList) → wpList P ops Q rest (a.put op.dst undef) W) : wpList P ops Q (op :: rest) a w :=
  wpList_store_mid hgd ty x y ho b o cells hx hy ht hi h1 (h _ (Lib.hid rfl))
theorem sizeEdg : (Tryz.prog.info? 74).map (·.size) = some 2 := by kernel_rfl
theorem zeroEdg : ∀ w, (zeroValue 74).run Tryz.prog w = .ok (.agg #[.int .i64 0, .int .i64 0]) w := fun w => by kernel_rfl
theorem rw_setCellsF : ∀ (us : List Value) {w : World} {g : Nat} (o : Nat) {t : TypeId} {cs : Array Value}, Rw w g t cs → ∃ cs', Rw (w.setCells g o us) g t cs'
  | [], _, _, _, _, cs, h => ⟨cs, h⟩
  | u :: r, w, g, o, t, cs, h => by
    rw [World.setCells]
    exact rw_setCellsF r (o + 1) (h.set o u)
theorem below_setCellsF : ∀ (us : List Value) {B : Nat} {a w : World} {b : Nat} (o : Nat), RowKit.Below B a w → B ≤ b → RowKit.Below B a (w.setCells b o us)
  | [], _, _, _, _, _, h, _ => h
  | u :: r, B, a, w, b, o, h, hb => by
    rw [World.setCells]
    exact below_setCellsF r (o + 1) (h.setCell (p := ⟨b, o, none⟩) hb u) hb
structure Cq (w W : World) (g off : Nat) (d : List Edg) : Prop where
  e : EdM W g off d
  b : ∀ B, B ≤ g → RowKit.Below B w W
theorem Cq.up {w W W' : World} {g off : Nat} {d : List Edg} (h : Cq w W g off d) (hb : RowKit.Below W.heap.size W W') : Cq w W' g off d :=
  ⟨h.e.up hb h.e.lt, fun B hB => (h.b B hB).trans (hb.mono (by have := h.e.lt; omega))⟩
theorem Cq.there {w W : World} {g off : Nat} {d : List Edg} (h : Cq w W g off d) {k : Nat} (hk : k < d.length) : W.there g (off + k * 2) 2 := fun j hj => by
  obtain ⟨⟨cur, hc⟩, hd⟩ := h.e
  refine ⟨?_, hc.fr _⟩
  have h2 : j = 0 ∨ j = 1 := by omega
  rcases h2 with rfl | rfl
  · rw [Nat.add_zero, (hd k hk).1]
    rfl
  · rw [(hd k hk).2]
    rfl
theorem Cq.put {w W : World} {g off : Nat} {d : List Edg} (h : Cq w W g off d) {k : Nat} (hk : k < d.length) (x : Edg) : Cq w (W.setCells g (off + k * 2) [.int .i64 x.fr, .int .i64 x.tt]) g off (d.set k x) := by
  have hth := h.there hk
  refine ⟨⟨let ⟨c, hc⟩ := h.e.1; rw_setCellsF _ _ hc, fun j hj => ?_⟩, fun B hB => below_setCellsF _ _ (h.b B hB) hB⟩
  have hj' : j < d.length := by simpa using hj
  obtain ⟨c0, c1⟩ := h.e.2 j hj'
  by_cases e : k = j
  · subst e
    simp only [List.getElem_set_self]
    have a0 := World.cell?_setCells_in g [.int .i64 x.fr, .int .i64 x.tt] (off + k * 2) W (fun i hi => (hth i (by simpa using hi)).1) 0 (by simp)
    have a1 := World.cell?_setCells_in g [.int .i64 x.fr, .int .i64 x.tt] (off + k * 2) W (fun i hi => (hth i (by simpa using hi)).1) 1 (by simp)
    exact ⟨a0, a1⟩
  · simp only [List.getElem_set_ne e]
    refine ⟨?_, ?_⟩
    · rw [World.cell?_setCells_out g _ (off + k * 2) W ⟨g, off + j * 2, none⟩ (fun _ _ => by simp; omega)]
      exact c0
    · rw [World.cell?_setCells_out g _ (off + k * 2) W ⟨g, off + j * 2 + 1, none⟩ (fun _ _ => by simp; omega)]
      exact c1
theorem zc_len (n : Nat) : ((Builtin.zeroCells (Value.cells (.agg #[.int .i64 0, .int .i64 0])) n).toList).length = n * 2 := by
  simp [Builtin.zeroCells, Value.cells]
theorem zc_one (n : Nat) : ∀ v ∈ (Builtin.zeroCells (Value.cells (.agg #[.int .i64 0, .int .i64 0])) n).toList, v.oneCell' = true := fun v hv => by
  simp [Builtin.zeroCells, Value.cells] at hv
  obtain ⟨a, _, rfl⟩ := hv
  have h2 : a % 2 = 0 ∨ a % 2 = 1 := by omega
  rcases h2 with h | h <;> simp [h, Value.oneCell']
theorem Cq.clear {w W : World} {g off : Nat} {d : List Edg} (h : Cq w W g off d) (k : Nat) (us : List Value) : Cq w (W.setCells g (off + k * 2) us) g off (d.take k) := by
  refine ⟨⟨let ⟨c, hc⟩ := h.e.1; rw_setCellsF _ _ hc, fun j hj => ?_⟩, fun B hB => below_setCellsF _ _ (h.b B hB) hB⟩
  have hj' : j < k ∧ j < d.length := by
    simp at hj
    omega
  obtain ⟨c0, c1⟩ := h.e.2 j hj'.2
  simp only [List.getElem_take]
  refine ⟨?_, ?_⟩
  · rw [World.cell?_setCells_out g us (off + k * 2) W ⟨g, off + j * 2, none⟩ (fun _ _ => Or.inl (by simp; omega))]
    exact c0
  · rw [World.cell?_setCells_out g us (off + k * 2) W ⟨g, off + j * 2 + 1, none⟩ (fun _ _ => Or.inl (by simp; omega))]
    exact c1
theorem Cq.isSome {w W : World} {g off : Nat} {d : List Edg} (h : Cq w W g off d) {k j : Nat} (hj : j < (d.length - k) * 2) : (W.cell? ⟨g, off + k * 2 + j, none⟩).isSome = true := by
  have hq : k + j / 2 < d.length := by omega
  have := h.there hq (j % 2) (by omega)
  rw [show off + k * 2 + j = off + (k + j / 2) * 2 + j % 2 by omega]
  exact this.1
set_option maxRecDepth 100000 in
set_option maxHeartbeats 8000000 in
theorem compact_any (l : List Edg) (g off cap : Nat) (hcap : l.length ≤ cap) (hbig : l.length ≤ 1000) (w : World) (hE : EdM w g off l) :
    Calls Tryz.prog 99 #[.slice (some ⟨g, off, none⟩) l.length cap] w fun e w' => e = .returned (.slice (some ⟨g, off, none⟩) (uniqE l).length cap) ∧ EdM w' g off (uniqE l) ∧ ∀ B, B ≤ g → RowKit.Below B w w' := by
  have hC : Cq w w g off l := ⟨hE, fun B _ => RowKit.Below.refl _ _⟩
  have CQ := Lib.hid hC
  clear hE hC
  by_cases hn : l.length < 2
  · have hni : (l.length : Int) < 2 := by omega
    have HU : Hid (uniqE l = l) := by
      show _ = _
      match l, hn with
      | [], _ => rfl
      | [a], _ => rfl
    clear hn
    go_enter Tryz.func99, Tryz.ntmps99
    go_wp2
    go_ret
    exact ⟨by rw [HU.out]; rfl, by rw [HU.out]; exact CQ.out.e, CQ.out.b⟩
  · have hni : ¬ (l.length : Int) < 2 := by omega
    go_enter Tryz.func99, Tryz.ntmps99
    go_wp2
    go_loopw [3] (fun i wr => ∃ k : Nat, i = .int .i64 k ∧ 1 ≤ k ∧ k ≤ l.length ∧ Hid (∀ j (h : j < k) (h' : j < l.length), 1 ≤ j → l[j - 1] ≠ l[j]) ∧ Hid (Cq w wr g off l)) (fun i _ => l.length - (intOf i).toNat)
    case atStart => exact ⟨1, rfl, Nat.le_refl _, by omega, Lib.hid (fun j h h' h1 => by omega), CQ⟩
    case round =>
    clear CQ
    obtain ⟨k, rfl, hk1, hk, HZ, C⟩ := hrel
    by_cases hlt : k < l.length
    · have hli : (k : Int) < l.length := by omega
      have h0i : (0 : Int) ≤ k := by omega
      have h1i : (0 : Int) ≤ (k : Int) - 1 := by omega
      have h2i : (k : Int) - 1 < l.length := by omega
      have HWk : Hid (IntKind.i64.wrap ((k : Int) - 1) = ((k - 1 : Nat) : Int)) := by
        show _ = _
        rw [IntKind.wrap_i64]
        omega
      have HKm : Hid ((k : Int) - 1 = ((k - 1 : Nat) : Int)) := by
        show _ = _
        omega
      have hm1 : ((k - 1 : Nat) : Int) < l.length := by omega
      have hm0 : (0 : Int) ≤ ((k - 1 : Nat) : Int) := by omega
      obtain ⟨x, hx⟩ : ∃ x, l[k] = x := ⟨_, rfl⟩
      obtain ⟨y, hy⟩ : ∃ y, l[k - 1] = y := ⟨_, rfl⟩
      have HX := Lib.hid hx
      have HY := Lib.hid hy
      have cA := C.out.e.2 k hlt
      have cB := C.out.e.2 (k - 1) (by omega)
      rw [hx] at cA
      rw [hy] at cB
      have A0 := Lib.hid cA.1
      have A1 := Lib.hid cA.2
      have B0 := Lib.hid cB.1
      have B1 := Lib.hid cB.2
      have hgl := C.out.e.lt
      clear hx hy cA cB
      by_cases hxy : x = y
      · have HB : Hid ((x.fr == y.fr && x.tt == y.tt) = true) := by
          show _ = _
          simp [hxy]
        have HXY := Lib.hid hxy
        clear hxy
        go_wp2
        have CC := C
        clear C
        refine region_still (S := fun w' => RowKit.Below wr.heap.size wr w') 9 (by kernel_rfl) (RowKit.Below.refl _ _).drew (fun hHeld => ?_)
        refine Still.takeBy (i := 0) [3, 2] (v := ?v11) (by kernel_rfl) (by kernel_rfl) rfl (by kernel_rfl) (by kernel_rfl) (by kernel_rfl) (fun _ _ _ h => h) (Or.inl ⟨by rfl, ?y11⟩) hHeld ?r11
        case y11 => (intro w' hSw; (try dsimp only at hSw); have q0 := bcl hSw hgl A0.out; have q1 := bcl hSw hgl A1.out; have q2 := bcl hSw hgl B0.out; have q3 := bcl hSw hgl B1.out; clear hSw; go_simp; try with_reducible rfl)
        simp only [Act.put, List.getElem_toArray, List.getElem_cons_zero, List.getElem_cons_succ, List.setIfInBounds_toArray, List.set_cons_zero, List.set_cons_succ]
        refine Still.takeBy (i := 1) [3, 2] (v := ?v12) (by kernel_rfl) (by kernel_rfl) rfl (by kernel_rfl) (by kernel_rfl) (by kernel_rfl) (fun _ _ _ h => h) (Or.inl ⟨by rfl, ?y12⟩) hHeld ?r12
        case y12 => (intro w' hSw; (try dsimp only at hSw); have q0 := bcl hSw hgl A0.out; have q1 := bcl hSw hgl A1.out; have q2 := bcl hSw hgl B0.out; have q3 := bcl hSw hgl B1.out; clear hSw; go_simp; try with_reducible rfl)
        simp only [Act.put, List.getElem_toArray, List.getElem_cons_zero, List.getElem_cons_succ, List.setIfInBounds_toArray, List.set_cons_zero, List.set_cons_succ]
        refine Still.takeBy (i := 2) [3] (v := ?v13) (by kernel_rfl) (by kernel_rfl) rfl (by kernel_rfl) (by kernel_rfl) (by kernel_rfl) (fun _ _ _ h => h) (Or.inl ⟨by rfl, ?y13⟩) hHeld ?r13
        case y13 => (intro w' hSw; (try dsimp only at hSw); have q0 := bcl hSw hgl A0.out; have q1 := bcl hSw hgl A1.out; have q2 := bcl hSw hgl B0.out; have q3 := bcl hSw hgl B1.out; clear hSw; go_simp; try with_reducible rfl)
        simp only [Act.put, List.getElem_toArray, List.getElem_cons_zero, List.getElem_cons_succ, List.setIfInBounds_toArray, List.set_cons_zero, List.set_cons_succ]
        refine Still.takeBy (i := 3) [] (v := ?v14) (by kernel_rfl) (by kernel_rfl) rfl (by kernel_rfl) (by kernel_rfl) (by kernel_rfl) (fun _ _ _ h => h) (Or.inl ⟨by rfl, ?y14⟩) hHeld ?r14
        case y14 => (intro w' hSw; (try dsimp only at hSw); have q0 := bcl hSw hgl A0.out; have q1 := bcl hSw hgl A1.out; have q2 := bcl hSw hgl B0.out; have q3 := bcl hSw hgl B1.out; clear hSw; go_simp; try with_reducible rfl)
        simp only [Act.put, List.getElem_toArray, List.getElem_cons_zero, List.getElem_cons_succ, List.setIfInBounds_toArray, List.set_cons_zero, List.set_cons_succ]
        refine Still.takeBy (i := 4) [8, 7] (v := ?v15) (by kernel_rfl) (by kernel_rfl) rfl (by kernel_rfl) (by kernel_rfl) (by kernel_rfl) (fun _ _ _ h => h) (Or.inl ⟨by rfl, ?y15⟩) hHeld ?r15
        case y15 => (intro w' hSw; (try dsimp only at hSw); have q0 := bcl hSw hgl A0.out; have q1 := bcl hSw hgl A1.out; have q2 := bcl hSw hgl B0.out; have q3 := bcl hSw hgl B1.out; clear hSw; go_simp; try with_reducible rfl)
        simp only [Act.put, List.getElem_toArray, List.getElem_cons_zero, List.getElem_cons_succ, List.setIfInBounds_toArray, List.set_cons_zero, List.set_cons_succ]
        refine Still.takeBy (i := 5) [8, 7, 6] (v := ?v16) (by kernel_rfl) (by kernel_rfl) rfl (by kernel_rfl) (by kernel_rfl) (by kernel_rfl) (fun _ _ _ h => h) (Or.inl ⟨by rfl, ?y16⟩) hHeld ?r16
        case y16 => (intro w' hSw; (try dsimp only at hSw); have q0 := bcl hSw hgl A0.out; have q1 := bcl hSw hgl A1.out; have q2 := bcl hSw hgl B0.out; have q3 := bcl hSw hgl B1.out; clear hSw; go_simp; try with_reducible rfl)
        simp only [Act.put, List.getElem_toArray, List.getElem_cons_zero, List.getElem_cons_succ, List.setIfInBounds_toArray, List.set_cons_zero, List.set_cons_succ]
        refine Still.takeBy (i := 6) [8, 7] (v := ?v17) (by kernel_rfl) (by kernel_rfl) rfl (by kernel_rfl) (by kernel_rfl) (by kernel_rfl) (fun _ _ _ h => h) (Or.inl ⟨by rfl, ?y17⟩) hHeld ?r17
        case y17 => (intro w' hSw; (try dsimp only at hSw); go_simp; (try simp only [HWk.out]); (try simp only [HKm.out]); try with_reducible rfl)
        simp only [Act.put, List.getElem_toArray, List.getElem_cons_zero, List.getElem_cons_succ, List.setIfInBounds_toArray, List.set_cons_zero, List.set_cons_succ]
        refine Still.takeBy (i := 7) [8] (v := ?v18) (by kernel_rfl) (by kernel_rfl) rfl (by kernel_rfl) (by kernel_rfl) (by kernel_rfl) (fun _ _ _ h => h) (Or.inl ⟨by rfl, ?y18⟩) hHeld ?r18
        case y18 => (intro w' hSw; (try dsimp only at hSw); have q0 := bcl hSw hgl A0.out; have q1 := bcl hSw hgl A1.out; have q2 := bcl hSw hgl B0.out; have q3 := bcl hSw hgl B1.out; clear hSw; go_simp; try with_reducible rfl)
        simp only [Act.put, List.getElem_toArray, List.getElem_cons_zero, List.getElem_cons_succ, List.setIfInBounds_toArray, List.set_cons_zero, List.set_cons_succ]
        refine Still.takeBy (i := 8) [] (v := ?v19) (by kernel_rfl) (by kernel_rfl) rfl (by kernel_rfl) (by kernel_rfl) (by kernel_rfl) (fun _ _ _ h => h) (Or.inl ⟨by rfl, ?y19⟩) hHeld ?r19
        case y19 => (intro w' hSw; (try dsimp only at hSw); have q0 := bcl hSw hgl A0.out; have q1 := bcl hSw hgl A1.out; have q2 := bcl hSw hgl B0.out; have q3 := bcl hSw hgl B1.out; clear hSw; go_simp; try with_reducible rfl)
        simp only [Act.put, List.getElem_toArray, List.getElem_cons_zero, List.getElem_cons_succ, List.setIfInBounds_toArray, List.set_cons_zero, List.set_cons_succ]
        refine Still.all (rs := [9]) (by kernel_rfl) (by simp) (Still.one (i := 9) rfl rfl (fun K hK => ?_) (by simp))
        have qe := eqE x.fr x.tt y.fr y.tt
        rw [HB.out] at qe
        go_simp
        refine hK _ _ (fun h => absurd rfl h) (fun _ => ?_)
        clear hK K
        refine Still.over (by kernel_rfl) ?_ _
        have C' := Lib.hid (CC.out.up hHeld)
        clear hHeld qe CC
        have HLN := Lib.hid (show l.length - k + k = l.length by omega)
        have HU0 : Hid (l.take k = uniqE (l.take (k + 1))) := by
          show _ = _
          rw [uniq_take l k hk1 hlt, if_pos (by rw [HX.out, HY.out]; exact HXY.out.symm), uniq_same l k hk (fun j h h' h1 => HZ.out j h h' h1)]
        clear A0 A1 B0 B1 HB HX HY HXY HWk HKm hm1 hm0 h1i h2i HZ
        obtain ⟨r, hr⟩ : ∃ r, l.length - k = r := ⟨_, rfl⟩
        obtain ⟨rc, hrc⟩ : ∃ rc, cap - k = rc := ⟨_, rfl⟩
        have HR := Lib.hid hr
        have HRC := Lib.hid hrc
        have hrr : r ≤ rc := by omega
        have hr1 : 1 ≤ r := by omega
        have hlk : l.length = k + r := by omega
        have HLK := Lib.hid hlk
        have hr2 : r ≤ 1000 := by omega
        clear hlk
        go_upto_region 8 with fail
        clear hr hrc
        go_wp2
        go_loopw [3, 5] (fun i j wr => ∃ (m q : Nat) (d : List Edg), i = .int .i64 m ∧ j = .int .i64 q ∧ 1 ≤ q ∧ q ≤ r ∧ m ≤ k + q - 1 ∧ k ≤ m ∧ Hid (d.length = k + r) ∧ Hid (d.take m = uniqE (l.take (k + q))) ∧ Hid (∀ j, k + q - 1 ≤ j → d[j]? = l[j]?) ∧ Hid (Cq w wr g off d)) (fun _ j _ => r - (intOf j).toNat)
        case atStart => exact ⟨k, 1, l, rfl, rfl, Nat.le_refl _, hr1, by omega, Nat.le_refl _, HLK, HU0, Lib.hid (fun _ _ => rfl), by first | exact C' | exact Lib.hid (C'.out.up (RowKit.Below.refl _ _).drew)⟩
        case round =>
        clear C' HU0
        obtain ⟨m, q, d, rfl, rfl, hq1, hq2, hm, hkm, HDL, HDT, HDS, C⟩ := hrel
        by_cases hqr : q < r
        · have hqi : (q : Int) < r := by omega
          have hq0 : (0 : Int) ≤ q := by omega
          have HWq : Hid (IntKind.i64.wrap ((q : Int) - 1) = ((q - 1 : Nat) : Int)) := by
            show _ = _
            rw [IntKind.wrap_i64]
            omega
          have HQm : Hid ((q : Int) - 1 = ((q - 1 : Nat) : Int)) := by
            show _ = _
            omega
          have hm1 : ((q - 1 : Nat) : Int) < r := by omega
          have hm0 : (0 : Int) ≤ ((q - 1 : Nat) : Int) := by omega
          have hdq : k + q < d.length := by have := HDL.out; omega
          have hdq' : k + (q - 1) < d.length := by omega
          have hlq : k + q < l.length := by have := HLK.out; omega
          obtain ⟨x, hx⟩ : ∃ x, d[k + q] = x := ⟨_, rfl⟩
          obtain ⟨y, hy⟩ : ∃ y, d[k + (q - 1)] = y := ⟨_, rfl⟩
          have hxl : l[k + q] = x := by
            have := HDS.out (k + q) (by omega)
            rw [List.getElem?_eq_getElem hdq, List.getElem?_eq_getElem hlq] at this
            injection this with this
            rw [← this, hx]
          have hyl : l[k + q - 1]'(by omega) = y := by
            have := HDS.out (k + q - 1) (Nat.le_refl _)
            rw [List.getElem?_eq_getElem (by omega), List.getElem?_eq_getElem (by omega)] at this
            injection this with this
            rw [← this, ← hy]
            congr 1
            omega
          have hut := uniq_take l (k + q) (by omega) hlq
          rw [hxl, hyl] at hut
          have cA := C.out.e.2 (k + q) hdq
          have cB := C.out.e.2 (k + (q - 1)) hdq'
          rw [hx] at cA
          rw [hy] at cB
          rw [show off + (k + q) * 2 = off + k * 2 + q * 2 by omega] at cA
          rw [show off + (k + (q - 1)) * 2 = off + k * 2 + (q - 1) * 2 by omega] at cB
          have A0 := Lib.hid cA.1
          have A1 := Lib.hid cA.2
          have B0 := Lib.hid cB.1
          have B1 := Lib.hid cB.2
          have HUT := Lib.hid hut
          have HXD := Lib.hid hx
          have hgl := C.out.e.lt
          clear hx hy cA cB hut hxl hyl
          by_cases hxy : x = y
          · have HB : Hid ((x.fr == y.fr && x.tt == y.tt) = true) := by
              show _ = _
              simp [hxy]
            have HXY := Lib.hid hxy
            clear hxy
            go_wp2
            have CC := C
            clear C
            refine region_still (S := fun w' => RowKit.Below wr.heap.size wr w') 9 (by kernel_rfl) (RowKit.Below.refl _ _).drew (fun hHeld => ?_)
            refine Still.takeBy (i := 0) [3, 2] (v := ?v71) (by kernel_rfl) (by kernel_rfl) rfl (by kernel_rfl) (by kernel_rfl) (by kernel_rfl) (fun _ _ _ h => h) (Or.inl ⟨by rfl, ?y71⟩) hHeld ?r71
            case y71 => (intro w' hSw; (try dsimp only at hSw); have q0 := bcl hSw hgl A0.out; have q1 := bcl hSw hgl A1.out; have q2 := bcl hSw hgl B0.out; have q3 := bcl hSw hgl B1.out; clear hSw; go_simp; try with_reducible rfl)
            simp only [Act.put, List.getElem_toArray, List.getElem_cons_zero, List.getElem_cons_succ, List.setIfInBounds_toArray, List.set_cons_zero, List.set_cons_succ]
            refine Still.takeBy (i := 1) [3, 2] (v := ?v72) (by kernel_rfl) (by kernel_rfl) rfl (by kernel_rfl) (by kernel_rfl) (by kernel_rfl) (fun _ _ _ h => h) (Or.inl ⟨by rfl, ?y72⟩) hHeld ?r72
            case y72 => (intro w' hSw; (try dsimp only at hSw); have q0 := bcl hSw hgl A0.out; have q1 := bcl hSw hgl A1.out; have q2 := bcl hSw hgl B0.out; have q3 := bcl hSw hgl B1.out; clear hSw; go_simp; try with_reducible rfl)
            simp only [Act.put, List.getElem_toArray, List.getElem_cons_zero, List.getElem_cons_succ, List.setIfInBounds_toArray, List.set_cons_zero, List.set_cons_succ]
            refine Still.takeBy (i := 2) [3] (v := ?v73) (by kernel_rfl) (by kernel_rfl) rfl (by kernel_rfl) (by kernel_rfl) (by kernel_rfl) (fun _ _ _ h => h) (Or.inl ⟨by rfl, ?y73⟩) hHeld ?r73
            case y73 => (intro w' hSw; (try dsimp only at hSw); have q0 := bcl hSw hgl A0.out; have q1 := bcl hSw hgl A1.out; have q2 := bcl hSw hgl B0.out; have q3 := bcl hSw hgl B1.out; clear hSw; go_simp; try with_reducible rfl)
            simp only [Act.put, List.getElem_toArray, List.getElem_cons_zero, List.getElem_cons_succ, List.setIfInBounds_toArray, List.set_cons_zero, List.set_cons_succ]
            refine Still.takeBy (i := 3) [] (v := ?v74) (by kernel_rfl) (by kernel_rfl) rfl (by kernel_rfl) (by kernel_rfl) (by kernel_rfl) (fun _ _ _ h => h) (Or.inl ⟨by rfl, ?y74⟩) hHeld ?r74
            case y74 => (intro w' hSw; (try dsimp only at hSw); have q0 := bcl hSw hgl A0.out; have q1 := bcl hSw hgl A1.out; have q2 := bcl hSw hgl B0.out; have q3 := bcl hSw hgl B1.out; clear hSw; go_simp; try with_reducible rfl)
            simp only [Act.put, List.getElem_toArray, List.getElem_cons_zero, List.getElem_cons_succ, List.setIfInBounds_toArray, List.set_cons_zero, List.set_cons_succ]
            refine Still.takeBy (i := 4) [8, 7] (v := ?v75) (by kernel_rfl) (by kernel_rfl) rfl (by kernel_rfl) (by kernel_rfl) (by kernel_rfl) (fun _ _ _ h => h) (Or.inl ⟨by rfl, ?y75⟩) hHeld ?r75
            case y75 => (intro w' hSw; (try dsimp only at hSw); have q0 := bcl hSw hgl A0.out; have q1 := bcl hSw hgl A1.out; have q2 := bcl hSw hgl B0.out; have q3 := bcl hSw hgl B1.out; clear hSw; go_simp; try with_reducible rfl)
            simp only [Act.put, List.getElem_toArray, List.getElem_cons_zero, List.getElem_cons_succ, List.setIfInBounds_toArray, List.set_cons_zero, List.set_cons_succ]
            refine Still.takeBy (i := 5) [8, 7, 6] (v := ?v76) (by kernel_rfl) (by kernel_rfl) rfl (by kernel_rfl) (by kernel_rfl) (by kernel_rfl) (fun _ _ _ h => h) (Or.inl ⟨by rfl, ?y76⟩) hHeld ?r76
            case y76 => (intro w' hSw; (try dsimp only at hSw); have q0 := bcl hSw hgl A0.out; have q1 := bcl hSw hgl A1.out; have q2 := bcl hSw hgl B0.out; have q3 := bcl hSw hgl B1.out; clear hSw; go_simp; try with_reducible rfl)
            simp only [Act.put, List.getElem_toArray, List.getElem_cons_zero, List.getElem_cons_succ, List.setIfInBounds_toArray, List.set_cons_zero, List.set_cons_succ]
            refine Still.takeBy (i := 6) [8, 7] (v := ?v77) (by kernel_rfl) (by kernel_rfl) rfl (by kernel_rfl) (by kernel_rfl) (by kernel_rfl) (fun _ _ _ h => h) (Or.inl ⟨by rfl, ?y77⟩) hHeld ?r77
            case y77 => (intro w' hSw; (try dsimp only at hSw); go_simp; (try simp only [HWq.out]); (try simp only [HQm.out]); try with_reducible rfl)
            simp only [Act.put, List.getElem_toArray, List.getElem_cons_zero, List.getElem_cons_succ, List.setIfInBounds_toArray, List.set_cons_zero, List.set_cons_succ]
            refine Still.takeBy (i := 7) [8] (v := ?v78) (by kernel_rfl) (by kernel_rfl) rfl (by kernel_rfl) (by kernel_rfl) (by kernel_rfl) (fun _ _ _ h => h) (Or.inl ⟨by rfl, ?y78⟩) hHeld ?r78
            case y78 => (intro w' hSw; (try dsimp only at hSw); have q0 := bcl hSw hgl A0.out; have q1 := bcl hSw hgl A1.out; have q2 := bcl hSw hgl B0.out; have q3 := bcl hSw hgl B1.out; clear hSw; go_simp; try with_reducible rfl)
            simp only [Act.put, List.getElem_toArray, List.getElem_cons_zero, List.getElem_cons_succ, List.setIfInBounds_toArray, List.set_cons_zero, List.set_cons_succ]
            refine Still.takeBy (i := 8) [] (v := ?v79) (by kernel_rfl) (by kernel_rfl) rfl (by kernel_rfl) (by kernel_rfl) (by kernel_rfl) (fun _ _ _ h => h) (Or.inl ⟨by rfl, ?y79⟩) hHeld ?r79
            case y79 => (intro w' hSw; (try dsimp only at hSw); have q0 := bcl hSw hgl A0.out; have q1 := bcl hSw hgl A1.out; have q2 := bcl hSw hgl B0.out; have q3 := bcl hSw hgl B1.out; clear hSw; go_simp; try with_reducible rfl)
            simp only [Act.put, List.getElem_toArray, List.getElem_cons_zero, List.getElem_cons_succ, List.setIfInBounds_toArray, List.set_cons_zero, List.set_cons_succ]
            refine Still.all (rs := [9]) (by kernel_rfl) (by simp) (Still.one (i := 9) rfl rfl (fun K hK => ?_) (by simp))
            have qe := eqE x.fr x.tt y.fr y.tt
            rw [HB.out] at qe
            go_simp
            refine hK _ _ (fun h => absurd rfl h) (fun _ => ?_)
            clear hK K
            refine Still.over (by kernel_rfl) ?_ _
            have C' := Lib.hid (CC.out.up hHeld)
            have a0 := bcl hHeld hgl A0.out
            have a1 := bcl hHeld hgl A1.out
            clear hHeld qe CC A0 A1 B0 B1
            go_wp2
            go_roundw
            case rel => exact ⟨m, q + 1, d, rfl, by go_num, by omega, by omega, by omega, hkm, HDL, Lib.hid (by rw [show k + (q + 1) = k + q + 1 by omega, HUT.out, if_pos HXY.out.symm]; exact HDT.out), Lib.hid (fun j hj => HDS.out j (by omega)), C'⟩
            case measure => simp [intOf]; omega
          · have HB : Hid ((x.fr == y.fr && x.tt == y.tt) = false) := by
              show _ = _
              cases hbb : (x.fr == y.fr && x.tt == y.tt) with
              | false => rfl
              | true =>
                simp at hbb
                exact absurd (by cases x; cases y; simp_all) hxy
            have HXY := Lib.hid hxy
            have hml : m < d.length := by have := HDL.out; omega
            have hmi : (m : Int) < l.length := by have := HLK.out; omega
            have hmi0 : (0 : Int) ≤ m := by omega
            clear hxy
            go_wp2
            have CC := C
            clear C
            refine region_still (S := fun w' => RowKit.Below wr.heap.size wr w') 9 (by kernel_rfl) (RowKit.Below.refl _ _).drew (fun hHeld => ?_)
            refine Still.takeBy (i := 0) [3, 2] (v := ?v101) (by kernel_rfl) (by kernel_rfl) rfl (by kernel_rfl) (by kernel_rfl) (by kernel_rfl) (fun _ _ _ h => h) (Or.inl ⟨by rfl, ?y101⟩) hHeld ?r101
            case y101 => (intro w' hSw; (try dsimp only at hSw); have q0 := bcl hSw hgl A0.out; have q1 := bcl hSw hgl A1.out; have q2 := bcl hSw hgl B0.out; have q3 := bcl hSw hgl B1.out; clear hSw; go_simp; try with_reducible rfl)
            simp only [Act.put, List.getElem_toArray, List.getElem_cons_zero, List.getElem_cons_succ, List.setIfInBounds_toArray, List.set_cons_zero, List.set_cons_succ]
            refine Still.takeBy (i := 1) [3, 2] (v := ?v102) (by kernel_rfl) (by kernel_rfl) rfl (by kernel_rfl) (by kernel_rfl) (by kernel_rfl) (fun _ _ _ h => h) (Or.inl ⟨by rfl, ?y102⟩) hHeld ?r102
            case y102 => (intro w' hSw; (try dsimp only at hSw); have q0 := bcl hSw hgl A0.out; have q1 := bcl hSw hgl A1.out; have q2 := bcl hSw hgl B0.out; have q3 := bcl hSw hgl B1.out; clear hSw; go_simp; try with_reducible rfl)
            simp only [Act.put, List.getElem_toArray, List.getElem_cons_zero, List.getElem_cons_succ, List.setIfInBounds_toArray, List.set_cons_zero, List.set_cons_succ]
            refine Still.takeBy (i := 2) [3] (v := ?v103) (by kernel_rfl) (by kernel_rfl) rfl (by kernel_rfl) (by kernel_rfl) (by kernel_rfl) (fun _ _ _ h => h) (Or.inl ⟨by rfl, ?y103⟩) hHeld ?r103
            case y103 => (intro w' hSw; (try dsimp only at hSw); have q0 := bcl hSw hgl A0.out; have q1 := bcl hSw hgl A1.out; have q2 := bcl hSw hgl B0.out; have q3 := bcl hSw hgl B1.out; clear hSw; go_simp; try with_reducible rfl)
            simp only [Act.put, List.getElem_toArray, List.getElem_cons_zero, List.getElem_cons_succ, List.setIfInBounds_toArray, List.set_cons_zero, List.set_cons_succ]
            refine Still.takeBy (i := 3) [] (v := ?v104) (by kernel_rfl) (by kernel_rfl) rfl (by kernel_rfl) (by kernel_rfl) (by kernel_rfl) (fun _ _ _ h => h) (Or.inl ⟨by rfl, ?y104⟩) hHeld ?r104
            case y104 => (intro w' hSw; (try dsimp only at hSw); have q0 := bcl hSw hgl A0.out; have q1 := bcl hSw hgl A1.out; have q2 := bcl hSw hgl B0.out; have q3 := bcl hSw hgl B1.out; clear hSw; go_simp; try with_reducible rfl)
            simp only [Act.put, List.getElem_toArray, List.getElem_cons_zero, List.getElem_cons_succ, List.setIfInBounds_toArray, List.set_cons_zero, List.set_cons_succ]
            refine Still.takeBy (i := 4) [8, 7] (v := ?v105) (by kernel_rfl) (by kernel_rfl) rfl (by kernel_rfl) (by kernel_rfl) (by kernel_rfl) (fun _ _ _ h => h) (Or.inl ⟨by rfl, ?y105⟩) hHeld ?r105
            case y105 => (intro w' hSw; (try dsimp only at hSw); have q0 := bcl hSw hgl A0.out; have q1 := bcl hSw hgl A1.out; have q2 := bcl hSw hgl B0.out; have q3 := bcl hSw hgl B1.out; clear hSw; go_simp; try with_reducible rfl)
            simp only [Act.put, List.getElem_toArray, List.getElem_cons_zero, List.getElem_cons_succ, List.setIfInBounds_toArray, List.set_cons_zero, List.set_cons_succ]
            refine Still.takeBy (i := 5) [8, 7, 6] (v := ?v106) (by kernel_rfl) (by kernel_rfl) rfl (by kernel_rfl) (by kernel_rfl) (by kernel_rfl) (fun _ _ _ h => h) (Or.inl ⟨by rfl, ?y106⟩) hHeld ?r106
            case y106 => (intro w' hSw; (try dsimp only at hSw); have q0 := bcl hSw hgl A0.out; have q1 := bcl hSw hgl A1.out; have q2 := bcl hSw hgl B0.out; have q3 := bcl hSw hgl B1.out; clear hSw; go_simp; try with_reducible rfl)
            simp only [Act.put, List.getElem_toArray, List.getElem_cons_zero, List.getElem_cons_succ, List.setIfInBounds_toArray, List.set_cons_zero, List.set_cons_succ]
            refine Still.takeBy (i := 6) [8, 7] (v := ?v107) (by kernel_rfl) (by kernel_rfl) rfl (by kernel_rfl) (by kernel_rfl) (by kernel_rfl) (fun _ _ _ h => h) (Or.inl ⟨by rfl, ?y107⟩) hHeld ?r107
            case y107 => (intro w' hSw; (try dsimp only at hSw); go_simp; (try simp only [HWq.out]); (try simp only [HQm.out]); try with_reducible rfl)
            simp only [Act.put, List.getElem_toArray, List.getElem_cons_zero, List.getElem_cons_succ, List.setIfInBounds_toArray, List.set_cons_zero, List.set_cons_succ]
            refine Still.takeBy (i := 7) [8] (v := ?v108) (by kernel_rfl) (by kernel_rfl) rfl (by kernel_rfl) (by kernel_rfl) (by kernel_rfl) (fun _ _ _ h => h) (Or.inl ⟨by rfl, ?y108⟩) hHeld ?r108
            case y108 => (intro w' hSw; (try dsimp only at hSw); have q0 := bcl hSw hgl A0.out; have q1 := bcl hSw hgl A1.out; have q2 := bcl hSw hgl B0.out; have q3 := bcl hSw hgl B1.out; clear hSw; go_simp; try with_reducible rfl)
            simp only [Act.put, List.getElem_toArray, List.getElem_cons_zero, List.getElem_cons_succ, List.setIfInBounds_toArray, List.set_cons_zero, List.set_cons_succ]
            refine Still.takeBy (i := 8) [] (v := ?v109) (by kernel_rfl) (by kernel_rfl) rfl (by kernel_rfl) (by kernel_rfl) (by kernel_rfl) (fun _ _ _ h => h) (Or.inl ⟨by rfl, ?y109⟩) hHeld ?r109
            case y109 => (intro w' hSw; (try dsimp only at hSw); have q0 := bcl hSw hgl A0.out; have q1 := bcl hSw hgl A1.out; have q2 := bcl hSw hgl B0.out; have q3 := bcl hSw hgl B1.out; clear hSw; go_simp; try with_reducible rfl)
            simp only [Act.put, List.getElem_toArray, List.getElem_cons_zero, List.getElem_cons_succ, List.setIfInBounds_toArray, List.set_cons_zero, List.set_cons_succ]
            refine Still.all (rs := [9]) (by kernel_rfl) (by simp) (Still.one (i := 9) rfl rfl (fun K hK => ?_) (by simp))
            have qe := eqE x.fr x.tt y.fr y.tt
            rw [HB.out] at qe
            go_simp
            refine hK _ _ (fun h => absurd rfl h) (fun _ => ?_)
            clear hK K
            refine Still.over (by kernel_rfl) ?_ _
            have C' := Lib.hid (CC.out.up hHeld)
            have a0 := bcl hHeld hgl A0.out
            have a1 := bcl hHeld hgl A1.out
            clear hHeld qe CC A0 A1 B0 B1
            have HTH := Lib.hid (C'.out.there hml)
            go_wp2_with (refine wpList_store_midF rfl 74 (.tmp 51) (.tmp 50) rfl g (off + m * 2) #[.int .i64 x.fr, .int .i64 x.tt] rfl rfl HTH.out sizeEdg (by simp [Value.oneCell']) ?_)
            intro W5 HW5
            have C5 : Hid (Cq w W5 g off (d.set m x)) := by
              show Cq _ _ _ _ _
              rw [HW5.out]
              exact C'.out.put hml x
            clear HW5 HTH C' a0 a1
            go_wp2
            go_roundw
            case rel => exact ⟨m + 1, q + 1, d.set m x, by go_num, by go_num, by omega, by omega, by omega, by omega, Lib.hid (by rw [List.length_set]; exact HDL.out), Lib.hid (by
              rw [show k + (q + 1) = k + q + 1 by omega, HUT.out, if_neg (Ne.symm HXY.out), ← HDT.out, List.take_succ_eq_append_getElem (by rw [List.length_set]; exact hml), List.take_set_of_le (Nat.le_refl _), List.getElem_set_self]), Lib.hid (fun j hj => by
              rw [List.getElem?_set_ne (by omega)]
              exact HDS.out j (by omega)), C5⟩
            case measure => simp [intOf]; omega
        · obtain rfl : q = r := by omega
          have hqi : ¬ (q : Int) < q := by omega
          have HUL : Hid (uniqE l = d.take m) := by
            show _ = _
            rw [HDT.out, ← HLK.out, List.take_length]
          have hml : m < d.length := by have := HDL.out; omega
          have hmi : (m : Int) ≤ l.length := by have := HLK.out; omega
          have hmi0 : (0 : Int) ≤ m := by omega
          have hmc : (m : Int) ≤ cap := by omega
          have hmn : 0 < l.length - m := by have := HDL.out; have := HLK.out; omega
          have HML : Hid ((d.take m).length = m) := by
            show _ = _
            simp
            omega
          have hdl : d.length = l.length := by have := HDL.out; have := HLK.out; omega
          have HIS := Lib.hid (show ∀ j, j < (l.length - m) * 2 → (wr.cell? ⟨g, off + m * 2 + j, none⟩).isSome = true from fun j hj => C.out.isSome (by omega))
          obtain ⟨⟨cur, hcur⟩, -⟩ := C.out.e
          have HFR := Lib.hid hcur.fr
          clear hcur hdl
          go_wp2_with (refine wpList_clear rfl (.tmp 56) 65 rfl 74 _ Tryz.underlying65 zeroEdg g (off + m * 2) (l.length - m) (cap - m) rfl hmn _ rfl (fun j hj => HIS.out j (by rw [zc_len] at hj; exact hj)) (fun j hj => HFR.out _) (zc_one _) ?_)
          intro W6 HW6
          have C6 : Hid (Cq w W6 g off (d.take m)) := by
            show Cq _ _ _ _ _
            rw [HW6.out]
            exact C.out.clear m _
          clear HW6 HIS HFR C
          go_wp2
          go_ret
          exact ⟨by rw [HUL.out, HML.out]; rfl, by rw [HUL.out]; exact C6.out.e, C6.out.b⟩
      · have HB : Hid ((x.fr == y.fr && x.tt == y.tt) = false) := by
          show _ = _
          cases hbb : (x.fr == y.fr && x.tt == y.tt) with
          | false => rfl
          | true =>
            simp at hbb
            exact absurd (by cases x; cases y; simp_all) hxy
        have HXY := Lib.hid hxy
        clear hxy
        go_wp2
        have CC := C
        clear C
        refine region_still (S := fun w' => RowKit.Below wr.heap.size wr w') 9 (by kernel_rfl) (RowKit.Below.refl _ _).drew (fun hHeld => ?_)
        refine Still.takeBy (i := 0) [3, 2] (v := ?v41) (by kernel_rfl) (by kernel_rfl) rfl (by kernel_rfl) (by kernel_rfl) (by kernel_rfl) (fun _ _ _ h => h) (Or.inl ⟨by rfl, ?y41⟩) hHeld ?r41
        case y41 => (intro w' hSw; (try dsimp only at hSw); have q0 := bcl hSw hgl A0.out; have q1 := bcl hSw hgl A1.out; have q2 := bcl hSw hgl B0.out; have q3 := bcl hSw hgl B1.out; clear hSw; go_simp; try with_reducible rfl)
        simp only [Act.put, List.getElem_toArray, List.getElem_cons_zero, List.getElem_cons_succ, List.setIfInBounds_toArray, List.set_cons_zero, List.set_cons_succ]
        refine Still.takeBy (i := 1) [3, 2] (v := ?v42) (by kernel_rfl) (by kernel_rfl) rfl (by kernel_rfl) (by kernel_rfl) (by kernel_rfl) (fun _ _ _ h => h) (Or.inl ⟨by rfl, ?y42⟩) hHeld ?r42
        case y42 => (intro w' hSw; (try dsimp only at hSw); have q0 := bcl hSw hgl A0.out; have q1 := bcl hSw hgl A1.out; have q2 := bcl hSw hgl B0.out; have q3 := bcl hSw hgl B1.out; clear hSw; go_simp; try with_reducible rfl)
        simp only [Act.put, List.getElem_toArray, List.getElem_cons_zero, List.getElem_cons_succ, List.setIfInBounds_toArray, List.set_cons_zero, List.set_cons_succ]
        refine Still.takeBy (i := 2) [3] (v := ?v43) (by kernel_rfl) (by kernel_rfl) rfl (by kernel_rfl) (by kernel_rfl) (by kernel_rfl) (fun _ _ _ h => h) (Or.inl ⟨by rfl, ?y43⟩) hHeld ?r43
        case y43 => (intro w' hSw; (try dsimp only at hSw); have q0 := bcl hSw hgl A0.out; have q1 := bcl hSw hgl A1.out; have q2 := bcl hSw hgl B0.out; have q3 := bcl hSw hgl B1.out; clear hSw; go_simp; try with_reducible rfl)
        simp only [Act.put, List.getElem_toArray, List.getElem_cons_zero, List.getElem_cons_succ, List.setIfInBounds_toArray, List.set_cons_zero, List.set_cons_succ]
        refine Still.takeBy (i := 3) [] (v := ?v44) (by kernel_rfl) (by kernel_rfl) rfl (by kernel_rfl) (by kernel_rfl) (by kernel_rfl) (fun _ _ _ h => h) (Or.inl ⟨by rfl, ?y44⟩) hHeld ?r44
        case y44 => (intro w' hSw; (try dsimp only at hSw); have q0 := bcl hSw hgl A0.out; have q1 := bcl hSw hgl A1.out; have q2 := bcl hSw hgl B0.out; have q3 := bcl hSw hgl B1.out; clear hSw; go_simp; try with_reducible rfl)
        simp only [Act.put, List.getElem_toArray, List.getElem_cons_zero, List.getElem_cons_succ, List.setIfInBounds_toArray, List.set_cons_zero, List.set_cons_succ]
        refine Still.takeBy (i := 4) [8, 7] (v := ?v45) (by kernel_rfl) (by kernel_rfl) rfl (by kernel_rfl) (by kernel_rfl) (by kernel_rfl) (fun _ _ _ h => h) (Or.inl ⟨by rfl, ?y45⟩) hHeld ?r45
        case y45 => (intro w' hSw; (try dsimp only at hSw); have q0 := bcl hSw hgl A0.out; have q1 := bcl hSw hgl A1.out; have q2 := bcl hSw hgl B0.out; have q3 := bcl hSw hgl B1.out; clear hSw; go_simp; try with_reducible rfl)
        simp only [Act.put, List.getElem_toArray, List.getElem_cons_zero, List.getElem_cons_succ, List.setIfInBounds_toArray, List.set_cons_zero, List.set_cons_succ]
        refine Still.takeBy (i := 5) [8, 7, 6] (v := ?v46) (by kernel_rfl) (by kernel_rfl) rfl (by kernel_rfl) (by kernel_rfl) (by kernel_rfl) (fun _ _ _ h => h) (Or.inl ⟨by rfl, ?y46⟩) hHeld ?r46
        case y46 => (intro w' hSw; (try dsimp only at hSw); have q0 := bcl hSw hgl A0.out; have q1 := bcl hSw hgl A1.out; have q2 := bcl hSw hgl B0.out; have q3 := bcl hSw hgl B1.out; clear hSw; go_simp; try with_reducible rfl)
        simp only [Act.put, List.getElem_toArray, List.getElem_cons_zero, List.getElem_cons_succ, List.setIfInBounds_toArray, List.set_cons_zero, List.set_cons_succ]
        refine Still.takeBy (i := 6) [8, 7] (v := ?v47) (by kernel_rfl) (by kernel_rfl) rfl (by kernel_rfl) (by kernel_rfl) (by kernel_rfl) (fun _ _ _ h => h) (Or.inl ⟨by rfl, ?y47⟩) hHeld ?r47
        case y47 => (intro w' hSw; (try dsimp only at hSw); go_simp; (try simp only [HWk.out]); (try simp only [HKm.out]); try with_reducible rfl)
        simp only [Act.put, List.getElem_toArray, List.getElem_cons_zero, List.getElem_cons_succ, List.setIfInBounds_toArray, List.set_cons_zero, List.set_cons_succ]
        refine Still.takeBy (i := 7) [8] (v := ?v48) (by kernel_rfl) (by kernel_rfl) rfl (by kernel_rfl) (by kernel_rfl) (by kernel_rfl) (fun _ _ _ h => h) (Or.inl ⟨by rfl, ?y48⟩) hHeld ?r48
        case y48 => (intro w' hSw; (try dsimp only at hSw); have q0 := bcl hSw hgl A0.out; have q1 := bcl hSw hgl A1.out; have q2 := bcl hSw hgl B0.out; have q3 := bcl hSw hgl B1.out; clear hSw; go_simp; try with_reducible rfl)
        simp only [Act.put, List.getElem_toArray, List.getElem_cons_zero, List.getElem_cons_succ, List.setIfInBounds_toArray, List.set_cons_zero, List.set_cons_succ]
        refine Still.takeBy (i := 8) [] (v := ?v49) (by kernel_rfl) (by kernel_rfl) rfl (by kernel_rfl) (by kernel_rfl) (by kernel_rfl) (fun _ _ _ h => h) (Or.inl ⟨by rfl, ?y49⟩) hHeld ?r49
        case y49 => (intro w' hSw; (try dsimp only at hSw); have q0 := bcl hSw hgl A0.out; have q1 := bcl hSw hgl A1.out; have q2 := bcl hSw hgl B0.out; have q3 := bcl hSw hgl B1.out; clear hSw; go_simp; try with_reducible rfl)
        simp only [Act.put, List.getElem_toArray, List.getElem_cons_zero, List.getElem_cons_succ, List.setIfInBounds_toArray, List.set_cons_zero, List.set_cons_succ]
        refine Still.all (rs := [9]) (by kernel_rfl) (by simp) (Still.one (i := 9) rfl rfl (fun K hK => ?_) (by simp))
        have qe := eqE x.fr x.tt y.fr y.tt
        rw [HB.out] at qe
        go_simp
        refine hK _ _ (fun h => absurd rfl h) (fun _ => ?_)
        clear hK K
        refine Still.over (by kernel_rfl) ?_ _
        have C' := Lib.hid (CC.out.up hHeld)
        clear hHeld qe CC
        go_wp2
        go_roundw
        case rel => exact ⟨k + 1, by go_num, by omega, by omega, Lib.hid (fun j h h' h1 => by
          rcases Nat.lt_or_ge j k with h2 | h2
          · exact HZ.out j h2 h' h1
          · obtain rfl : j = k := by omega
            rw [HX.out, HY.out]
            exact Ne.symm HXY.out), C'⟩
        case measure => simp [intOf]; omega
    · have hli : ¬ (k : Int) < l.length := by omega
      have HU : Hid (uniqE l = l) := by
        show _ = _
        have := uniq_same l l.length (Nat.le_refl _) (fun j h h' h1 => HZ.out j (by omega) h' h1)
        simpa using this
      go_wp2
      go_ret
      exact ⟨by rw [HU.out]; rfl, by rw [HU.out]; exact C.out.e, C.out.b⟩
end Go.Proofs.YtehhhiodfcdnmaaGreatDoor

namespace Go.Proofs.YtehhhiodfcdnmaaGreatDoor
set_option linter.unusedSimpArgs false
set_option linter.unusedVariables false
open Go.RowKit Go.Sort Go.Shelf Go.Lib
def chE (c : Chn) : List Edg := if c.kd = 2 then [⟨c.fr, c.tt⟩, ⟨c.tt, c.fr⟩] else [⟨c.fr, c.tt⟩]
def rawE : List Chn → List Edg
  | [] => []
  | c :: r => chE c ++ rawE r
theorem rawE_app : ∀ (a b : List Chn), rawE (a ++ b) = rawE a ++ rawE b
  | [], b => rfl
  | c :: r, b => by
    simp only [List.cons_append, rawE, rawE_app r b, List.append_assoc]
theorem rawE_len : ∀ (a : List Chn), (rawE a).length ≤ 2 * a.length
  | [] => by simp [rawE]
  | c :: r => by
    have := rawE_len r
    simp only [rawE, List.length_append, List.length_cons]
    have h2 : (chE c).length ≤ 2 := by unfold chE; split <;> simp
    omega
theorem infoEdg : (Tryz.prog.info? 74).map (fun i => (i.zero, i.size, i.bytes)) = some (some (.agg #[.int .i64 0, .int .i64 0]), 2, 16) := by kernel_rfl
theorem new_rangeE (w : World) (t : TypeId) (cs : Array Value) (g : Nat) (hg : g = w.heap.size) : ∀ j u, cs.toList[j]? = some u → (w.alloc (.cells cs t)).cell? ((⟨g, 0, none⟩ : Addr).add j) = some u := fun j u hj => by
  rw [Addr.add_mid, Nat.zero_add, hg, World.cell?_alloc_new]
  simpa using hj
theorem two_one (a b : Int) : ∀ u ∈ [Value.int .i64 a, .int .i64 b], u.oneCell' = true := fun u hu => by
  simp at hu
  rcases hu with rfl | rfl <;> rfl
theorem own_edm {w : World} {base : Nat} {v : Value} {l : List Edg} (h : w.ownsRow base 74 2 v l.length (rowC Edg.cells l)) (h0 : 0 < l.length) : ∃ g cap, v = .slice (some ⟨g, 0, none⟩) l.length cap ∧ base ≤ g ∧ l.length ≤ cap ∧ EdM w g 0 l := by
  have hsl := own_sl h
  obtain ⟨b, off, cap, e, hcap, hb, hc⟩ := hsl.open h0
  rcases h.2 with ⟨e0, _⟩ | ⟨g, cap', cur, e0, hg, hh, _⟩
  · rw [e0] at e
    cases e
  · rw [e0] at e
    injection e with e1 _ e2
    injection e1 with e1
    injection e1 with e1 e3
    subst e1 e2 e3
    refine ⟨_, _, e0, hg, hcap, ⟨cur, hh⟩, fun k hk => ⟨?_, ?_⟩⟩
    · exact hc (k * 2) _ (by
        have := rowC_at (s := 2) (f := Edg.cells) edg_len l k 0 hk (by decide)
        rw [Nat.add_zero] at this
        rw [this]
        rfl)
    · have := hc (k * 2 + 1) (.int .i64 l[k].tt) (by
        rw [rowC_at (s := 2) (f := Edg.cells) edg_len l k 1 hk (by decide)]
        rfl)
      rw [← Nat.add_assoc] at this
      exact this
end Go.Proofs.YtehhhiodfcdnmaaGreatDoor

namespace Go.Proofs.YtehhhiodfcdnmaaGreatDoor
set_option linter.unusedSimpArgs false
set_option linter.unusedVariables false
open Go.RowKit Go.Sort Go.Shelf Go.Lib
theorem sortFunc_nil (w : World) : Calls Tryz.prog 95 #[.slice none 0 0, .func (.func 96) #[] #[]] w fun e w' => e = .returned (.tuple #[]) ∧ w' = w := AnyF.slices_SortFunc_none Tryz.sortE none 0 _ w
theorem compact_nil (w : World) : Calls Tryz.prog 99 #[.slice none 0 0] w fun e w' => e = .returned (.slice none 0 0) ∧ w' = w := by
  go_enter Tryz.func99, Tryz.ntmps99
  go_wp2
  go_ret
  exact ⟨rfl, rfl⟩
def IsEdges (cs : List Chn) (l : List Edg) : Prop := ∃ r : List Edg, r.Perm (rawE cs) ∧ RiseE r ∧ l = uniqE r
theorem uniq_len : ∀ l : List Edg, (uniqE l).length ≤ l.length
  | [] => by simp [uniqE]
  | [a] => by simp [uniqE]
  | a :: b :: r => by
    have := uniq_len (b :: r)
    rw [uniqE]
    split
    · simp at this ⊢
      omega
    · simp at this ⊢
      omega
theorem edm_sl {w : World} {g cap : Nat} {l : List Edg} (h : EdM w g 0 l) (hcap : l.length ≤ cap) : Sl w 2 (.slice (some ⟨g, 0, none⟩) l.length cap) l.length (rowC Edg.cells l) := by
  refine ⟨by rw [rowC_len edg_len], some ⟨g, 0, none⟩, cap, rfl, hcap, fun _ => ⟨g, 0, rfl, h.lt, fun j u hj => ?_⟩⟩
  have hjl : j < l.length * 2 := by
    have := (List.getElem?_eq_some_iff.1 hj).1
    rwa [rowC_len edg_len] at this
  have hk : j / 2 < l.length := by omega
  have hr : j % 2 < 2 := by omega
  have hjk : j = j / 2 * 2 + j % 2 := by omega
  rw [hjk, rowC_at edg_len l (j / 2) (j % 2) hk hr] at hj
  have h2 : j % 2 = 0 ∨ j % 2 = 1 := by omega
  rcases h2 with e | e
  · rw [e] at hj
    have := (h.2 (j / 2) hk).1
    rw [show 0 + j = 0 + j / 2 * 2 by omega, this]
    exact hj
  · rw [e] at hj
    have := (h.2 (j / 2) hk).2
    rw [show 0 + j = 0 + j / 2 * 2 + 1 by omega, this]
    exact hj
theorem rowE_snoc (L : List Edg) (e : Edg) : rowC Edg.cells (L ++ [e]) = rowC Edg.cells L ++ [.int .i64 e.fr, .int .i64 e.tt] := by
  simp [rowC, Edg.cells]
theorem edge_grow {w wr W4 : World} {L : List Edg} {v v' : Value} {e : Edg} (HB : RowKit.Below w.heap.size w wr) (HO : wr.ownsRow w.heap.size 74 2 v L.length (rowC Edg.cells L)) (hgrow : wr.grownBy W4 v.ownBlock)
    (hown : W4.ownsRow w.heap.size 74 2 v' (L.length + 1) (rowC Edg.cells L ++ [.int .i64 e.fr, .int .i64 e.tt])) :
    W4.ownsRow w.heap.size 74 2 v' (L ++ [e]).length (rowC Edg.cells (L ++ [e])) ∧ RowKit.Below w.heap.size w W4 := by
  refine ⟨?_, HB.grown hgrow HB.size (own_block HO)⟩
  rw [rowE_snoc, List.length_append]
  exact hown
set_option maxRecDepth 100000 in
set_option maxHeartbeats 8000000 in
theorem edges_any (cs : List Chn) (v : Value) (hl : cs.length ≤ 6) (w : World) (hC : Sl w 3 v cs.length (rowC chC cs)) :
    Calls Tryz.prog 54 #[v] w fun e w' => ∃ v' l, e = .returned v' ∧ IsEdges cs l ∧ l.length ≤ 12 ∧ Sl w' 2 v' l.length (rowC Edg.cells l) ∧ RowKit.Below w.heap.size w w' := by
  obtain ⟨i1, hi1, hy0, hy1, hy2⟩ := info_parts infoEdg
  obtain ⟨va, vcap, rfl⟩ := hC.form
  have HC := Lib.hid hC
  clear hC
  go_enter Tryz.func54, Tryz.ntmps54
  go_wp2
  go_loopw [8, 3] (fun i l wr => ∃ (k : Nat), i = .int .i64 k ∧ k ≤ cs.length ∧ Hid (wr.ownsRow w.heap.size 74 2 l (rawE (cs.take k)).length (rowC Edg.cells (rawE (cs.take k)))) ∧ Hid (k = 0 → l = .slice none 0 0) ∧ Hid (RowKit.Below w.heap.size w wr)) (fun i _ _ => cs.length - (intOf i).toNat)
  case atStart => exact ⟨0, rfl, Nat.zero_le _, Lib.hid (World.ownsRow_nil _ _ _ _), Lib.hid (fun _ => rfl), Lib.hid (RowKit.Below.refl _ _)⟩
  case round =>
    obtain ⟨k, rfl, hk, HO, HNIL, HB⟩ := hrel
    by_cases hlt : k < cs.length
    · have hli : (k : Int) < cs.length := by omega
      have h0i : (0 : Int) ≤ k := by omega
      obtain ⟨b, off, cap, e1, hcap, hbw, hc⟩ := HC.out.open (by omega)
      cases e1
      obtain ⟨hkd, hfr, htt⟩ := chan_cells hc k hlt
      have hws := HB.out.size
      have c0 := bcl HB.out hbw hkd
      have c1 := bcl HB.out hbw hfr
      have c2 := bcl HB.out hbw htt
      have hbr : b < wr.heap.size := by omega
      have hbr' : b ≠ wr.heap.size := by omega
      have htk : rawE (cs.take (k + 1)) = rawE (cs.take k) ++ chE cs[k] := by
        rw [List.take_succ_eq_append_getElem hlt, rawE_app]
        simp [rawE]
      have hln := rawE_len (cs.take k)
      have hln2 : (cs.take k).length ≤ 6 := by simp; omega
      generalize hce : cs[k] = ch at c0 c1 c2 htk
      obtain ⟨kd, fr, tt⟩ := ch
      simp only at c0 c1 c2
      have HTK := Lib.hid htk
      obtain ⟨a3, c3, hform⟩ := own_form HO.out
      subst hform
      generalize hL : rawE (cs.take k) = L at HO HTK hln
      have HLN := Lib.hid (show L.length ≤ 12 by omega)
      have hlt' := own_lt HO.out
      have hbl' := own_block HO.out
      have HLT := Lib.hid hlt'
      have HBL := Lib.hid hbl'
      clear hkd hfr htt hc htk hln hln2 hce hL hlt' hbl' HNIL
      go_upto_region 5 with fail
      have HO2 := Lib.hid ((HO.out.alloc (.cells #[.int .i64 kd, .int .i64 fr, .int .i64 tt] 89)).alloc (.cells #[.int .i64 fr, .int .i64 tt] 74))
      have HB2 := Lib.hid ((HB.out.alloc hws (.cells #[.int .i64 kd, .int .i64 fr, .int .i64 tt] 89)).alloc (by simp; omega) (.cells #[.int .i64 fr, .int .i64 tt] 74))
      go_upto_region 6 with (at_builtin; refine wpList_append_lies _ rfl (.tmp 12) (.tmp 18) 65 rfl w.heap.size 74 i1 _ 2 16 Tryz.underlying65 hi1 hy0 hy1 hy2 rfl (by decide) _ L.length (rowC Edg.cells L) rfl HO2.out ⟨wr.heap.size+1,0,none⟩ 1 1 [.int .i64 fr, .int .i64 tt] rfl rfl (new_rangeE _ _ _ _ (by simp)) (two_one _ _) (by decide) (by have := HLN.out; unfold maxLen; omega) (by have := HLN.out; omega) (by simp; omega) _ rfl ?_)
      intro g4 cap4 W4 hown hgrow hat hg4
      have hx := edge_grow (e := ⟨fr, tt⟩) HB2.out HO2.out hgrow hown
      have HO4 := Lib.hid hx.1
      have HB4 := Lib.hid hx.2
      have hne : ∀ k, k = wr.heap.size → some k ≠ (Value.slice a3 L.length c3).ownBlock := fun k e e2 => by have := HLT.out k e2.symm; omega
      have d0 : W4.cell? ⟨wr.heap.size, 0, none⟩ = some (.int .i64 kd) := (hgrow.cell_far ⟨wr.heap.size, 0, none⟩ (by simp; omega) (hne _ rfl)).trans (by simp)
      have d1 : W4.cell? ⟨wr.heap.size, 1, none⟩ = some (.int .i64 fr) := (hgrow.cell_far ⟨wr.heap.size, 1, none⟩ (by simp; omega) (hne _ rfl)).trans (by simp)
      have d2 : W4.cell? ⟨wr.heap.size, 2, none⟩ = some (.int .i64 tt) := (hgrow.cell_far ⟨wr.heap.size, 2, none⟩ (by simp; omega) (hne _ rfl)).trans (by simp)
      have hw4 := HB4.out.size
      have hgs := hgrow.size
      simp at hgs
      have hlt4 : wr.heap.size < W4.heap.size := by omega
      have hne4 : wr.heap.size ≠ W4.heap.size := by omega
      clear hown hgrow hat hx hne c0 c1 c2 HO HO2 HB HB2 HLT HBL
      have hlen : (L ++ [(⟨fr, tt⟩ : Edg)]).length = L.length + 1 := by simp
      rw [hlen] at HO4
      clear hlen
      by_cases h2 : kd = 2
      · have htk2 : rawE (cs.take (k + 1)) = L ++ [⟨fr, tt⟩] ++ [⟨tt, fr⟩] := by
          rw [HTK.out]
          simp [chE, h2]
        have HTK2 := Lib.hid htk2
        clear htk2 HTK
        subst h2
        have HO5 := Lib.hid (HO4.out.alloc (.cells #[.int .i64 tt, .int .i64 fr] 74))
        have HB5 := Lib.hid (HB4.out.alloc hw4 (.cells #[.int .i64 tt, .int .i64 fr] 74))
        clear HO4 HB4
        generalize hL2 : L ++ [(⟨fr, tt⟩ : Edg)] = L2 at HO5 HTK2
        have HL2 : Hid (L2.length = L.length + 1) := by rw [← hL2]; exact Lib.hid (by simp)
        clear hL2
        go_upto_region 8 with (at_builtin; refine wpList_append_lies _ rfl (.tmp 23) (.tmp 29) 65 rfl w.heap.size 74 i1 _ 2 16 Tryz.underlying65 hi1 hy0 hy1 hy2 rfl (by decide) _ (L.length + 1) (rowC Edg.cells L2) rfl HO5.out ⟨W4.heap.size,0,none⟩ 1 1 [.int .i64 tt, .int .i64 fr] rfl rfl (new_rangeE _ _ _ _ rfl) (two_one _ _) (by decide) (by have := HLN.out; unfold maxLen; omega) (by have := HLN.out; omega) (by simp; omega) _ rfl ?_)
        intro g5 cap5 W5 hown hgrow hat hg5
        have hx := edge_grow (L := L2) (e := ⟨tt, fr⟩) HB5.out (by rw [HL2.out]; exact HO5.out) hgrow (by rw [HL2.out]; exact hown)
        have HO6 := Lib.hid hx.1
        have HB6 := Lib.hid hx.2
        clear hown hgrow hat hx HO5 HB5 d0 d1 d2
        go_wp2
        go_roundw
        case rel => exact ⟨k + 1, by go_num, by omega, by rw [HTK2.out]; exact HO6, Lib.hid (fun e => by omega), HB6⟩
        case measure => simp [intOf]; omega
      · have htk2 : rawE (cs.take (k + 1)) = L ++ [⟨fr, tt⟩] := by
          rw [HTK.out]
          simp [chE, h2]
        have HTK2 := Lib.hid htk2
        clear htk2 HTK
        go_wp2
        go_roundw
        case rel => exact ⟨k + 1, by go_num, by omega, by rw [HTK2.out]; exact (by rw [List.length_append]; exact HO4), Lib.hid (fun e => by omega), HB4⟩
        case measure => simp [intOf]; omega
    · have hli : ¬ (k : Int) < cs.length := by omega
      have hkl : k = cs.length := by omega
      have hraw : cs.take k = cs := List.take_of_length_le (by omega)
      rw [hraw] at HO
      have hln := rawE_len cs
      by_cases h0 : (rawE cs).length = 0
      · have hn0 : rawE cs = [] := List.length_eq_zero_iff.1 h0
        have hc0 : cs = [] := by
          cases cs with
          | nil => rfl
          | cons c r => simp [rawE, chE] at hn0; split at hn0 <;> simp at hn0
        have hk0 : k = 0 := by rw [hkl, hc0]; rfl
        have hln0 := HNIL.out hk0
        subst hln0
        clear HO HNIL hraw
        go_wp2_with (first | (go_at_call 95; refine (sortFunc_nil _).mono ?_; rintro e w2 ⟨rfl, rfl⟩) | (go_at_call 99; refine (compact_nil _).mono ?_; rintro e w2 ⟨rfl, rfl⟩))
        go_ret
        refine ⟨_, [], rfl, ⟨[], by rw [hn0], ?_, rfl⟩, by simp, ?_, HB.out⟩
        · unfold RiseE; simp
        · exact ⟨rfl, none, 0, rfl, Nat.le_refl _, fun h => absurd h (by simp)⟩
      · obtain ⟨g, cap, hv, hgw, hcap, hE⟩ := own_edm HO.out (by omega)
        subst hv
        have HE := Lib.hid hE
        clear hE HO HNIL hraw
        go_wp2_with (first | (go_at_call 95; refine (sortFunc_any _ _ _ _ _ HE.out (by omega)).mono ?_; rintro e w2 ⟨rfl, r, hperm, hrise, hEr, hbel⟩; have hpl := hperm.length_eq; have HER := Lib.hid hEr; have HRISE := Lib.hid hrise; have HBEL := Lib.hid hbel; have HPERM := Lib.hid hperm; clear hEr hrise hbel hperm HE) | (rw [← hpl]; go_at_call 99; refine (compact_any r _ _ _ (by omega) (by omega) _ HER.out).mono ?_; rintro e w3 ⟨rfl, hEu, hbel3⟩))
        go_ret
        have hul := uniq_len r
        refine ⟨_, uniqE r, rfl, ⟨r, HPERM.out, HRISE.out, rfl⟩, by omega, edm_sl hEu (by omega), (HB.out.trans (HBEL.out _ hgw)).trans (hbel3 _ hgw)⟩
end Go.Proofs.YtehhhiodfcdnmaaGreatDoor

namespace Go.Proofs.YtehhhiodfcdnmaaGreatDoor
set_option linter.unusedSimpArgs false
set_option linter.unusedVariables false
open Go.RowKit Go.Sort Go.Shelf Go.Lib
def leadB (a b : Int) (c : Chn) : Bool := (c.fr == a && c.tt == b) || (c.kd == 2 && c.fr == b && c.tt == a)
def leadsB (S : SysD) (a b : Int) : Bool := S.chans.any (leadB a b)
theorem leads_yes {S : SysD} {a b : Int} {k : Nat} (hk : k < S.chans.length) (h : leadB a b S.chans[k] = true) : leadsB S a b = true := List.any_eq_true.2 ⟨_, List.getElem_mem hk, h⟩
theorem leads_no {S : SysD} {a b : Int} (h : ∀ j (hj : j < S.chans.length), leadB a b S.chans[j] = false) : leadsB S a b = false := by
  unfold leadsB
  rw [List.any_eq_false]
  intro c hc
  obtain ⟨j, hj, rfl⟩ := List.getElem_of_mem hc
  rw [h j hj]
  decide
set_option maxRecDepth 100000 in
set_option maxHeartbeats 8000000 in
theorem leads_any (S : SysD) (hl : S.chans.length ≤ 6) (a b : Int) (vp vc vs : Value) (w : World) (hS : Sys w vp vc vs S) : Calls Tryz.prog 130 #[.agg #[vp, vc, vs], .int .i64 a, .int .i64 b] w fun e w' => e = .returned (.bool (leadsB S a b)) ∧ RowKit.Below w.heap.size w w' := by
  generalize hr : leadsB S a b = r
  have HR := Lib.hid hr
  obtain ⟨pa, pc, rfl⟩ := hS.p.form
  obtain ⟨ca, cc, rfl⟩ := hS.c.form
  obtain ⟨sa, sc, rfl⟩ := hS.s.form
  have HS := Lib.hid hS
  clear hS hr
  go_enter Tryz.func130, Tryz.ntmps130
  go_wp2
  go_loopw [7] (fun i wr => ∃ k : Nat, i = .int .i64 k ∧ k ≤ S.chans.length ∧ Hid (∀ j (h : j < S.chans.length), j < k → leadB a b S.chans[j] = false) ∧ Hid (Box wr w.heap.size (.slice pa S.parts.length pc) (.slice ca S.chans.length cc) (.slice sa S.slots.length sc)) ∧ Hid (RowKit.Below w.heap.size w wr)) (fun i _ => S.chans.length - (intOf i).toNat)
  case atStart => exact ⟨0, rfl, Nat.zero_le _, fun j hj h => by omega, box_new w _ _ _ _ _ rfl, (by repeat (first | exact Below.refl _ _ | assumption | refine Below.drew ?_ | refine Below.alloc ?_ (by first | (simp; done) | (simp; omega)) _ | refine Below.setCell ?_ (by first | (simp; done) | (simp; omega)) _))⟩
  case round =>
    obtain ⟨k, rfl, hk, HN, HB, HT⟩ := hrel
    have k0 := HB.out.c
    by_cases hlt : k < S.chans.length
    · have hli : (k : Int) < S.chans.length := by omega
      have h0i : (0 : Int) ≤ k := by omega
      obtain ⟨b', off, cap, e1, hcap, hbw, hc⟩ := HS.out.c.open (by omega)
      cases e1
      obtain ⟨hkd, hfr, htt⟩ := chan_cells hc k hlt
      have hws := HT.out.size
      have c0 := bcl HT.out hbw hkd
      have c1 := bcl HT.out hbw hfr
      have c2 := bcl HT.out hbw htt
      have hbr : b' < wr.heap.size := by omega
      have hbr' : b' ≠ wr.heap.size := by omega
      have hyes := Lib.hid (fun (h : leadB a b S.chans[k] = true) => (HR.out.symm.trans (leads_yes hlt h)))
      have hno : Hid (leadB a b S.chans[k] = false → ∀ j (h : j < S.chans.length), j < k + 1 → leadB a b S.chans[j] = false) := Lib.hid (fun h j hj hjk => by
        by_cases e : j = k
        · subst e; exact h
        · exact HN.out j hj (by omega))
      generalize S.chans[k] = ch at c0 c1 c2 hyes hno
      obtain ⟨kd, fr, tt⟩ := ch
      simp only at c0 c1 c2
      clear hkd hfr htt hc HN
      by_cases h1 : fr = a
      · subst h1
        by_cases h2 : tt = b
        · subst h2
          go_wp2
          go_ret
          exact ⟨by rw [hyes.out (by simp [leadB])]; rfl, HT.out.alloc hws _⟩
        · by_cases h3 : kd = 2
          · subst h3
            by_cases h4 : fr = b
            · subst h4
              go_wp2
              go_roundw
              case rel => exact ⟨k + 1, by go_num, by omega, Lib.hid (hno.out (by simp [leadB, h2])), Lib.hid (HB.out.up ((RowKit.Below.refl _ _).alloc (Nat.le_refl _) _)), Lib.hid (HT.out.alloc hws _)⟩
              case measure => simp [intOf]; omega
            · go_wp2
              go_roundw
              case rel => exact ⟨k + 1, by go_num, by omega, Lib.hid (hno.out (by simp [leadB, h2, h4])), Lib.hid (HB.out.up ((RowKit.Below.refl _ _).alloc (Nat.le_refl _) _)), Lib.hid (HT.out.alloc hws _)⟩
              case measure => simp [intOf]; omega
          · go_wp2
            go_roundw
            case rel => exact ⟨k + 1, by go_num, by omega, Lib.hid (hno.out (by simp [leadB, h2, h3])), Lib.hid (HB.out.up ((RowKit.Below.refl _ _).alloc (Nat.le_refl _) _)), Lib.hid (HT.out.alloc hws _)⟩
            case measure => simp [intOf]; omega
      · by_cases h3 : kd = 2
        · subst h3
          by_cases h4 : fr = b
          · subst h4
            by_cases h5 : tt = a
            · subst h5
              go_wp2
              go_ret
              exact ⟨by rw [hyes.out (by simp [leadB])]; rfl, HT.out.alloc hws _⟩
            · go_wp2
              go_roundw
              case rel => exact ⟨k + 1, by go_num, by omega, Lib.hid (hno.out (by simp [leadB, h1, h5])), Lib.hid (HB.out.up ((RowKit.Below.refl _ _).alloc (Nat.le_refl _) _)), Lib.hid (HT.out.alloc hws _)⟩
              case measure => simp [intOf]; omega
          · go_wp2
            go_roundw
            case rel => exact ⟨k + 1, by go_num, by omega, Lib.hid (hno.out (by simp [leadB, h1, h4])), Lib.hid (HB.out.up ((RowKit.Below.refl _ _).alloc (Nat.le_refl _) _)), Lib.hid (HT.out.alloc hws _)⟩
            case measure => simp [intOf]; omega
        · go_wp2
          go_roundw
          case rel => exact ⟨k + 1, by go_num, by omega, Lib.hid (hno.out (by simp [leadB, h1, h3])), Lib.hid (HB.out.up ((RowKit.Below.refl _ _).alloc (Nat.le_refl _) _)), Lib.hid (HT.out.alloc hws _)⟩
          case measure => simp [intOf]; omega
    · have hli : ¬ (k : Int) < S.chans.length := by omega
      have hno := leads_no (fun j hj => HN.out j hj (by omega))
      go_wp2
      go_ret
      exact ⟨by rw [← HR.out, hno]; rfl, HT.out⟩
end Go.Proofs.YtehhhiodfcdnmaaGreatDoor

namespace Go.Proofs.YtehhhiodfcdnmaaGreatDoor
set_option linter.unusedSimpArgs false
set_option linter.unusedVariables false
open Go.RowKit Go.Sort Go.Shelf Go.Lib
def rowL (S : SysD) (a : Nat) (m : Nat) : List Edg := ((List.range m).filter fun (b : Nat) => leadsB S a b).map fun (b : Nat) => ⟨a, b⟩
def outL (S : SysD) (n : Nat) (k : Nat) : List Edg := (List.range k).flatMap fun a => rowL S a n
def edgesL (S : SysD) : List Edg := outL S S.parts.length S.parts.length
theorem rowL_step (S : SysD) (a m : Nat) : rowL S a (m + 1) = rowL S a m ++ if leadsB S a m then [⟨a, m⟩] else [] := by
  unfold rowL
  rw [List.range_succ, List.filter_append, List.map_append]
  congr 1
  by_cases h : leadsB S a m = true
  · simp [h]
  · simp [h]
theorem outL_step (S : SysD) (n k : Nat) : outL S n (k + 1) = outL S n k ++ rowL S k n := by
  unfold outL
  rw [List.range_succ, List.flatMap_append]
  simp
theorem own_upF {w w' : World} {base : Nat} {e : TypeId} {size : Nat} {v : Value} {n : Nat} {xs : List Value} (h : w.ownsRow base e size v n xs) (hb : RowKit.Below w.heap.size w w') : w'.ownsRow base e size v n xs := by
  have hlt := h.lt
  refine ⟨h.1, ?_⟩
  rcases h.2 with hn | ⟨g, cap, cur, rfl, hg, hh, r⟩
  · exact .inl hn
  · exact .inr ⟨g, cap, cur, rfl, hg, by rw [hb.block g (hlt g rfl).2]; exact hh, r⟩
end Go.Proofs.YtehhhiodfcdnmaaGreatDoor

namespace Go.Proofs.YtehhhiodfcdnmaaGreatDoor
set_option linter.unusedSimpArgs false
set_option linter.unusedVariables false
open Go.RowKit Go.Sort Go.Shelf Go.Lib
def ltE (x y : Edg) : Prop := x.fr < y.fr ∨ (x.fr = y.fr ∧ x.tt < y.tt)
theorem ltE_irr {x : Edg} (h : ltE x x) : False := by unfold ltE at h; omega
theorem ltE_trans {x y z : Edg} (h : ltE x y) (h2 : ltE y z) : ltE x z := by unfold ltE at *; omega
theorem ltOf_E (x y : Edg) : ltOf cmpE x y = true ↔ ltE x y := by
  unfold ltOf cmpE orI cmpI ltE
  rw [decide_eq_true_iff]
  repeat' split
  all_goals omega
theorem eq_of_rise : ∀ (l1 l2 : List Edg), l1.Pairwise ltE → l2.Pairwise ltE → (∀ x, x ∈ l1 ↔ x ∈ l2) → l1 = l2
  | [], [], _, _, _ => rfl
  | [], b :: r, _, _, h => absurd ((h b).2 (by simp)) (by simp)
  | a :: r, [], _, _, h => absurd ((h a).1 (by simp)) (by simp)
  | a :: r1, b :: r2, h1, h2, h => by
    rw [List.pairwise_cons] at h1 h2
    have ha : a ∈ b :: r2 := (h a).1 (by simp)
    have hb : b ∈ a :: r1 := (h b).2 (by simp)
    have hab : a = b := by
      rcases List.mem_cons.1 ha with e | ha
      · exact e
      · rcases List.mem_cons.1 hb with e | hb
        · exact e.symm
        · exact absurd (ltE_trans (h2.1 a ha) (h1.1 b hb)) (fun h => ltE_irr h)
    subst hab
    congr 1
    refine eq_of_rise r1 r2 h1.2 h2.2 fun x => ⟨fun hx => ?_, fun hx => ?_⟩
    · rcases List.mem_cons.1 ((h x).1 (List.mem_cons_of_mem _ hx)) with e | hx2
      · subst e
        exact absurd (h1.1 x hx) (fun h => ltE_irr h)
      · exact hx2
    · rcases List.mem_cons.1 ((h x).2 (List.mem_cons_of_mem _ hx)) with e | hx2
      · subst e
        exact absurd (h2.1 x hx) (fun h => ltE_irr h)
      · exact hx2
theorem uniq_mem : ∀ (l : List Edg) (x : Edg), x ∈ uniqE l ↔ x ∈ l
  | [], x => by simp [uniqE]
  | [a], x => by simp [uniqE]
  | a :: b :: r, x => by
    have ih := uniq_mem (b :: r) x
    rw [uniqE]
    split
    · rename_i e
      subst e
      rw [ih]
      simp
    · rw [List.mem_cons, ih, List.mem_cons (a := x) (b := a)]
def leE (x y : Edg) : Prop := ¬ ltE y x
theorem uniq_rise : ∀ (l : List Edg), l.Pairwise leE → (uniqE l).Pairwise ltE
  | [], _ => by simp [uniqE]
  | [a], _ => by simp [uniqE]
  | a :: b :: r, h => by
    have h' := List.pairwise_cons.1 h
    have ih := uniq_rise (b :: r) h'.2
    rw [uniqE]
    split
    · exact ih
    · rename_i hne
      rw [List.pairwise_cons]
      refine ⟨fun x hx => ?_, ih⟩
      have hx := (uniq_mem _ _).1 hx
      have hab : ltE a b := by
        have := h'.1 b (by simp)
        unfold leE ltE at this
        unfold ltE
        have hn : ¬ (a.fr = b.fr ∧ a.tt = b.tt) := fun e => hne (by cases a; cases b; simp at e; simp [e])
        omega
      rcases List.mem_cons.1 hx with e | hx2
      · exact e ▸ hab
      · have h3 := (List.pairwise_cons.1 h'.2).1 x hx2
        unfold leE at h3
        unfold ltE at *
        omega
theorem rise_pair {l : List Edg} (h : RiseE l) : l.Pairwise leE := by
  rw [List.pairwise_iff_getElem]
  intro i j hi hj hij
  have := h i j hij hj
  unfold leE
  intro h2
  have := (ltOf_E _ _).2 h2
  simp_all
theorem rowL_mem {S : SysD} {a m : Nat} {x : Edg} : x ∈ rowL S a m ↔ x.fr = a ∧ ∃ b : Nat, b < m ∧ x.tt = b ∧ leadsB S a b = true := by
  unfold rowL
  rw [List.mem_map]
  constructor
  · rintro ⟨b, hb, rfl⟩
    rw [List.mem_filter, List.mem_range] at hb
    exact ⟨rfl, b, hb.1, rfl, hb.2⟩
  · rintro ⟨h1, b, hb, h2, h3⟩
    exact ⟨b, by rw [List.mem_filter, List.mem_range]; exact ⟨hb, h3⟩, by cases x; simp at h1 h2; simp [h1, h2]⟩
theorem rowL_rise (S : SysD) (a : Nat) : ∀ m, (rowL S a m).Pairwise ltE
  | 0 => by simp [rowL]
  | m + 1 => by
    rw [rowL_step, List.pairwise_append]
    refine ⟨rowL_rise S a m, by split <;> simp, fun x hx y hy => ?_⟩
    obtain ⟨h1, b, hb, h2, _⟩ := rowL_mem.1 hx
    split at hy
    · simp at hy
      subst hy
      unfold ltE
      simp only
      omega
    · simp at hy
theorem outL_mem {S : SysD} {n k : Nat} {x : Edg} : x ∈ outL S n k ↔ ∃ a b : Nat, a < k ∧ b < n ∧ x = ⟨a, b⟩ ∧ leadsB S a b = true := by
  unfold outL
  rw [List.mem_flatMap]
  constructor
  · rintro ⟨a, ha, hx⟩
    obtain ⟨h1, b, hb, h2, h3⟩ := rowL_mem.1 hx
    exact ⟨a, b, List.mem_range.1 ha, hb, by cases x; simp at h1 h2; simp [h1, h2], h3⟩
  · rintro ⟨a, b, ha, hb, rfl, h3⟩
    exact ⟨a, List.mem_range.2 ha, rowL_mem.2 ⟨rfl, b, hb, rfl, h3⟩⟩
theorem outL_rise (S : SysD) (n : Nat) : ∀ k, (outL S n k).Pairwise ltE
  | 0 => by simp [outL]
  | k + 1 => by
    rw [outL_step, List.pairwise_append]
    refine ⟨outL_rise S n k, rowL_rise S k n, fun x hx y hy => ?_⟩
    obtain ⟨a, b, ha, hb, rfl, _⟩ := outL_mem.1 hx
    obtain ⟨h1, _⟩ := rowL_mem.1 hy
    unfold ltE
    simp only
    omega
theorem rawE_mem : ∀ {cs : List Chn} {x : Edg}, x ∈ rawE cs ↔ ∃ c ∈ cs, leadB x.fr x.tt c = true
  | [], x => by simp [rawE]
  | c :: r, x => by
    have ih := rawE_mem (cs := r) (x := x)
    rw [rawE, List.mem_append, ih]
    have hc : x ∈ chE c ↔ leadB x.fr x.tt c = true := by
      obtain ⟨kd, fr, tt⟩ := c
      obtain ⟨xf, xt⟩ := x
      unfold chE leadB
      by_cases h : kd = 2
      · simp [h]
        omega
      · simp [h]
        omega
    simp [hc]
def EndsIn (S : SysD) : Prop := ∀ c ∈ S.chans, 0 ≤ c.fr ∧ c.fr < S.parts.length ∧ 0 ≤ c.tt ∧ c.tt < S.parts.length
theorem edges_eq {S : SysD} (hE : EndsIn S) {l : List Edg} (h : IsEdges S.chans l) : l = edgesL S := by
  obtain ⟨r, hperm, hrise, rfl⟩ := h
  refine eq_of_rise _ _ (uniq_rise _ (rise_pair hrise)) (outL_rise S _ _) fun x => ?_
  rw [uniq_mem, hperm.mem_iff, rawE_mem, edgesL, outL_mem]
  constructor
  · rintro ⟨c, hc, hl⟩
    obtain ⟨e1, e2, e3, e4⟩ := hE c hc
    have hx : 0 ≤ x.fr ∧ x.fr < S.parts.length ∧ 0 ≤ x.tt ∧ x.tt < S.parts.length := by
      unfold leadB at hl
      simp at hl
      omega
    refine ⟨x.fr.toNat, x.tt.toNat, by omega, by omega, by cases x; simp at hx; simp; omega, ?_⟩
    rw [Int.toNat_of_nonneg hx.1, Int.toNat_of_nonneg hx.2.2.1]
    exact List.any_eq_true.2 ⟨c, hc, hl⟩
  · rintro ⟨a, b, ha, hb, rfl, hl⟩
    obtain ⟨c, hc, h2⟩ := List.any_eq_true.1 hl
    exact ⟨c, hc, h2⟩
end Go.Proofs.YtehhhiodfcdnmaaGreatDoor

/- ref.OwnWorld. -/
import Derived.Test.YtnnnljfdjdehaaaDoorKn8
import Derived.Test.YtnnnljfdjdehaaaDoorJ5
import Derived.Test.YtnnnljfdjdehaaaDoorJ1
namespace Go.Proofs.YtnnnljfdjdehaaaDoor
set_option linter.unusedSimpArgs false
set_option linter.unusedVariables false
open Go.RowKit Go.Sort

theorem wp_buildOne {P : Program} {o : Oper} {a : Act} {w : World} {K : Act → World → Prop} {Q : Exit → Act → World → Prop} (t e : TypeId) (x : Operand) (ho : o.op = .buildSlice t 1 #[(0, x)])
    (cs : Array Value) (hx : a.eval x = .agg cs) (hu : P.underlying t = some (.slice e)) (hsz : (P.info? e).map (·.size) = some cs.size) (hz : ((P.info? e).bind (·.zero)).isSome = true) (hpos : 0 < cs.size) (hsmall : cs.size ≤ 2 ^ 24)
    (h : K (a.put o.dst (.slice (some ⟨w.heap.size, 0, none⟩) 1 1)) (w.alloc (.cells cs e))) : o.wp P a w K Q := by
  cases hie : P.info? e with
  | none => simp [hie] at hsz
  | some ie =>
    simp only [hie, Option.map_some, Option.some.injEq, Option.bind_some] at hsz hz
    obtain ⟨z, hzz⟩ := Option.isSome_iff_exists.1 hz
    refine wp_buildSlice t e 1 _ ho cs ie z hu hie hzz (by omega) (by omega) ?_ h
    have hf := Great.fill_whole (s := ie.size) (by omega) [.agg cs] ((Array.range (1 * ie.size)).map (z.cells[· % z.cells.size]!)) (fun v hv => by simp at hv; subst hv; simpa [Value.cells] using hsz.symm) (by simp)
    simpa [hx, Value.cells] using hf
end Go.Proofs.YtnnnljfdjdehaaaDoor

namespace Go.Proofs.YtnnnljfdjdehaaaDoor
set_option linter.unusedSimpArgs false
set_option linter.unusedVariables false
open Go.RowKit Go.Sort

theorem entRcell : Enters 82 := enters Tryd.func82 (by kernel_rfl) (by kernel_rfl)
theorem entRlist : Enters 83 := enters Tryd.func83 (by kernel_rfl) (by kernel_rfl)
/-- So many of n were read. -/
def Got {α : Type} (f : List Int → Option (α × List Int)) (n : Nat) (q0 : List Int) (ds : List α) (q : List Int) : Prop := ∃ j, ds.length + j = n ∧ manyD f n q0 = (manyD f j q).map fun p => (ds ++ p.1, p.2)
section
variable {α : Type} {f : List Int → Option (α × List Int)} {n : Nat} {q0 q r : List Int} {ds : List α} {d : α}
theorem Got.start : Got f n q0 [] q0 := ⟨n, by simp, by cases manyD f n q0 <;> simp⟩
theorem Got.next (h : Got f n q0 ds q) (hl : ds.length < n) (hf : f q = some (d, r)) : Got f n q0 (ds ++ [d]) r := by
  obtain ⟨j, h1, h2⟩ := h
  obtain ⟨i, rfl⟩ : ∃ i, j = i + 1 := ⟨j - 1, by omega⟩
  refine ⟨i, by simp; omega, h2.trans ?_⟩
  rw [manyD_some hf]
  cases manyD f i r <;> simp
theorem Got.none (h : Got f n q0 ds q) (hl : ds.length < n) (hf : f q = none) : manyD f n q0 = none := by
  obtain ⟨j, h1, h2⟩ := h
  obtain ⟨i, rfl⟩ : ∃ i, j = i + 1 := ⟨j - 1, by omega⟩
  rw [h2, manyD_none hf]
  rfl
theorem Got.done (h : Got f n q0 ds q) (hl : ds.length = n) : manyD f n q0 = some (ds, q) := by
  obtain ⟨j, h1, h2⟩ := h
  obtain rfl : j = 0 := by omega
  rw [h2, manyD]
  simp
end
theorem worldD_noC {n m : Nat} {t : Int} {q : List Int} (h : manyD cellD n q = none) : worldD n m (t :: q) = none := by simp [worldD, h]
theorem worldD_noL {n m : Nat} {t : Int} {q q1 : List Int} {ds : List CelD} (h : manyD cellD n q = some (ds, q1)) (h' : manyD (listD 3) m q1 = none) : worldD n m (t :: q) = none := by simp [worldD, h, h']
theorem worldD_yes {n m : Nat} {t : Int} {q q1 q2 : List Int} {ds : List CelD} {ls : List (List Int)} (h : manyD cellD n q = some (ds, q1)) (h' : manyD (listD 3) m q1 = some (ls, q2)) : worldD n m (t :: q) = some (⟨t, ds, ls⟩, q2) := by simp [worldD, h, h']
theorem One.grown {g : Nat} {w w' : World} (h : One g w w') : w.grownBy w' (some g) := ⟨h.b.os, h.b.tape, h.b.output, h.b.size, fun k hk hne => h.k k hk (fun e => hne (e ▸ rfl))⟩
theorem NewV.one {B G g : Nat} {w w' : World} {vc vl : Value} {cs : List CelD} {ls : List (List Int)} (h : NewV B G w vc vl cs ls) (ho : One g w w') (hg : g < B) : NewV B G w' vc vl cs ls := by
  obtain ⟨⟨ps, p1, p2, p3⟩, ⟨vs, q1, q2, q3⟩, a⟩ := h
  have hgr := ho.grown
  have no : ∀ k, B ≤ k → some g ≠ some k := fun k hk e => by injection e with e; omega
  exact ⟨⟨ps, p1, own_growK p2 hgr (fun k e => no k (own_block p2 k e)), fun k hk hk' => ⟨(p3 k hk hk').1, sl_growK (p3 k hk hk').2.1 hgr (fun b e => no b ((p3 k hk hk').2.2 b e).1.1), (p3 k hk hk').2.2.up ho.b.size⟩⟩,
    ⟨vs, q1, own_growK q2 hgr (fun k e => no k (own_block q2 k e)), fun k hk hk' => ⟨sl_growK (q3 k hk hk').1 hgr (fun b e => no b ((q3 k hk hk').2 b e).1.1), (q3 k hk hk').2.up ho.b.size⟩⟩, a⟩
/-- A world that is being read, at b. -/
structure Cr (w W : World) (g b : Nat) (wr : World) (tick : Int) (vc vl : Value) (cs : List CelD) (ls : List (List Int)) (q : List Int) : Prop where
  d : One g W wr
  r2 : Rw wr W.heap.size 30 #[.int .i64 0, .slice none 0 0, .slice none 0 0]
  r3 : Rw wr b 30 #[.int .i64 tick, vc, vl]
  n : NewV (b + 1) 0 wr vc vl cs ls
  r : Rdr w wr g q
  lt : g < W.heap.size
  lb : W.heap.size < b
section
variable {w W wr wr' : World} {g b : Nat} {tick : Int} {vc vl vc' vl' : Value} {cs cs' : List CelD} {ls ls' : List (List Int)} {q q' : List Int}
theorem Cr.z (h : Cr w W g b wr tick vc vl cs ls q) : b + 1 ≤ wr.heap.size := h.r3.lt
theorem Cr.up (h : Cr w W g b wr tick vc vl cs ls q) (hb : Below wr.heap.size wr wr') : Cr w W g b wr' tick vc vl cs ls q :=
  ⟨h.d.trans (One.up hb (by have := h.lt; have := h.d.b.size; omega)), h.r2.up hb h.r2.lt, h.r3.up hb h.r3.lt, h.n.up hb, h.r.up hb, h.lt, h.lb⟩
theorem Cr.call (h : Cr w W g b wr tick vc vl cs ls q) (ho : One g wr wr') (hr : Rdr w wr' g q') : Cr w W g b wr' tick vc vl cs ls q' :=
  ⟨h.d.trans ho, ho.rw h.r2 (by have := h.lt; omega), ho.rw h.r3 (by have := h.lt; have := h.lb; omega), h.n.one ho (by have := h.lt; have := h.lb; omega), hr, h.lt, h.lb⟩
theorem Cr.grow (h : Cr w W g b wr tick vc vl cs ls q) (hgr : wr.grownBy wr' vc.ownBlock) (hn : NewV (b + 1) 0 wr' vc' vl cs' ls) :
    Cr w W g b (wr'.setCell ⟨b, 1, none⟩ vc') tick vc' vl cs' ls q ∧ Rw wr' b 30 #[.int .i64 tick, vc, vl] := by
  have b1 : Below (b + 1) wr wr' := (Below.refl _ _).grown hgr h.z (fun k e => (h.n.ltC k e).1)
  have b2 : Below b wr (wr'.setCell ⟨b, 1, none⟩ vc') := (b1.mono (by omega)).setCell (by simp) _
  have r3 := h.r3.up b1 (by omega)
  have h1 := h.lt
  have h2 := h.lb
  exact ⟨⟨h.d.via b2 (by omega) h1, h.r2.up b2 h2, r3.set 1 _, hn.set (by omega) _, h.r.via b2 (by omega), h1, h2⟩, r3⟩
theorem Cr.growL (h : Cr w W g b wr tick vc vl cs ls q) (hgr : wr.grownBy wr' vl.ownBlock) (hn : NewV (b + 1) 0 wr' vc vl' cs ls') :
    Cr w W g b (wr'.setCell ⟨b, 2, none⟩ vl') tick vc vl' cs ls' q ∧ Rw wr' b 30 #[.int .i64 tick, vc, vl] := by
  have b1 : Below (b + 1) wr wr' := (Below.refl _ _).grown hgr h.z (fun k e => (h.n.ltL k e).1)
  have b2 : Below b wr (wr'.setCell ⟨b, 2, none⟩ vl') := (b1.mono (by omega)).setCell (by simp) _
  have r3 := h.r3.up b1 (by omega)
  have h1 := h.lt
  have h2 := h.lb
  exact ⟨⟨h.d.via b2 (by omega) h1, h.r2.up b2 h2, r3.set 2 _, hn.set (by omega) _, h.r.via b2 (by omega), h1, h2⟩, r3⟩
end
set_option maxRecDepth 100000 in
set_option maxHeartbeats 8000000 in
theorem rworld_any (n m : Nat) (hn : n ≤ 4) (hm : m ≤ 6) (w W : World) (g : Nat) (xs : List Int) (h : Rdr w W g xs) :
    Calls Tryd.prog 55 #[.pointer (some ⟨g, 0, none⟩), .int .i64 (n : Int), .int .i64 (m : Int)] W fun e w' => (worldD n m xs = none ∧ e = .panicked wrongE ∧ Below g W w') ∨
      (∃ D r, worldD n m xs = some (D, r) ∧ ∃ vc vl, e = .returned (.agg #[.int .i64 D.tick, vc, vl]) ∧ NewV W.heap.size 0 w' vc vl D.cells D.lines ∧ Rdr w w' g r ∧ One g W w') := by
  have hgl : g < W.heap.size := by obtain ⟨u, hr, _⟩ := h.r; exact hr.lt
  obtain ⟨i1, hi1, hy0, hy1, hy2⟩ := info_parts infoCell
  obtain ⟨i2, hi2, hx0, hx1, hx2⟩ := info_parts infoLine
  go_enter Tryd.func55, Tryd.ntmps55
  go_wp2_with fail
  refine (number_or w _ g _ (h.up ((Below.refl _ _).alloc (Nat.le_refl _) _))).mono ?_
  rintro e w1 (⟨tick, q, rfl, rfl, hr, ho⟩ | ⟨rfl, rfl, hb⟩)
  rotate_left
  · exact post_panic rfl (.inl ⟨rfl, rfl, ((Below.refl _ _).alloc (by omega) _).trans (hb.mono (by simp; omega))⟩)
  have z1 := ho.b.size
  simp at z1
  have R2 : Rw w1 W.heap.size 30 #[.int .i64 0, .slice none 0 0, .slice none 0 0] := ho.rw (Rw.new _ _ _ rfl) (by omega)
  have HC : Hid (Cr w W g w1.heap.size (w1.alloc (.cells #[.int .i64 tick, .slice none 0 0, .slice none 0 0] 30)) tick (.slice none 0 0) (.slice none 0 0) [] [] q) := Lib.hid ⟨(One.up ((Below.refl _ _).alloc (Nat.le_refl _) _) (by omega)).trans (ho.trans (One.up ((Below.refl _ _).alloc (Nat.le_refl _) _) (by omega))), R2.alloc _, Rw.new _ _ _ rfl, NewV.nil _ _ _, hr.up ((Below.refl _ _).alloc (Nat.le_refl _) _), hgl, z1⟩
  clear h hr ho R2
  go_wp2
  go_loopw [12] (fun i wr => ∃ k : Nat, i = .int .i64 k ∧ k ≤ n ∧ Hid (∃ vc ds q', ds.length = k ∧ Got cellD n q ds q' ∧ Cr w W g w1.heap.size wr tick vc (.slice none 0 0) ds [] q')) (fun i _ => n - (intOf i).toNat)
  case atStart => exact ⟨0, rfl, Nat.zero_le _, Lib.hid ⟨_, [], q, rfl, Got.start, by first | exact HC.out | trace_state⟩⟩
  case round =>
    clear HC
    obtain ⟨k, rfl, hk, HC⟩ := hrel
    obtain ⟨vc, l, q1, hlk, hgot, hC⟩ := HC.out
    clear HC
    have HLL := Lib.hid hlk
    have HG := Lib.hid hgot
    obtain ⟨a3, c3, rfl⟩ := hC.n.formC
    have CP := Lib.hid hC
    clear hlk hgot hC
    by_cases hlt : k < n
    · have hli : (k : Int) < n := by omega
      go_wp2
      refine region_still (S := fun w' => Rw w' w1.heap.size 30 #[.int .i64 tick, .slice a3 l.length c3, .slice none 0 0]) 7 (by kernel_rfl) CP.out.r3.drew (fun hHeld => ?_)
      refine Still.takeBy (i := 0) [] (v := ?v11) (by kernel_rfl) (by kernel_rfl) rfl (by kernel_rfl) (by kernel_rfl) (by kernel_rfl) (fun _ _ _ h => h) (Or.inl ⟨by rfl, ?y11⟩) hHeld ?r11
      case y11 => (intro w' hSw; (try dsimp only at hSw); have q1 := hSw.cell (j := 1) (v := .slice a3 l.length c3) rfl; clear hSw; go_simp; try with_reducible rfl)
      simp only [Act.put, List.getElem_toArray, List.getElem_cons_zero, List.getElem_cons_succ, List.setIfInBounds_toArray, List.set_cons_zero, List.set_cons_succ]
      refine Still.takeBy (i := 1) [] (v := ?v12) (by kernel_rfl) (by kernel_rfl) rfl (by kernel_rfl) (by kernel_rfl) (by kernel_rfl) (fun _ _ _ h => h) (Or.inl ⟨by rfl, ?y12⟩) hHeld ?r12
      case y12 => (intro w' hSw; (try dsimp only at hSw); have q1 := hSw.cell (j := 1) (v := .slice a3 l.length c3) rfl; clear hSw; go_simp; try with_reducible rfl)
      simp only [Act.put, List.getElem_toArray, List.getElem_cons_zero, List.getElem_cons_succ, List.setIfInBounds_toArray, List.set_cons_zero, List.set_cons_succ]
      refine Still.takeBy (i := 2) [] (v := ?v13) (by kernel_rfl) (by kernel_rfl) rfl (by kernel_rfl) (by kernel_rfl) (by kernel_rfl) (fun _ _ _ h => h) (Or.inl ⟨by rfl, ?y13⟩) hHeld ?r13
      case y13 => (intro w' hSw; (try dsimp only at hSw); have q1 := hSw.cell (j := 1) (v := .slice a3 l.length c3) rfl; clear hSw; go_simp; try with_reducible rfl)
      simp only [Act.put, List.getElem_toArray, List.getElem_cons_zero, List.getElem_cons_succ, List.setIfInBounds_toArray, List.set_cons_zero, List.set_cons_succ]
      refine Still.all (rs := [3]) (by kernel_rfl) (by simp) (Still.one (i := 3) rfl rfl (fun K hK => ?_) (by simp))
      refine wp_call_or 82 _ _ rfl entRcell #[.pointer (some ⟨g, 0, none⟩)] (by first | rfl | simp [Act.eval, Act.put]) wrongE ((rcell_any w _ g _ (CP.out.up (Below.refl _ _).drew).r).mono ?_)
      rintro e W2 (⟨hd, rfl, hb⟩ | ⟨d, q2, v2, hd, rfl, hown, hr, ho⟩)
      · refine .inr ⟨rfl, ?_⟩
        clear hK K
        dsimp +zetaDelta only [Exit.inBlock, Exit.then]
        exact post_panic rfl (Or.inl ⟨worldD_noC (HG.out.none (by have := HLL.out; omega) hd), rfl, (CP.out.up (Below.refl _ _).drew).d.b.trans hb⟩)
      obtain ⟨a2, c2, rfl⟩ := own_form hown
      have hob := own_block hown
      have hol2 := own_lt hown
      have CP2 := Lib.hid ((CP.out.up (Below.refl _ _).drew).call ho hr)
      have S2 := Lib.hid (own_sl hown)
      have HG2 := Lib.hid (HG.out.next (by have := HLL.out; omega) hd)
      have zr : wr.heap.size ≤ W2.heap.size := ho.b.size
      have zb := CP.out.z
      have zb2 := CP2.out.z
      rw [Cel.v_cs]
      refine .inl ⟨_, rfl, hK _ _ (fun _ => CP2.out.r3) (fun hh => ?_)⟩
      have hHeld := hh (by decide)
      clear hK K hh
      try simp only [Act.put, List.getElem_toArray, List.getElem_cons_zero, List.getElem_cons_succ, List.setIfInBounds_toArray, List.set_cons_zero, List.set_cons_succ]
      clear hown hr ho hd HG
      have IN : In (w1.heap.size + 1) 0 (W2.alloc (.cells (d.c.cs (.slice a2 d.out.length c2)) 62)) (.slice a3 l.length c3) (.slice none 0 0) (.slice a2 d.out.length c2) := fun x e => by
        have h1 : wr.heap.size ≤ x := hob x e
        have h2 := hol2 x e
        refine ⟨by omega, by simp; omega, fun e' => ?_, fun e' => by cases e'⟩
        have := (CP.out.n.ltC x e').2; omega
      obtain ⟨ps, hps, hadd⟩ := (CP2.out.n.alloc (.cells (d.c.cs (.slice a2 d.out.length c2)) 62)).addC d (.slice a2 d.out.length c2) (S2.out.up ((Below.refl _ _).alloc (Nat.le_refl _) _)) IN
      refine Still.all (rs := [4]) (by kernel_rfl) (by simp) (Still.one (i := 4) rfl rfl (fun K hK => ?_) (by simp))
      refine wp_buildOne 27 62 (.tmp 17) rfl (d.c.cs (.slice a2 d.out.length c2)) (by first | rfl | simp [Act.eval, Act.put]) Tryd.underlying27 sizeCell zeroCell (by show 0 < 16; decide) (by show 16 ≤ 2 ^ 24; decide) ?_
      refine hK _ _ (fun _ => CP2.out.r3.alloc _) (fun hh => ?_)
      have hHeld := hh (by decide)
      clear hK K hh
      try simp only [Act.put, List.getElem_toArray, List.getElem_cons_zero, List.getElem_cons_succ, List.setIfInBounds_toArray, List.set_cons_zero, List.set_cons_succ]
      refine Still.all (rs := [5]) (by kernel_rfl) (by simp) (Still.one (i := 5) rfl rfl (fun K hK => ?_) (by simp))
      refine wp_append_lies _ (.tmp 15) (.tmp 18) 27 rfl (w1.heap.size + 1) 62 i1 _ 16 144 Tryd.underlying27 hi1 hy0 hy1 hy2 rfl (by decide) (.slice a3 l.length c3) l.length (rowC celC ps) (by first | rfl | simp [Act.eval, Act.put]) hps ⟨W2.heap.size, 0, none⟩ 1 1 (d.c.cs (.slice a2 d.out.length c2)).toList (by first | rfl | simp [Act.eval, Act.put]) (cs_len _ _) (new_range _ _ _ _ rfl) (cs_oneL _ _ rfl) (by decide) (by have := HLL.out; unfold maxLen; omega) (by have := HLL.out; omega) (by simp; omega) _ rfl ?_
      intro g4 cap4 W4 hown hgrow hat hg4
      have hn4 := hadd _ W4 hown hgrow (hat.imp (fun e => e) (fun e => ⟨g4, rfl, by rw [e]; simp⟩))
      obtain ⟨hC5, hr5⟩ := (CP2.out.up (wr' := W2.alloc (.cells (d.c.cs (.slice a2 d.out.length c2)) 62)) ((Below.refl _ _).alloc (Nat.le_refl _) _)).grow hgrow hn4
      have C5 := Lib.hid hC5
      have q5 := hr5.cell (j := 1) (v := .slice a3 l.length c3) rfl
      have f5 := hr5.fr 1
      refine hK _ _ (fun _ => hr5) (fun hh => ?_)
      have hHeld := hh (by decide)
      clear hK K hh
      try simp only [Act.put, List.getElem_toArray, List.getElem_cons_zero, List.getElem_cons_succ, List.setIfInBounds_toArray, List.set_cons_zero, List.set_cons_succ]
      clear hown hgrow hat hn4 hC5 hps hadd IN hr5
      refine Still.takeBy (i := 6) [] (v := ?v14) (by kernel_rfl) (by kernel_rfl) rfl (by kernel_rfl) (by kernel_rfl) (by kernel_rfl) (fun _ _ _ h => h) (Or.inl ⟨by rfl, ?y14⟩) hHeld ?r14
      case y14 => (intro w' hSw; (try dsimp only at hSw); go_simp; try with_reducible rfl)
      simp only [Act.put, List.getElem_toArray, List.getElem_cons_zero, List.getElem_cons_succ, List.setIfInBounds_toArray, List.set_cons_zero, List.set_cons_succ]
      refine Still.all (rs := [7]) (by kernel_rfl) (by simp) (Still.one (i := 7) rfl rfl (fun K hK => ?_) (by simp))
      clear hHeld
      go_simp
      refine hK _ _ (fun h => absurd rfl h) (fun _ => ?_)
      clear hK K
      refine Still.over (by kernel_rfl) ?_ _
      clear q5 f5
      go_wp2
      go_roundw
      case rel => exact ⟨k + 1, by go_num, by omega, Lib.hid ⟨_, _, q2, by have := HLL.out; simp; omega, HG2.out, C5.out⟩⟩
      case measure => simp [intOf]; omega
    · have hli : ¬ (k : Int) < n := by omega
      have HGN := Lib.hid (HG.out.done (by have := HLL.out; omega))
      clear HG
      go_wp2
      go_loopw [23] (fun i wr => ∃ k : Nat, i = .int .i64 k ∧ k ≤ m ∧ Hid (∃ vl ls q', ls.length = k ∧ Got (listD 3) m q1 ls q' ∧ Cr w W g w1.heap.size wr tick (.slice a3 l.length c3) vl l ls q')) (fun i _ => m - (intOf i).toNat)
      case atStart => exact ⟨0, rfl, Nat.zero_le _, Lib.hid ⟨_, [], q1, rfl, Got.start, CP.out⟩⟩
      case round =>
        clear CP hlt hli hk HLL
        obtain ⟨j, rfl, hj, HC⟩ := hrel
        obtain ⟨vl, ls, q2, hlk, hgot, hC⟩ := HC.out
        clear HC
        have HLL := Lib.hid hlk
        have HG := Lib.hid hgot
        obtain ⟨a4, c4, rfl⟩ := hC.n.formL
        have HVL := Lib.hid hC.n.ltL
        have CP := Lib.hid hC
        clear hlk hgot hC
        by_cases hlt : j < m
        · have hli : (j : Int) < m := by omega
          go_wp2
          refine region_still (S := fun w' => Rw w' w1.heap.size 30 #[.int .i64 tick, .slice a3 l.length c3, .slice a4 ls.length c4]) 8 (by kernel_rfl) CP.out.r3.drew (fun hHeld => ?_)
          refine Still.takeBy (i := 0) [] (v := ?v51) (by kernel_rfl) (by kernel_rfl) rfl (by kernel_rfl) (by kernel_rfl) (by kernel_rfl) (fun _ _ _ h => h) (Or.inl ⟨by rfl, ?y51⟩) hHeld ?r51
          case y51 => (intro w' hSw; (try dsimp only at hSw); have q1 := hSw.cell (j := 2) (v := .slice a4 ls.length c4) rfl; clear hSw; go_simp; try with_reducible rfl)
          simp only [Act.put, List.getElem_toArray, List.getElem_cons_zero, List.getElem_cons_succ, List.setIfInBounds_toArray, List.set_cons_zero, List.set_cons_succ]
          refine Still.takeBy (i := 1) [] (v := ?v52) (by kernel_rfl) (by kernel_rfl) rfl (by kernel_rfl) (by kernel_rfl) (by kernel_rfl) (fun _ _ _ h => h) (Or.inl ⟨by rfl, ?y52⟩) hHeld ?r52
          case y52 => (intro w' hSw; (try dsimp only at hSw); have q1 := hSw.cell (j := 2) (v := .slice a4 ls.length c4) rfl; clear hSw; go_simp; try with_reducible rfl)
          simp only [Act.put, List.getElem_toArray, List.getElem_cons_zero, List.getElem_cons_succ, List.setIfInBounds_toArray, List.set_cons_zero, List.set_cons_succ]
          refine Still.takeBy (i := 2) [] (v := ?v53) (by kernel_rfl) (by kernel_rfl) rfl (by kernel_rfl) (by kernel_rfl) (by kernel_rfl) (fun _ _ _ h => h) (Or.inl ⟨by rfl, ?y53⟩) hHeld ?r53
          case y53 => (intro w' hSw; (try dsimp only at hSw); have q1 := hSw.cell (j := 2) (v := .slice a4 ls.length c4) rfl; clear hSw; go_simp; try with_reducible rfl)
          simp only [Act.put, List.getElem_toArray, List.getElem_cons_zero, List.getElem_cons_succ, List.setIfInBounds_toArray, List.set_cons_zero, List.set_cons_succ]
          refine Still.all (rs := [3]) (by kernel_rfl) (by simp) (Still.one (i := 3) rfl rfl (fun K hK => ?_) (by simp))
          refine wp_call_or 83 _ _ rfl entRlist #[.pointer (some ⟨g, 0, none⟩), .int .i64 3] (by first | rfl | simp [Act.eval, Act.put]) wrongE ((list_any 3 (by omega) (by omega) w _ g _ (CP.out.up (Below.refl _ _).drew).r).mono ?_)
          rintro e W2 (⟨hd, rfl, hb⟩ | ⟨d, q3, v2, hd, rfl, hown, hr, ho⟩)
          · refine .inr ⟨rfl, ?_⟩
            clear hK K
            dsimp +zetaDelta only [Exit.inBlock, Exit.then]
            exact post_panic rfl (Or.inl ⟨worldD_noL HGN.out (HG.out.none (by have := HLL.out; omega) hd), rfl, (CP.out.up (Below.refl _ _).drew).d.b.trans hb⟩)
          obtain ⟨a2, c2, rfl⟩ := own_form hown
          have hob := own_block hown
          have hol2 := own_lt hown
          have CP2 := Lib.hid ((CP.out.up (Below.refl _ _).drew).call ho hr)
          have S2 := Lib.hid (own_sl hown)
          have HG2 := Lib.hid (HG.out.next (by have := HLL.out; omega) hd)
          have zr : wr.heap.size ≤ W2.heap.size := ho.b.size
          have zb := CP.out.z
          have zb2 := CP2.out.z
          refine .inl ⟨_, rfl, hK _ _ (fun _ => CP2.out.r3) (fun hh => ?_)⟩
          have hHeld := hh (by decide)
          clear hK K hh
          try simp only [Act.put, List.getElem_toArray, List.getElem_cons_zero, List.getElem_cons_succ, List.setIfInBounds_toArray, List.set_cons_zero, List.set_cons_succ]
          clear hown hr ho hd HG
          refine Still.takeBy (i := 4) [] (v := ?v54) (by kernel_rfl) (by kernel_rfl) rfl (by kernel_rfl) (by kernel_rfl) (by kernel_rfl) (fun _ _ _ h => h) (Or.inl ⟨by rfl, ?y54⟩) hHeld ?r54
          case y54 => (intro w' hSw; (try dsimp only at hSw); go_simp; try with_reducible rfl)
          simp only [Act.put, List.getElem_toArray, List.getElem_cons_zero, List.getElem_cons_succ, List.setIfInBounds_toArray, List.set_cons_zero, List.set_cons_succ]
          refine Still.all (rs := [5]) (by kernel_rfl) (by simp) (Still.one (i := 5) rfl rfl (fun K hK => ?_) (by simp))
          go_simp
          refine hK _ _ (fun _ => CP2.out.r3.alloc _) (fun hh => ?_)
          have hHeld := hh (by decide)
          clear hK K hh
          try simp only [Act.put, List.getElem_toArray, List.getElem_cons_zero, List.getElem_cons_succ, List.setIfInBounds_toArray, List.set_cons_zero, List.set_cons_succ]
          have IN : In (w1.heap.size + 1) 0 (W2.alloc (.cells #[.slice a2 d.length c2] 65)) (.slice a3 l.length c3) (.slice a4 ls.length c4) (.slice a2 d.length c2) := fun x e => by
            have h1 : wr.heap.size ≤ x := hob x e
            have h2 := hol2 x e
            refine ⟨by omega, by simp; omega, fun e' => ?_, fun e' => ?_⟩
            · have := (CP.out.n.ltC x e').2; omega
            · have := (HVL.out x e').2; omega
          obtain ⟨vs, hvs, hadd⟩ := (CP2.out.n.alloc (.cells #[.slice a2 d.length c2] 65)).addL d (.slice a2 d.length c2) (S2.out.up ((Below.refl _ _).alloc (Nat.le_refl _) _)) IN
          refine Still.all (rs := [6]) (by kernel_rfl) (by simp) (Still.one (i := 6) rfl rfl (fun K hK => ?_) (by simp))
          refine wp_append_lies _ (.tmp 26) (.tmp 30) 28 rfl (w1.heap.size + 1) 65 i2 _ 1 24 Tryd.underlying28 hi2 hx0 hx1 hx2 rfl (by decide) (.slice a4 ls.length c4) ls.length vs (by first | rfl | simp [Act.eval, Act.put]) hvs ⟨W2.heap.size, 0, none⟩ 1 1 [.slice a2 d.length c2] (by first | rfl | simp [Act.eval, Act.put]) rfl (new_range _ _ #[.slice a2 d.length c2] _ rfl) (fun u hu => by simp at hu; subst hu; rfl) (by decide) (by have := HLL.out; unfold maxLen; omega) (by have := HLL.out; omega) (by simp; omega) _ rfl ?_
          intro g4 cap4 W4 hown hgrow hat hg4
          have hn4 := hadd _ W4 hown hgrow (hat.imp (fun e => e) (fun e => ⟨g4, rfl, by rw [e]; simp⟩))
          obtain ⟨hC5, hr5⟩ := (CP2.out.up (wr' := W2.alloc (.cells #[.slice a2 d.length c2] 65)) ((Below.refl _ _).alloc (Nat.le_refl _) _)).growL hgrow hn4
          have C5 := Lib.hid hC5
          have q5 := hr5.cell (j := 2) (v := .slice a4 ls.length c4) rfl
          have f5 := hr5.fr 2
          refine hK _ _ (fun _ => hr5) (fun hh => ?_)
          have hHeld := hh (by decide)
          clear hK K hh
          try simp only [Act.put, List.getElem_toArray, List.getElem_cons_zero, List.getElem_cons_succ, List.setIfInBounds_toArray, List.set_cons_zero, List.set_cons_succ]
          clear hown hgrow hat hn4 hC5 hvs hadd IN hr5
          refine Still.takeBy (i := 7) [] (v := ?v55) (by kernel_rfl) (by kernel_rfl) rfl (by kernel_rfl) (by kernel_rfl) (by kernel_rfl) (fun _ _ _ h => h) (Or.inl ⟨by rfl, ?y55⟩) hHeld ?r55
          case y55 => (intro w' hSw; (try dsimp only at hSw); go_simp; try with_reducible rfl)
          simp only [Act.put, List.getElem_toArray, List.getElem_cons_zero, List.getElem_cons_succ, List.setIfInBounds_toArray, List.set_cons_zero, List.set_cons_succ]
          refine Still.all (rs := [8]) (by kernel_rfl) (by simp) (Still.one (i := 8) rfl rfl (fun K hK => ?_) (by simp))
          clear hHeld
          go_simp
          refine hK _ _ (fun h => absurd rfl h) (fun _ => ?_)
          clear hK K
          refine Still.over (by kernel_rfl) ?_ _
          clear q5 f5
          go_wp2
          go_roundw
          case rel => exact ⟨j + 1, by go_num, by omega, Lib.hid ⟨_, _, q3, by have := HLL.out; simp; omega, HG2.out, C5.out⟩⟩
          case measure => simp [intOf]; omega
        · have hli : ¬ (j : Int) < m := by omega
          have HGM := Lib.hid (HG.out.done (by have := HLL.out; omega))
          have zl := CP.out.lb
          go_wp2_with (first | (refine wpList_load_row rfl 30 (.tmp 7) rfl w1.heap.size rfl 30 _ (0, 0) _ CP.out.r3 Tryd.underlying30 rfl sizeWld ?_) | (refine wpList_store_row rfl 30 (.tmp 6) (.tmp 34) rfl W.heap.size #[.int .i64 tick, .slice a3 l.length c3, .slice a4 ls.length c4] rfl rfl 30 _ CP.out.r2 sizeWld rfl (by simp [Value.oneCell']) ?_))
          refine bodyPost_ret (results_cell_row Tryd.results55 _ _ W.heap.size 30 #[.int .i64 tick, .slice a3 l.length c3, .slice a4 ls.length c4] (0, 0) _ rfl (CP.out.r2.row _) Tryd.underlying30 rfl sizeWld) rfl (.inr ⟨_, q2, worldD_yes HGN.out HGM.out, _, _, rfl, (CP.out.n.row (by omega) _).low (by omega), CP.out.r.via (below_row (Below.refl _ _) (Nat.le_refl _) _) CP.out.lt, CP.out.d.via (below_row (Below.refl _ _) (Nat.le_refl _) _) (Nat.le_refl _) CP.out.lt⟩)
end Go.Proofs.YtnnnljfdjdehaaaDoor

namespace Go.Proofs.YtnnnljfdjdehaaaDoor
set_option linter.unusedSimpArgs false
set_option linter.unusedVariables false
open Go.RowKit Go.Sort

/-- A list that stands at the head of a row, if there can be one. -/
def listC (size : Nat) : List Int → List Int
  | [] => []
  | x :: q => if withinB x 0 size then q.take x.toNat else []
theorem own_empty (w : World) : (w.alloc (.cells #[] 3)).ownsRow w.heap.size 3 1 (.slice (some ⟨w.heap.size, 0, none⟩) 0 0) 0 [] :=
  ⟨rfl, .inr ⟨w.heap.size, 0, #[], rfl, Nat.le_refl _, (Rw.new w _ _ rfl : Rw _ _ _ _), Nat.le_refl _, by unfold maxLen; omega, rfl, rfl⟩⟩
set_option maxRecDepth 100000 in
set_option maxHeartbeats 4000000 in
theorem listAt_any (l : List Int) (pos size : Nat) (hs0 : 1 ≤ size) (ha : pos + size < l.length) (hlen : l.length ≤ 1000) (u : Value) (w : World) (hS : Sl w 1 u l.length (ints l)) :
    Calls Tryd.prog 35 #[u, .int .i64 (pos : Int), .int .i64 (size : Int)] w fun e w' => ∃ v, e = .returned v ∧ w'.ownsRow w.heap.size 3 1 v (listC size (l.drop pos)).length (ints (listC size (l.drop pos))) ∧ Below w.heap.size w w' := by
  have hw1 : IntKind.i64.wrap ((pos : Int) + 1) = ((pos + 1 : Nat) : Int) := by simp [IntKind.wrap, IntKind.bits, IntKind.signed]; omega
  have hdl : l.drop pos = l[pos] :: l.drop (pos + 1) := List.drop_eq_getElem_cons (by omega)
  obtain ⟨i1, hi1, hy0, hy1, hy2⟩ := info_parts info3
  obtain ⟨ua, uc, rfl⟩ := hS.form
  obtain ⟨_, a9, c9, hform, hcap, hcell⟩ := hS
  obtain ⟨sb, so, hs1, hs2, hs3⟩ := hcell (by omega)
  cases hform
  cases hs1
  have c0 := hs3 pos (.int .i64 l[pos]) (by rw [ints_at _ _ (by omega)])
  have HS3 := Lib.hid hs3
  have HCP := Lib.hid hcap
  have hli : (pos : Int) < l.length := by omega
  have HDL := Lib.hid hdl
  clear hs3 hcell hdl
  generalize l[pos] = x at c0 HDL
  cases hb : withinB x 0 size with
  | false =>
    have HE : Hid (listC size (l.drop pos) = []) := Lib.hid (by rw [HDL.out]; simp [listC, hb])
    have HW := Lib.hid (within_any x 0 size)
    rw [hb] at HW
    clear hb
    go_enter Tryd.func35, Tryd.ntmps35
    go_wp2_with fail
    refine (HW.out _).mono ?_
    rintro e w1 ⟨rfl, hw⟩
    subst hw
    go_wp2
    go_ret
    exact ⟨_, rfl, by rw [HE.out]; exact World.ownsRow_nil _ _ _ _, Below.refl _ _⟩
  | true =>
    have hx : 0 ≤ x ∧ x ≤ size := by simpa [withinB] using hb
    obtain ⟨n, rfl⟩ : ∃ n : Nat, x = n := ⟨x.toNat, by omega⟩
    have HE : Hid (listC size (l.drop pos) = (l.drop (pos + 1)).take n) := Lib.hid (by rw [HDL.out]; simp [listC, hb])
    have HW := Lib.hid (within_any n 0 size)
    rw [hb] at HW
    have hw2 : IntKind.i64.wrap (((pos + 1 : Nat) : Int) + (n : Int)) = ((pos + 1 + n : Nat) : Int) := by simp [IntKind.wrap, IntKind.bits, IntKind.signed]; omega
    have hne : ¬ uc = pos + 1 := by omega
    have hnl : n ≤ size := by omega
    have HLN : Hid (((l.drop (pos + 1)).take n).length = n) := Lib.hid (by rw [List.length_take, List.length_drop]; omega)
    have HSA : Hid (∀ c, n ≤ c → Sl (w.alloc (.cells #[] 3)) 1 (.slice (some ⟨sb, so + (pos + 1), none⟩) n c) n (ints ((l.drop (pos + 1)).take n))) := Lib.hid (fun c hc => by
      have e := sl_takeF (w := w) (sb := sb) (so := so + (pos + 1)) (uc := max c (l.length)) (xs := l.drop (pos + 1)) (m := n) (by rw [List.length_drop]; omega) hs2 (by rw [List.length_drop]; omega) (fun j u hj => by
        rw [Nat.add_assoc]
        refine HS3.out (pos + 1 + j) u ?_
        rw [← hj]
        simp [ints, List.getElem?_drop])
      obtain ⟨e1, e2, e3, e4, e5, e6⟩ := e.up ((Below.refl _ _).alloc (Nat.le_refl _) (.cells #[] 3))
      cases e4
      exact ⟨e1, _, _, rfl, hc, e6⟩)
    have HSB : Hid (Sl (w.alloc (.cells #[] 3)) 1 (.slice (some ⟨sb, so + (pos + 1), none⟩) (pos + 1 + n - (pos + 1)) (uc - (pos + 1))) (pos + 1 + n - (pos + 1)) (ints ((l.drop (pos + 1)).take n))) := Lib.hid (by
      rw [show pos + 1 + n - (pos + 1) = n by omega]
      exact HSA.out (uc - (pos + 1)) (by omega))
    clear hb hx HSA
    go_enter Tryd.func35, Tryd.ntmps35
    go_wp2_with fail
    refine (HW.out _).mono ?_
    rintro e w1 ⟨rfl, hw⟩
    have hw' := hw.symm
    clear hw
    subst hw'
    go_wp2_with (at_builtin; refine wpList_append_sl rfl (.tmp 16) (.tmp 24) 31 rfl w.heap.size 3 i1 (.int .i64 0) 1 8 Tryd.underlying31 hi1 hy0 hy1 hy2 rfl (by decide) _ 0 [] rfl (own_empty w) (.slice (some ⟨sb, so + (pos + 1), none⟩) (pos + 1 + n - (pos + 1)) (uc - (pos + 1))) (pos + 1 + n - (pos + 1)) (ints ((l.drop (pos + 1)).take n)) rfl HSB.out (ints_cell _) (by unfold maxLen; omega) (by omega) (by simp) ?_)
    intro v7 W7 hown hgrow _
    have HB7 : Hid (Below w.heap.size w W7) := Lib.hid (((Below.refl _ _).alloc (Nat.le_refl _) _).grown hgrow (by simp) (fun k e => by have := own_block (own_empty w) k e; omega))
    have HO7 : Hid (W7.ownsRow w.heap.size 3 1 v7 ((l.drop (pos + 1)).take n).length (ints ((l.drop (pos + 1)).take n))) := Lib.hid (by
      rw [HLN.out]
      simpa using hown)
    clear hown hgrow
    go_wp2
    go_ret
    exact ⟨_, rfl, by rw [HE.out]; exact HO7.out, HB7.out⟩
end Go.Proofs.YtnnnljfdjdehaaaDoor

namespace Go.Proofs.YtnnnljfdjdehaaaDoor
set_option linter.unusedSimpArgs false
set_option linter.unusedVariables false
open Go.RowKit Go.Sort

/-- What is right about a world, but for the end of the run. -/
structure Right (S : SysD) (D : WldD) : Prop where
  t0 : 0 ≤ D.tick
  t1 : D.tick ≤ 300
  c : cellsB S.parts D.cells = true
  l : linesB S.chans D.lines = true
theorem chkW_zero {S : SysD} {D : WldD} (h : chkW S D = 0) : chkS S = 0 ∧ Right S D := by
  unfold chkW at h
  split at h
  · exact absurd h (by assumption)
  · rename_i h1
    split at h
    · rename_i h2
      rw [Bool.and_eq_true, Bool.and_eq_true] at h2
      obtain ⟨⟨h2, h3⟩, h4⟩ := h2
      unfold withinB at h2
      rw [Bool.and_eq_true, decide_eq_true_eq, decide_eq_true_eq] at h2
      exact ⟨by simpa using h1, h2.1, h2.2, h3, h4⟩
    · omega
theorem chkW_right {S : SysD} {D : WldD} (hs : chkS S = 0) (h : Right S D) : chkW S D = 0 := by
  unfold chkW
  rw [if_neg (by simpa using hs), if_pos]
  rw [Bool.and_eq_true, Bool.and_eq_true]
  refine ⟨⟨?_, h.c⟩, h.l⟩
  unfold withinB
  rw [Bool.and_eq_true, decide_eq_true_eq, decide_eq_true_eq]
  exact ⟨h.t0, h.t1⟩
theorem replied_at (c : Cel) (k reg flag kind val : Int) (is : Bool) : (c.replied k reg flag kind val is).at_ = c.at_ ∧ (c.replied k reg flag kind val is).read = c.read ∧ (c.replied k reg flag kind val is).en = c.en := by
  unfold Cel.replied
  split
  · exact ⟨setReg_at .., setReg_read .., setReg_en ..⟩
  · split
    · cases is
      · exact ⟨setReg_at .., setReg_read .., setReg_en ..⟩
      · exact ⟨(setReg_at ..).trans (setReg_at ..), (setReg_read ..).trans (setReg_read ..), (setReg_en ..).trans (setReg_en ..)⟩
    · exact ⟨rfl, rfl, rfl⟩
theorem replied_fine (c : Cel) (n : Nat) (k reg flag kind val : Int) (is : Bool) : (c.replied k reg flag kind val is).fine n = c.fine n := by
  obtain ⟨h1, h2, h3⟩ := replied_at c k reg flag kind val is
  unfold Cel.fine
  rw [h1, h2, h3]
theorem servR_len {kind : Int} {l : List Int} (h : chkL kind l.length = 0) (x : Wnt) : chkL kind (servR kind l x).1.length = 0 := by
  unfold servR
  split
  · unfold putR
    rw [if_pos h]
    unfold putS
    rcases chkL_zero h with ⟨rfl, _⟩ | ⟨rfl, _⟩
    · rfl
    · simp only [show ¬((2 : Int) = 1) by decide, if_false]
      split
      · exact h
      · simp [chkL]
        omega
  · unfold getR
    rw [if_pos h]
    cases l with
    | nil => exact h
    | cons a r =>
      simp only []
      split
      · exact h
      · rcases chkL_zero h with ⟨rfl, _⟩ | ⟨rfl, h2⟩
        · contradiction
        · simp at h2
          simp [chkL]
          omega
theorem cellsB_set {ps : List Prt} {ds : List CelD} (h : cellsB ps ds = true) {k : Nat} {d : CelD} (hd : ∀ h : k < ps.length, celB ps[k] d = true) : cellsB ps (ds.set k d) = true := by
  have hl := cellsB_len h
  refine cellsB_yes (by simpa using hl) fun j h1 h2 => ?_
  by_cases e : k = j
  · subst e
    simpa using hd h1
  · rw [List.getElem_set_ne e]
    exact cellsB_at h j h1 (by omega)
theorem linesB_set {cs : List Chn} {ls : List (List Int)} (h : linesB cs ls = true) {k : Nat} {l : List Int} (hd : ∀ h : k < cs.length, chkL cs[k].kd l.length = 0) : linesB cs (ls.set k l) = true := by
  have hl := linesB_len h
  refine linesB_yes (by simpa using hl) fun j h1 h2 => ?_
  by_cases e : k = j
  · subst e
    simpa using hd h1
  · rw [List.getElem_set_ne e]
    exact linesB_at h j h1 (by omega)
theorem celB_is {p : Prt} {d : CelD} (h : celB p d = true) : d.c.fine d.out.length = true ∧ d.c.read ≤ p.inn.length := by
  unfold celB at h
  rw [Bool.and_eq_true] at h
  exact ⟨h.1, by simpa using h.2⟩
theorem celB_of {p : Prt} {d : CelD} (h : d.c.fine d.out.length = true) (h2 : d.c.read ≤ p.inn.length) : celB p d = true := by
  unfold celB
  rw [Bool.and_eq_true]
  exact ⟨h, by simpa using h2⟩
/-- A want is of a channel of the one who wants. -/
theorem step_home {S : SysD} (h : chkS S = 0) {p : Nat} (hp : p < S.parts.length) {inn xs : List Int} {c : Cel} : (stepC S.parts[p].code inn xs c).2.2 = wntZ ∨ ∃ ch, S.chans[(stepC S.parts[p].code inn xs c).2.2.ch.toNat]? = some ch ∧ (ch.fr = p ∨ ch.tt = p) := by
  obtain ⟨-, hc, -, -, hn⟩ := chkS_zero h
  have hcode := hc p hp
  have hnb := names_at (l := S.chans) (k := 0) hn p hp
  unfold nameBad at hnb
  rw [Bool.or_eq_false_iff, List.any_eq_false, List.any_eq_false] at hnb
  have hfe : firstE S.parts[p].code = 0 := by
    unfold chkC at hcode
    split at hcode
    · omega
    · exact hcode
  unfold stepC
  split
  · unfold runC
    split
    · exact .inl rfl
    · rename_i i hi
      have hlt : c.at_.toNat < S.parts[p].code.length := (List.getElem?_eq_some_iff.1 hi).1
      have hmem : i ∈ S.parts[p].code := List.mem_of_getElem? hi
      have hck : i.chk = 0 := by
        have := firstE_zero hfe _ hlt
        rw [(List.getElem?_eq_some_iff.1 hi).2] at this
        exact this
      obtain ⟨hop, ⟨ha0, ha1⟩, ⟨hb0, hb1⟩, hj, hch⟩ := chk0 (op := i.op) (a := i.a) (b := i.b) (n := i.n) hck
      cases hd : doC i inn xs c wntZ with
      | none => exact .inl rfl
      | some r =>
        obtain ⟨c', ys, x'⟩ := r
        rcases doC_want hd with e | ⟨ho, e⟩ | ⟨ho, e⟩
        · exact .inl e
        · right
          have hn5 := hch (.inl ho)
          have hb := hnb.1 _ (chan_named hmem ho hn5.1 hn5.2)
          subst e
          simp only [Option.getD_some]
          unfold putBad at hb
          split at hb
          · simp at hb
          · rename_i y hy
            exact ⟨y, hy, .inl (by simpa using hb)⟩
        · right
          have hn5 := hch (.inr ho)
          have hb := hnb.2 _ (chan_named hmem ho hn5.1 hn5.2)
          subst e
          simp only [Option.getD_some]
          unfold getBad at hb
          split at hb
          · simp at hb
          · rename_i y hy
            exact ⟨y, hy, .inr (by simpa using hb)⟩
  · exact .inl rfl
/-- A tick of a right world, whose turn it is and what comes of it. -/
structure Tick (S : SysD) (D : WldD) (pn : Nat) (d : CelD) (D' : WldD) : Prop where
  p : pn < S.parts.length
  w : whoS S D.tick = pn
  e : nextC S D = D'
  t : D'.tick = D.tick + 1
  c : D'.cells = D.cells.set pn d
  f : celB (S.parts[pn]'p) d = true
  o : ∀ h : pn < D.cells.length, Goes (S.parts[pn]'p).inn D.cells[pn].out D.cells[pn].c d.c d.out
  s : ∀ h : pn < D.cells.length, D.cells[pn].c.en ≠ 0 → d = D.cells[pn]
  l : D'.lines = D.lines ∨ ∃ kn, ∃ h : kn < S.chans.length, ∃ l, D'.lines = D.lines.set kn l ∧ chkL (S.chans[kn]'h).kd l.length = 0 ∧ ((S.chans[kn]'h).fr = pn ∨ (S.chans[kn]'h).tt = pn)
theorem goes_replied {inn xs : List Int} {c c' : Cel} {ys : List Int} (h : Goes inn xs c c' ys) (k reg flag kind val : Int) (is : Bool) : Goes inn xs c (c'.replied k reg flag kind val is) ys := by
  obtain ⟨h1, h2, h3⟩ := replied_at c' k reg flag kind val is
  exact ⟨h1 ▸ h.at0, h1 ▸ h.at1, h3 ▸ h.en0, h3 ▸ h.en1, h2 ▸ h.rd0, h2 ▸ h.rd1, h2 ▸ h.rd2, h.out, h.len, h.len2⟩
theorem stepC_ended (l : List Ins) (inn xs : List Int) (c : Cel) (h : c.en ≠ 0) : stepC l inn xs c = (c, xs, wntZ) := by
  unfold stepC
  rw [if_neg h]
theorem tick_any {S : SysD} {D : WldD} (hk : chkS S = 0) (hR : Right S D) (ht : D.tick < 300) : ∃ pn d, Tick S D pn d (nextC S D) := by
  obtain ⟨hct, hco, -, -, -⟩ := chkS_zero hk
  obtain ⟨hcs, hin⟩ := countsB_is hct
  obtain ⟨hw0, hw1⟩ := who_range hk hR.t0
  obtain ⟨pn, hpn⟩ := Int.eq_ofNat_of_zero_le hw0
  have hlc := cellsB_len hR.c
  have hll := linesB_len hR.l
  have hp : pn < S.parts.length := by omega
  have hpd : pn < D.cells.length := by omega
  have hcel := celB_is (cellsB_at hR.c pn hp hpd)
  have hg := stepC_goes (hco pn hp) hcel.1 hcel.2
  have hw := step_want hk hp (inn := S.parts[pn].inn) (xs := D.cells[pn].out) (c := D.cells[pn].c) ((fine_iff _ _).1 hcel.1).1
  have hh := step_home hk hp (inn := S.parts[pn].inn) (xs := D.cells[pn].out) (c := D.cells[pn].c)
  have hen := stepC_ended S.parts[pn].code S.parts[pn].inn D.cells[pn].out D.cells[pn].c
  have hr0 := ((fine_iff _ _).1 hcel.1).2.2.1
  have hi := hin pn hp
  have e1 : S.parts[(whoS S D.tick).toNat]? = some S.parts[pn] := by rw [hpn]; simp [hp]
  have e2 : D.cells[(whoS S D.tick).toNat]? = some D.cells[pn] := by rw [hpn]; simp [hpd]
  have hz : wntZ.k = 0 := rfl
  cases hst : stepC S.parts[pn].code S.parts[pn].inn D.cells[pn].out D.cells[pn].c with
  | mk c' r =>
    obtain ⟨ys, x⟩ := r
    rw [hst] at hg hw hh hen
    simp only at hg hw hh
    by_cases hx : x.k = 0
    · refine ⟨pn, ⟨c', ys⟩, hp, hpn, rfl, ?_, ?_, celB_of (hg.fine hr0 hi) hg.rd2, fun _ => hg, fun _ h => ?_, .inl ?_⟩
      · unfold nextC; rw [e1, e2]; simp only [hst, hx, if_true]
      · unfold nextC; rw [e1, e2]; simp only [hst, hx, if_true]; rw [hpn]; rfl
      · have := hen h
        injection this with h1 h2
        injection h2 with h2 h3
        rw [h1, h2]
      · unfold nextC; rw [e1, e2]; simp only [hst, hx, if_true]
    · have hwo : WantOk S x := by
        rcases hw with e | h
        · rw [e] at hx; exact absurd hz hx
        · exact h
      obtain ⟨hkn, hft⟩ : ∃ hk : x.ch.toNat < S.chans.length, S.chans[x.ch.toNat].fr = pn ∨ S.chans[x.ch.toNat].tt = pn := by
        rcases hh with e | ⟨ch, h, h'⟩
        · rw [e] at hx; exact absurd hz hx
        · obtain ⟨h1, h2⟩ := List.getElem?_eq_some_iff.1 h
          exact ⟨h1, by rw [h2]; exact h'⟩
      have hln : x.ch.toNat < D.lines.length := by omega
      have e3 : S.chans[x.ch.toNat]? = some S.chans[x.ch.toNat] := by simp [hkn]
      have e4 : D.lines[x.ch.toNat]? = some D.lines[x.ch.toNat] := by simp [hln]
      have hlk := linesB_at hR.l _ hkn hln
      have E : nextC S D = ⟨D.tick + 1, D.cells.set pn ⟨c'.replied x.k x.reg x.flag S.chans[x.ch.toNat].kd (servR S.chans[x.ch.toNat].kd D.lines[x.ch.toNat] x).2.1 (servR S.chans[x.ch.toNat].kd D.lines[x.ch.toNat] x).2.2, ys⟩, D.lines.set x.ch.toNat (servR S.chans[x.ch.toNat].kd D.lines[x.ch.toNat] x).1⟩ := by
        unfold nextC
        rw [e1, e2]
        simp only [hst]
        rw [if_neg hx, e3, e4]
        simp only []
        rw [hpn]
        rfl
      have hg' := goes_replied hg x.k x.reg x.flag S.chans[x.ch.toNat].kd (servR S.chans[x.ch.toNat].kd D.lines[x.ch.toNat] x).2.1 (servR S.chans[x.ch.toNat].kd D.lines[x.ch.toNat] x).2.2
      refine ⟨pn, ⟨c'.replied x.k x.reg x.flag S.chans[x.ch.toNat].kd (servR S.chans[x.ch.toNat].kd D.lines[x.ch.toNat] x).2.1 (servR S.chans[x.ch.toNat].kd D.lines[x.ch.toNat] x).2.2, ys⟩, hp, hpn, rfl, by rw [E], by rw [E], celB_of (hg'.fine hr0 hi) hg'.rd2, fun _ => hg', fun _ h => ?_, .inr ⟨x.ch.toNat, hkn, (servR S.chans[x.ch.toNat].kd D.lines[x.ch.toNat] x).1, by rw [E], servR_len hlk x, hft⟩⟩
      have := hen h
      injection this with h1 h2
      injection h2 with h2 h3
      rw [h3] at hx
      exact absurd hz hx
theorem next_right {S : SysD} {D : WldD} (hk : chkS S = 0) (hR : Right S D) (ht : D.tick < 300) : Right S (nextC S D) ∧ (nextC S D).tick = D.tick + 1 := by
  obtain ⟨pn, d, T⟩ := tick_any hk hR ht
  refine ⟨⟨by rw [T.t]; have := hR.t0; omega, by rw [T.t]; omega, by rw [T.c]; exact cellsB_set hR.c (fun _ => T.f), ?_⟩, T.t⟩
  rcases T.l with e | ⟨kn, h, l, e, h2, -⟩
  · rw [e]; exact hR.l
  · rw [e]; exact linesB_set hR.l (fun _ => h2)
/-- Ticks one behind the other. -/
def runN (S : SysD) : Nat → WldD → WldD
  | 0, D => D
  | n + 1, D => runN S n (nextC S D)
theorem runN_right {S : SysD} (hk : chkS S = 0) : ∀ (n : Nat) {D : WldD}, Right S D → D.tick + n ≤ 300 → Right S (runN S n D) ∧ (runN S n D).tick = D.tick + n
  | 0, D, h, _ => ⟨h, by simp [runN]⟩
  | n + 1, D, h, ht => by
    obtain ⟨h1, h2⟩ := next_right hk h (by omega)
    obtain ⟨h3, h4⟩ := runN_right hk n h1 (by omega)
    exact ⟨h3, by rw [runN, h4, h2]; omega⟩
theorem runN_add (S : SysD) : ∀ (n m : Nat) (D : WldD), runN S (n + m) D = runN S m (runN S n D)
  | 0, m, D => by rw [Nat.zero_add]; rfl
  | n + 1, m, D => by rw [show n + 1 + m = (n + m) + 1 by omega]; exact runN_add S n m _
theorem runN_last (S : SysD) (n : Nat) (D : WldD) : runN S (n + 1) D = nextC S (runN S n D) := runN_add S n 1 D
/-- The world ahead of the first tick. -/
def celD0 : CelD := ⟨celZ, []⟩
def beginC (S : SysD) : WldD := ⟨0, List.replicate S.parts.length celD0, List.replicate S.chans.length []⟩
theorem begin_right {S : SysD} (hk : chkS S = 0) : Right S (beginC S) := by
  obtain ⟨-, -, hch, -, -⟩ := chkS_zero hk
  refine ⟨Int.le_refl _, by show (0 : Int) ≤ 300; omega, cellsB_yes (by simp [beginC]) fun k h h' => ?_, linesB_yes (by simp [beginC]) fun k h h' => ?_⟩
  · simp only [beginC, List.getElem_replicate]
    exact celB_of (by decide) (by show (0 : Int) ≤ _; omega)
  · simp only [beginC, List.getElem_replicate]
    rw [List.any_eq_false] at hch
    have := hch _ (List.getElem_mem h)
    unfold kindBad at this
    unfold chkL
    simp at this
    by_cases h1 : S.chans[k].kd = 1
    · simp [h1]
    · simp [h1, this h1]
end Go.Proofs.YtnnnljfdjdehaaaDoor

namespace Go.Proofs.YtnnnljfdjdehaaaDoor
set_option linter.unusedSimpArgs false
set_option linter.unusedVariables false
open Go.RowKit Go.Sort

def nthF (q : List Int) (i : Nat) : Int := q.getD i 0
def cellL (q : List Int) : CelD := ⟨⟨nthF q 0, nthF q 1, nthF q 2, nthF q 3, nthF q 4, nthF q 5, nthF q 6, nthF q 7, nthF q 8, nthF q 9, nthF q 10, nthF q 11, nthF q 12, nthF q 13, nthF q 14⟩, listC 16 (q.drop 15)⟩
def fromF (n m : Nat) (l : List Int) : WldD := ⟨nthF l 0, (List.range n).map (fun p => cellL (l.drop (1 + p * 32))), (List.range m).map (fun k => listC 3 (l.drop (1 + n * 32 + k * 4)))⟩
theorem listC_pad {l : List Int} {room : Nat} (h : l.length ≤ room) (r : List Int) : listC room (padL l room ++ r) = l := by
  have e : padL l room ++ r = (l.length : Int) :: (l ++ List.replicate (room - l.length) 0 ++ r) := by simp [padL]
  have hw : withinB (l.length : Int) 0 room = true := by simp [withinB]; omega
  rw [e, listC, if_pos hw, Int.toNat_natCast, List.append_assoc, List.take_left' rfl]
theorem cellL_row {d : CelD} (h : d.out.length ≤ 16) (r : List Int) : cellL (cellR d ++ r) = d := by
  obtain ⟨c, l⟩ := d
  have e : cellR ⟨c, l⟩ ++ r = c.at_ :: c.r0 :: c.r1 :: c.r2 :: c.r3 :: c.m0 :: c.m1 :: c.m2 :: c.m3 :: c.m4 :: c.m5 :: c.m6 :: c.m7 :: c.read :: c.en :: (padL l 16 ++ r) := by simp [cellR, regsL, memL]
  rw [e]
  show (⟨⟨c.at_, c.r0, c.r1, c.r2, c.r3, c.m0, c.m1, c.m2, c.m3, c.m4, c.m5, c.m6, c.m7, c.read, c.en⟩, listC 16 (padL l 16 ++ r)⟩ : CelD) = _
  rw [listC_pad h]
theorem drop_flat {α : Type} {f : α → List Int} {s : Nat} (r : List Int) : ∀ (ds : List α) (_ : ∀ d ∈ ds, (f d).length = s) (p : Nat), p ≤ ds.length → (ds.flatMap f ++ r).drop (p * s) = (ds.drop p).flatMap f ++ r
  | ds, _, 0, _ => by simp
  | d :: ds, h, p + 1, hp => by
    have h1 := h d (by simp)
    rw [List.flatMap_cons, List.append_assoc, show (p + 1) * s = (f d).length + p * s by rw [h1, Nat.add_mul, Nat.one_mul, Nat.add_comm], List.drop_append, List.drop_succ_cons, List.drop_eq_nil_of_le (by omega), List.nil_append, Nat.add_sub_cancel_left]
    rw [drop_flat r ds (fun x hx => h x (by simp [hx])) p (by simpa using hp)]
theorem fromF_row {D : WldD} (h : SmallD D) : fromF D.cells.length D.lines.length (rowF D) = D := by
  obtain ⟨t, ds, ls⟩ := D
  have e : rowF ⟨t, ds, ls⟩ = t :: (ds.flatMap cellR ++ ls.flatMap (fun l => padL l 3)) := by simp [rowF, cellsF, linesF]
  have hc : ∀ d ∈ ds, (cellR d).length = 32 := fun d hd => cellR_len (h.out d hd)
  have hl : ∀ l ∈ ls, (padL l 3).length = 4 := fun l hl => padL_len (h.vals l hl)
  unfold fromF
  rw [e]
  simp only [nthF, List.getD_cons_zero]
  congr 1
  · apply List.ext_getElem
    · simp
    intro p h1 h2
    rw [List.getElem_map, List.getElem_range, Nat.add_comm 1, List.drop_succ_cons, drop_flat _ ds hc p (by omega), List.drop_eq_getElem_cons h2, List.flatMap_cons, List.append_assoc]
    exact cellL_row (h.out _ (List.getElem_mem h2)) _
  · apply List.ext_getElem
    · simp
    intro k h1 h2
    have e2 : (ds.flatMap cellR ++ ls.flatMap (fun l => padL l 3)).drop (ds.length * 32 + k * 4) = (ls.drop k).flatMap (fun l => padL l 3) := by
      rw [← List.drop_drop, drop_flat _ ds hc ds.length (Nat.le_refl _), List.drop_length, List.flatMap_nil, List.nil_append]
      have := drop_flat [] ls hl k (by omega)
      simpa using this
    rw [List.getElem_map, List.getElem_range, show 1 + ds.length * 32 + k * 4 = ds.length * 32 + k * 4 + 1 by omega, List.drop_succ_cons, e2, List.drop_eq_getElem_cons h2, List.flatMap_cons]
    exact listC_pad (h.vals _ (List.getElem_mem h2)) _
/-- The right world that is laid as this row. -/
def liftD (S : SysD) (l : List Int) : Option WldD := match worldD S.parts.length S.chans.length l with
  | some (D, []) => if chkW S D = 0 then some D else none
  | _ => none
theorem chkW_lens {S : SysD} {D : WldD} (h : chkW S D = 0) : D.cells.length = S.parts.length ∧ D.lines.length = S.chans.length := by
  obtain ⟨_, h2⟩ := chkW_zero h
  exact ⟨cellsB_len h2.c, linesB_len h2.l⟩
theorem liftD_row {S : SysD} {D : WldD} (h : chkW S D = 0) : liftD S (rowF D) = some D := by
  obtain ⟨h1, h2⟩ := chkW_lens h
  have := worldD_row (chkW_small h) []
  rw [List.append_nil, h1, h2] at this
  unfold liftD
  rw [this]
  simp only [if_pos h]
theorem row_liftD {S : SysD} {D : WldD} {l : List Int} (h : liftD S l = some D) : l = rowF D ∧ chkW S D = 0 := by
  unfold liftD at h
  split at h
  · rename_i D' hw
    split at h
    · rename_i hc
      injection h with h
      subst h
      have := (row_worldD hw).1
      rw [List.append_nil] at this
      exact ⟨this, hc⟩
    · cases h
  · cases h
theorem rowF_len {D : WldD} (h : SmallD D) : (rowF D).length = 1 + D.cells.length * 32 + D.lines.length * 4 := by
  rw [rowF, List.length_append, List.length_append, cellsF_len h.out, linesF_len h.vals]
  simp
  omega
theorem liftD_short {S : SysD} {l : List Int} (h : l.length ≠ 1 + S.parts.length * 32 + S.chans.length * 4) : liftD S l = none := by
  cases e : liftD S l with
  | none => rfl
  | some D =>
    obtain ⟨h1, h2⟩ := row_liftD e
    obtain ⟨h3, h4⟩ := chkW_lens h2
    exact absurd (by rw [h1, rowF_len (chkW_small h2), h3, h4]) h
/-- What the reference finds. -/
theorem liftD_from (S : SysD) (l : List Int) : liftD S l = if chkW S (fromF S.parts.length S.chans.length l) = 0 ∧ rowF (fromF S.parts.length S.chans.length l) = l then some (fromF S.parts.length S.chans.length l) else none := by
  split
  · rename_i h
    have := liftD_row h.1
    rw [h.2] at this
    exact this
  · rename_i h
    cases e : liftD S l with
    | none => rfl
    | some D =>
      obtain ⟨h1, h2⟩ := row_liftD e
      obtain ⟨h3, h4⟩ := chkW_lens h2
      have h5 := fromF_row (chkW_small h2)
      rw [h3, h4, ← h1] at h5
      exact absurd ⟨h5 ▸ h2, by rw [h5]; exact h1.symm⟩ h
end Go.Proofs.YtnnnljfdjdehaaaDoor

namespace Go.Proofs.YtnnnljfdjdehaaaDoor
set_option linter.unusedSimpArgs false
set_option linter.unusedVariables false
open Go.RowKit Go.Sort

/-- A slice that lies at or beyond block n. -/
def NewB (n : Nat) (v : Value) : Prop := ∀ k, v.ownBlock = some k → n ≤ k
theorem NewB.mono {n m : Nat} {v : Value} (h : NewB n v) (hm : m ≤ n) : NewB m v := fun k e => Nat.le_trans hm (h k e)
theorem newB_nil (n : Nat) (c : Nat) : NewB n (.slice none 0 c) := fun k e => by cases e
theorem newB_at {n g o l c : Nat} (h : n ≤ g) : NewB n (.slice (some ⟨g, o, none⟩) l c) := fun k e => by simp [Value.ownBlock] at e; omega
def PartsN (n : Nat) (w : World) (v : Value) (ps : List Prt) : Prop :=
  ∃ vs : List (Value × Value), vs.length = ps.length ∧ Sl w 2 v ps.length (rowC prC vs) ∧ NewB n v ∧ ∀ k (hk : k < ps.length) (hk' : k < vs.length), PrtR w vs[k].1 vs[k].2 ps[k] ∧ NewB n vs[k].1 ∧ NewB n vs[k].2
/-- A system in new memory. -/
structure SysN (n : Nat) (w : World) (vp vc vs : Value) (S : SysD) : Prop where
  p : PartsN n w vp S.parts
  c : Sl w 3 vc S.chans.length (rowC chC S.chans)
  s : Sl w 2 vs S.slots.length (rowC slC S.slots)
  nc : NewB n vc
  ns : NewB n vs
theorem PartsN.r {n : Nat} {w : World} {v : Value} {ps : List Prt} (h : PartsN n w v ps) : PartsR w v ps := by
  obtain ⟨vs, h1, h2, _, h4⟩ := h
  exact ⟨vs, h1, h2, fun k hk hk' => (h4 k hk hk').1⟩
theorem SysN.sys {n : Nat} {w : World} {vp vc vs : Value} {S : SysD} (h : SysN n w vp vc vs S) : Sys w vp vc vs S := ⟨h.p.r, h.c, h.s⟩
theorem Sl.far {w : World} {size n m c j : Nat} {v : Value} {xs : List Value} (h : Sl w size v m xs) (hn : NewB n v) (hc : c < n) (u : Value) : Sl (w.setCell ⟨c, j, none⟩ u) size v m xs := h.set u (fun e => by have := hn c e; omega)
theorem SysN.set {n : Nat} {w : World} {vp vc vs : Value} {S : SysD} (h : SysN n w vp vc vs S) {c j : Nat} (hc : c < n) (u : Value) : SysN n (w.setCell ⟨c, j, none⟩ u) vp vc vs S := by
  obtain ⟨ps, h1, h2, h3, h4⟩ := h.p
  exact ⟨⟨ps, h1, h2.far h3 hc u, h3, fun k hk hk' => ⟨⟨(h4 k hk hk').1.code.far (h4 k hk hk').2.1 hc u, (h4 k hk hk').1.inn.far (h4 k hk hk').2.2 hc u⟩, (h4 k hk hk').2⟩⟩, h.c.far h.nc hc u, h.s.far h.ns hc u, h.nc, h.ns⟩
theorem SysN.up {n : Nat} {w w' : World} {vp vc vs : Value} {S : SysD} (h : SysN n w vp vc vs S) (hb : Below w.heap.size w w') : SysN n w' vp vc vs S := by
  obtain ⟨ps, h1, h2, h3, h4⟩ := h.p
  exact ⟨⟨ps, h1, h2.up hb, h3, fun k hk hk' => ⟨(h4 k hk hk').1.up hb, (h4 k hk hk').2⟩⟩, h.c.up hb, h.s.up hb, h.nc, h.ns⟩
theorem lit_sl (w : World) (xs : List Value) (t : TypeId) (g n size : Nat) (hg : g = w.heap.size) (hl : xs.length = n * size) : Sl (w.alloc (.cells xs.toArray t)) size (.slice (some ⟨g, 0, none⟩) n n) n xs := by
  subst hg
  refine ⟨hl, _, _, rfl, Nat.le_refl _, fun _ => ⟨_, 0, rfl, by simp, fun j u hj => ?_⟩⟩
  rw [Nat.zero_add, World.cell?_alloc_new, ← Array.getElem?_toList]
  exact hj

theorem Sl.up1 {w : World} {size n : Nat} {v : Value} {xs : List Value} (h : Sl w size v n xs) (o : Obj) : Sl (w.alloc o) size v n xs := h.up ((Below.refl _ _).alloc (Nat.le_refl _) _)

def relayS : SysD := ⟨[⟨[⟨10, 0, 0, 0⟩, ⟨12, 0, 0, 0⟩, ⟨15, 0, 0, 0⟩], [6]⟩, ⟨tellerL, []⟩, ⟨[⟨13, 0, 1, 1⟩, ⟨9, 1, 0, 0⟩, ⟨11, 0, 0, 0⟩, ⟨15, 0, 0, 0⟩], []⟩, ⟨[⟨11, 0, 0, 0⟩, ⟨8, 0, 0, 0⟩], []⟩], [⟨2, 0, 1⟩, ⟨1, 1, 2⟩], [⟨0, 3⟩, ⟨1, 4⟩, ⟨3, 1⟩, ⟨2, 4⟩]⟩
theorem relay_chk : chkS relayS = 0 := by decide +kernel
theorem relay_ok : relayS.ok := by
  intro p hp j hj
  have h : ∀ p ∈ relayS.parts, ∀ i ∈ p.code, i.ok := by
    intro p hp i hi
    simp only [relayS, List.mem_cons, List.not_mem_nil, or_false] at hp
    rcases hp with rfl | rfl | rfl | rfl
    all_goals simp only [tellerL, List.mem_cons, List.not_mem_nil, or_false] at hi
    · rcases hi with rfl | rfl | rfl <;> exact ⟨⟨by decide, by decide⟩, ⟨by decide, by decide⟩, ⟨by decide, by decide⟩, ⟨by decide, by decide⟩⟩
    · rcases hi with rfl | rfl | rfl | rfl | rfl <;> exact ⟨⟨by decide, by decide⟩, ⟨by decide, by decide⟩, ⟨by decide, by decide⟩, ⟨by decide, by decide⟩⟩
    · rcases hi with rfl | rfl | rfl | rfl <;> exact ⟨⟨by decide, by decide⟩, ⟨by decide, by decide⟩, ⟨by decide, by decide⟩, ⟨by decide, by decide⟩⟩
    · rcases hi with rfl | rfl <;> exact ⟨⟨by decide, by decide⟩, ⟨by decide, by decide⟩, ⟨by decide, by decide⟩, ⟨by decide, by decide⟩⟩
  exact h p hp _ (List.getElem_mem hj)

set_option maxRecDepth 100000 in
theorem tellerN_any (w : World) : Calls Tryd.prog 59 #[] w fun e w' => e = .returned (.slice (some ⟨w.heap.size, 0, none⟩) 5 5) ∧ w' = w.alloc (.cells (codeC tellerL).toArray 81) := by
  go_enter Tryd.func59, Tryd.ntmps59
  go_wp2
  go_ret
  exact ⟨rfl, rfl⟩

set_option maxRecDepth 100000 in
set_option maxHeartbeats 2000000 in
theorem relay_any (w : World) : Calls Tryd.prog 37 #[] w fun e w' => ∃ vp vc vs, e = .returned (.agg #[vp, vc, vs]) ∧ SysN (w.heap.size + 1) w' vp vc vs relayS ∧ Below w.heap.size w w' := by
  go_enter Tryd.func37, Tryd.ntmps37
  go_wp2_with (go_at_call 59; refine (tellerN_any _).mono ?_; rintro e w1 ⟨rfl, rfl⟩)
  refine bodyPost_ret (v := .agg #[.slice (some ⟨w.heap.size + 1 + 1 + 1 + 1 + 1 + 1, 0, none⟩) 4 4, .slice (some ⟨w.heap.size + 1 + 1 + 1 + 1 + 1 + 1 + 1, 0, none⟩) 2 2, .slice (some ⟨w.heap.size + 1 + 1 + 1 + 1 + 1 + 1 + 1 + 1, 0, none⟩) 4 4]) (by simp [results, Tryd.f37, go_sem]) rfl ⟨_, _, _, rfl, ?_, (by repeat (first | exact Below.refl _ _ | assumption | refine Below.drew ?_ | refine Below.alloc ?_ (by first | (simp; done) | (simp; omega)) _ | refine Below.setCell ?_ (by first | (simp; done) | (simp; omega)) _))⟩
  refine ⟨⟨[(.slice (some ⟨w.heap.size + 1, 0, none⟩) 3 3, .slice (some ⟨w.heap.size + 1 + 1, 0, none⟩) 1 1), (.slice (some ⟨w.heap.size + 1 + 1 + 1, 0, none⟩) 5 5, .slice none 0 0), (.slice (some ⟨w.heap.size + 1 + 1 + 1 + 1, 0, none⟩) 4 4, .slice none 0 0), (.slice (some ⟨w.heap.size + 1 + 1 + 1 + 1 + 1, 0, none⟩) 2 2, .slice none 0 0)], rfl, ?_, newB_at (by omega), ?_⟩, ?_, ?_, newB_at (by omega), newB_at (by omega)⟩
  · exact (by repeat (first | exact lit_sl _ _ _ _ _ _ (by simp) rfl | refine Sl.up1 ?_ _))
  · intro k hk hk'
    have hk4 : k = 0 ∨ k = 1 ∨ k = 2 ∨ k = 3 := by have : k < 4 := hk; omega
    rcases hk4 with rfl | rfl | rfl | rfl
    · exact ⟨⟨(by repeat (first | exact lit_sl _ _ _ _ _ _ (by simp) rfl | refine Sl.up1 ?_ _)), (by repeat (first | exact lit_sl _ _ _ _ _ _ (by simp) rfl | refine Sl.up1 ?_ _))⟩, newB_at (by omega), newB_at (by omega)⟩
    · exact ⟨⟨(by repeat (first | exact lit_sl _ _ _ _ _ _ (by simp) rfl | refine Sl.up1 ?_ _)), Sl.nil _ _⟩, newB_at (by omega), newB_nil _ _⟩
    · exact ⟨⟨(by repeat (first | exact lit_sl _ _ _ _ _ _ (by simp) rfl | refine Sl.up1 ?_ _)), Sl.nil _ _⟩, newB_at (by omega), newB_nil _ _⟩
    · exact ⟨⟨(by repeat (first | exact lit_sl _ _ _ _ _ _ (by simp) rfl | refine Sl.up1 ?_ _)), Sl.nil _ _⟩, newB_at (by omega), newB_nil _ _⟩
  · exact (by repeat (first | exact lit_sl _ _ _ _ _ _ (by simp) rfl | refine Sl.up1 ?_ _))
  · exact (by repeat (first | exact lit_sl _ _ _ _ _ _ (by simp) rfl | refine Sl.up1 ?_ _))
end Go.Proofs.YtnnnljfdjdehaaaDoor

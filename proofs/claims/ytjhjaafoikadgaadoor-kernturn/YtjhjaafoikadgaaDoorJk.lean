/- sched: the slots, gone through by a function: what comes, and when it ends. -/
import Derived.RangeFuncNested
import Derived.RangeFuncBound
import Derived.RangeFuncCalls
import Derived.RangeFuncLeaves
import Derived.RangeFuncBox
import Derived.Shelf.Abstract
import Derived.Shelf.RegionOpen
import Derived.WalkKit
import Derived.OwnWalkIn
import Derived.TacticsInMore
import Derived.LoopNIn
import Derived.LoopIn
import Derived.Test.YtjhjaafoikadgaaDoorJg
import Derived.Test.YtjhjaafoikadgaaDoorCf6
import Derived.Deep.CutRange
import Derived.Deep.RegionWith
import Derived.Deep.RegionHeld3
namespace Go.Proofs.YtjhjaafoikadgaaDoor
set_option linter.unusedSimpArgs false
set_option linter.unusedVariables false
open Go.RowKit Go.Sort Go.Shelf

attribute [local go_sem] Oper.semAt_some

/-- What the ticks come to, from e on. -/
def sumT : Int → List Slt → Int
  | e, [] => e
  | e, t :: r => sumT (e + t.tk) r
theorem sumT_snoc : ∀ (l : List Slt) (e : Int) (t : Slt), sumT e (l ++ [t]) = sumT e l + t.tk
  | [], e, t => rfl
  | x :: r, e, t => by rw [List.cons_append, sumT, sumT, sumT_snoc r]
/-- Whose turn it is, and the first tick behind it. -/
def turnsL : Int → List Slt → List (Int × Int)
  | _, [] => []
  | e, t :: r => (t.pt, e + t.tk) :: turnsL (e + t.tk) r
theorem turnsL_snoc : ∀ (l : List Slt) (e : Int) (t : Slt), turnsL e (l ++ [t]) = turnsL e l ++ [(t.pt, sumT e l + t.tk)]
  | [], e, t => rfl
  | x :: r, e, t => by rw [List.cons_append, turnsL, turnsL_snoc r, turnsL, sumT]; rfl
theorem turnsL_len : ∀ (l : List Slt) (e : Int), (turnsL e l).length = l.length
  | [], e => rfl
  | x :: r, e => by rw [turnsL, List.length_cons, turnsL_len r]; rfl
/-- Slots of a right system. -/
def SlotsOk (ts : List Slt) : Prop := ts.length ≤ 6 ∧ ∀ j (h : j < ts.length), 1 ≤ ts[j].tk ∧ ts[j].tk ≤ 8
theorem sumT_bd {ts : List Slt} (h : SlotsOk ts) : ∀ k, k ≤ ts.length → (k : Int) ≤ sumT 0 (ts.take k) ∧ sumT 0 (ts.take k) ≤ 8 * k
  | 0, _ => by simp [sumT]
  | k + 1, hk => by
    have ih := sumT_bd h k (by omega)
    have ht := h.2 k (by omega)
    rw [List.take_succ_eq_append_getElem (by omega), sumT_snoc]
    omega

set_option maxRecDepth 100000 in
set_option maxHeartbeats 2000000 in
theorem turns1_in (F : Fence) (n : Nat) (hf : F.fn 91) (hro : F.round = none) (hn : 1 ≤ n) (l Bs n₀ b off cap : Nat) (ts : List Slt) (hts : SlotsOk ts) (hb : b < n₀) (J Jx : List (Int × Int) → World → Prop) (W : World) (hW : n₀ ≤ W.heap.size) (hJ : AbidesFrom W.heap.size J)
    (hY : ∀ pre x W, J pre W → pre.length < ts.length → YieldAt F (n - 1) Tryd.prog l #[.int .i64 x.1, .int .i64 x.2] W fun e W' =>
      (e = .returned (.bool true) ∧ J (pre ++ [x]) W' ∧ Below n₀ W W') ∨ (e = .returned (.bool false) ∧ Jx (pre ++ [x]) W'))
    (hBs : W.cell? ⟨Bs, 0, none⟩ = some (.slice (some ⟨b, off, none⟩) ts.length cap)) (hc : ∀ j u, (rowC slC ts)[j]? = some u → W.cell? ⟨b, off + j, none⟩ = some u) (h0 : J [] W) :
    CallsIn F n Tryd.prog 91 #[.func (.yield l) #[] #[], .pointer (some ⟨Bs, 0, none⟩)] W fun e W' => (∃ v, e = .returned v) ∧
      ((∃ ys, ys = turnsL 0 ts ∧ J ys W') ∨ (∃ pre, (∃ k, k ≤ ts.length ∧ pre = turnsL 0 (ts.take k)) ∧ Jx pre W')) := by
  have HC := Lib.hid hc
  have HJ := Lib.hid hJ
  have HT := Lib.hid hts
  have HY := Lib.hid hY
  have hl6 := hts.1
  clear hc hJ hts hY
  refine callsIn_of_wp Tryd.func91 rfl hf ?_ hro
  simp only [Tryd.ntmps91, List.size_toArray, List.length_cons, List.length_nil, Nat.reduceAdd, Nat.reduceSub, Array.replicate_succ, Array.replicate_zero, List.push_toArray, List.append_toArray, List.nil_append, List.cons_append]
  gi_wp2
  gi_loopw [3, 8] (fun e i wr => ∃ k : Nat, k ≤ ts.length ∧ i = .int .i64 k ∧ e = .int .i64 (sumT 0 (ts.take k)) ∧ J (turnsL 0 (ts.take k)) wr ∧ Below n₀ W wr)
    (fun _ i _ => ts.length - (intOf i).toNat)
  case atStart => exact ⟨0, Nat.zero_le _, rfl, rfl, h0, Below.refl _ _⟩
  case round =>
    obtain ⟨k, hk, rfl, rfl, hJs, hnx⟩ := hrel
    have hbd := sumT_bd HT.out k hk
    by_cases hlt : k < ts.length
    · have htk := HT.out.2 k hlt
      have hli : (k : Int) < ts.length := by omega
      have hJ1 := HJ.out _ _ (wr.alloc (.cells #[.int .i64 ts[k].pt, .int .i64 ts[k].tk] 72)) none hJs (World.grownBy_alloc _ _ _) (fun r e => by cases e)
      obtain ⟨fn, tmps, assign, body, hy, hR⟩ := HY.out _ (ts[k].pt, sumT 0 (ts.take k) + ts[k].tk) _ hJ1 (by rw [turnsL_len, List.length_take]; omega)
      dsimp only at hy
      obtain ⟨c0, c1⟩ := slot_cells HC.out k hlt
      have c0 := bcl hnx hb c0
      have c1 := bcl hnx hb c1
      have HSN : Hid (turnsL 0 (ts.take (k + 1)) = turnsL 0 (ts.take k) ++ [(ts[k].pt, sumT 0 (ts.take k) + ts[k].tk)]) := by
        show _ = _
        rw [List.take_succ_eq_append_getElem hlt, turnsL_snoc]
      have HSM : Hid (sumT 0 (ts.take (k + 1)) = sumT 0 (ts.take k) + ts[k].tk) := by
        show _ = _
        rw [List.take_succ_eq_append_getElem hlt, sumT_snoc]
      have hsz := hnx.size
      gi_wp2
      refine hR.mono ?_
      rintro e W3 (⟨rfl, hJ3, hk3⟩ | ⟨rfl, hJx3⟩)
      · gi_wp2
        go_roundw
        case rel => exact ⟨k + 1, by omega, by go_num, by rw [HSM.out], by rw [HSN.out]; exact hJ3, (hnx.alloc (by omega) _).trans hk3⟩
        case measure => simp [intOf]; omega
      · gi_wp2
        refine bodyPost_ret (results_none rfl _ _ _) rfl ?_
        exact ⟨⟨_, rfl⟩, .inr ⟨_, ⟨k + 1, by omega, HSN.out.symm⟩, hJx3⟩⟩
    · obtain rfl : k = ts.length := by omega
      rw [List.take_length] at hJs
      gi_wp2
      go_end0
      exact ⟨⟨_, rfl⟩, .inl ⟨_, rfl, hJs⟩⟩

set_option maxHeartbeats 1000000 in
theorem turns_in (F : Fence) (n : Nat) (hf : F.fn 68) (hro : F.round = none) (a : Option Addr) (len cap : Nat) (w : World) :
    CallsIn F n Tryd.prog 68 #[.slice a len cap] w fun e w' => e = .returned (.func (.func 91) #[] #[.pointer (some ⟨w.heap.size, 0, none⟩)]) ∧ w' = w.alloc (.cells #[.slice a len cap] 24) := by
  refine callsIn_of_wp Tryd.func68 rfl hf ?_ hro
  simp only [Tryd.ntmps68, List.size_toArray, List.length_cons, List.length_nil, Nat.reduceAdd, Nat.reduceSub, Array.replicate_succ, Array.replicate_zero, List.push_toArray, List.append_toArray, List.nil_append, List.cons_append]
  gi_wp2
  go_ret
  exact ⟨rfl, rfl⟩

theorem turns_stops (F : Fence) (n : Nat) (hf : F.fn 91) (hro : F.round = none) (hn : 1 ≤ n) (Bs n₀ b off cap : Nat) (ts : List Slt) (hts : SlotsOk ts) (w : World) (hBs : Bs < w.heap.size) (hn₀ : n₀ ≤ w.heap.size) (hb : b < n₀)
    (hc : w.cell? ⟨Bs, 0, none⟩ = some (.slice (some ⟨b, off, none⟩) ts.length cap)) (hI : ∀ j u, (rowC slC ts)[j]? = some u → w.cell? ⟨b, off + j, none⟩ = some u) :
    SeqStopsK F n Tryd.prog 91 #[.pointer (some ⟨Bs, 0, none⟩)] (fun x : Int × Int => #[Value.int .i64 x.1, Value.int .i64 x.2]) (Below n₀) (fun ys => ys = turnsL 0 ts)
      (fun pre => ∃ k, k ≤ ts.length ∧ pre = turnsL 0 (ts.take k)) ts.length w := fun l J Jx W hW hJ _ hY h0 => by
  have hc' := (hW.cell (p := ⟨Bs, 0, none⟩) hBs).trans hc
  exact turns1_in F n hf hro hn l Bs n₀ b off cap ts hts hb J Jx W (Nat.le_trans hn₀ hW.size) hJ hY hc' (fun j u hj => bcl hW (by omega) (hI j u hj)) h0
end Go.Proofs.YtjhjaafoikadgaaDoor

namespace Go.Proofs.YtjhjaafoikadgaaDoor
set_option linter.unusedSimpArgs false
set_option linter.unusedVariables false
open Go.RowKit Go.Sort Go.Shelf

attribute [local go_sem] Oper.semAt_some

theorem turnsL_app : ∀ (l m : List Slt) (e : Int), turnsL e (l ++ m) = turnsL e l ++ turnsL (sumT e l) m
  | [], m, e => rfl
  | x :: r, m, e => by rw [List.cons_append, turnsL, turnsL_app r, turnsL, sumT]; rfl
/-- The last one's end. -/
def lastE (e : Int) : List (Int × Int) → Int
  | [] => e
  | x :: r => lastE x.2 r
theorem lastE_snoc : ∀ (l : List (Int × Int)) (e : Int) (x : Int × Int), lastE e (l ++ [x]) = x.2
  | [], e, x => rfl
  | y :: r, e, x => by rw [List.cons_append, lastE, lastE_snoc r]
theorem lastE_turns : ∀ (l : List Slt) (e : Int), lastE e (turnsL e l) = sumT e l
  | [], e => rfl
  | x :: r, e => by rw [turnsL, lastE, sumT, lastE_turns r]
/-- The last one. -/
def lastP (w : Int) : List (Int × Int) → Int
  | [] => w
  | x :: r => lastP x.1 r
theorem lastP_snoc : ∀ (l : List (Int × Int)) (e : Int) (x : Int × Int), lastP e (l ++ [x]) = x.1
  | [], e, x => rfl
  | y :: r, e, x => by rw [List.cons_append, lastP, lastP_snoc r]
/-- Who has a tick: the first one whose end lies behind it. -/
def ownL (tick : Int) : Int → List (Int × Int) → Int
  | who, [] => who
  | _, x :: r => if tick < x.2 then x.1 else ownL tick x.1 r
theorem ownL_all (tick : Int) : ∀ (l : List (Int × Int)) (who : Int), (∀ p ∈ l, p.2 ≤ tick) → ownL tick who l = lastP who l
  | [], _, _ => rfl
  | x :: r, who, h => by
    rw [ownL, if_neg (by have := h x (by simp); omega), lastP]
    exact ownL_all tick r x.1 (fun p hp => h p (by simp [hp]))
theorem ownL_stop (tick : Int) : ∀ (l : List (Int × Int)) (who : Int) (x : Int × Int) (r : List (Int × Int)), (∀ p ∈ l, p.2 ≤ tick) → tick < x.2 → ownL tick who (l ++ x :: r) = x.1
  | [], _, x, r, _, hx => by rw [List.nil_append, ownL, if_pos hx]
  | y :: l, who, x, r, h, hx => by
    rw [List.cons_append, ownL, if_neg (by have := h y (by simp); omega)]
    exact ownL_stop tick l y.1 x r (fun p hp => h p (by simp [hp])) hx

set_option maxRecDepth 100000 in
set_option maxHeartbeats 2000000 in
theorem frame_in (F : Fence) (n : Nat) (h3 : F.fn 44) (h5 : F.fn 68) (h7 : F.fn 91) (hro : F.round = none) (hn : 3 ≤ n) (b off cap : Nat) (ts : List Slt) (hts : SlotsOk ts) (w : World) (hb : b < w.heap.size)
    (hI : ∀ j u, (rowC slC ts)[j]? = some u → w.cell? ⟨b, off + j, none⟩ = some u) :
    CallsIn F n Tryd.prog 44 #[.slice (some ⟨b, off, none⟩) ts.length cap] w fun e W' => e = .returned (.int .i64 (sumT 0 ts)) ∧ Below w.heap.size w W' := by
  have h1 : 1 ≤ n := by omega
  refine callsIn_of_wp_marks Tryd.func44 rfl h3 ?_ hro
  simp only [Tryd.ntmps44, List.size_toArray, List.length_cons, List.length_nil, Nat.reduceAdd, Nat.reduceSub, Array.replicate_succ, Array.replicate_zero, List.push_toArray, List.append_toArray, List.nil_append, List.cons_append]
  gi_wp2_with (gi_at_call 68; refine (turns_in F (n - 1) h5 hro _ _ _ _).mono ?_; rintro e w' ⟨rfl, rfl⟩)
  have bS := Boxed.new w 3 (.int .i64 0)
  have bN := Boxed.new (w.alloc (.cells #[.int .i64 0] 3)) 24 (.slice (some ⟨b, off, none⟩) ts.length cap)
  rw [World.size_alloc] at bN
  have hB0 : Below w.heap.size w ((w.alloc (.cells #[.int .i64 0] 3)).alloc (.cells #[.slice (some ⟨b, off, none⟩) ts.length cap] 24)) := ((Below.refl _ w).alloc (Nat.le_refl _) _).alloc (by simp) _
  refine wpIn_rangeFunc_ownG hro h1 (gf := 91) (lb := #[.pointer (some ⟨w.heap.size + 1, 0, none⟩)]) rfl h7 (enters_of Tryd.func91 (by kernel_rfl) rfl)
    (turns_stops F (n - 1) h7 hro (by omega) (w.heap.size + 1) w.heap.size b off cap ts hts _ (by simp) (by simp; omega) hb bN.cell (fun j u hj => bcl hB0 hb (hI j u hj))) belowK_t (belowK_b (by simp; omega)) (Below.refl _ _) (fun _ => rfl)
    (fun pre W => (W.cell? ⟨w.heap.size, 0, none⟩ = some (.int .i64 (lastE 0 pre)) ∧ W.frozen? ⟨w.heap.size, 0, none⟩ = false) ∧ Below w.heap.size w W)
    (fun _ _ _ => False)
    (OwnFrom.and (Own.from (fun s A B row hs hg hr => ⟨cell_kept hs.1 hg hr, (frozen_kept hs.1 hg hr).trans hs.2⟩) _) (ownFrom_below (Nat.le_refl _) (by simp; omega)))
    (fun _ _ _ _ _ hs _ _ => hs)
    ⟨⟨(bS.alloc _).cell, (bS.alloc _).frozen⟩, hB0⟩
    (fun x => { tmps := #[.slice (some ⟨b, off, none⟩) ts.length cap, undef, .int .i64 0, .pointer (some ⟨w.heap.size, 0, none⟩), undef, .int .i64 x.2, .slice (some ⟨b, off, none⟩) ts.length cap, .func (.func 91) #[] #[.pointer (some ⟨w.heap.size + 1, 0, none⟩)], .int .i64 x.1, .int .i64 x.2, undef, undef], defers := [] }) ?assign ?body ?done ?stop
  case assign =>
    intro l x W K hK
    gi_wp2
    exact hK
  case body =>
    rintro l pre x W ⟨⟨hc, hf⟩, hB⟩ _
    gi_wp2
    exact ⟨(KeepsOthers.setCell _ _ _).from _, (Below.refl w.heap.size W).setCell (p := ⟨w.heap.size, 0, none⟩) (Nat.le_refl _) _, ⟨by rw [lastE_snoc]; exact World.cell?_setCell_same' _ _ _ (by rw [hc]; rfl), by rw [World.frozen?_setCell]; exact hf⟩, hB.setCell (p := ⟨w.heap.size, 0, none⟩) (Nat.le_refl _) _⟩
  case done =>
    rintro D ys W hD rfl ⟨⟨hc, _⟩, hB⟩ hK
    rw [lastE_turns] at hc
    gi_wp2
    refine ⟨by simp, .inl ⟨_, _, rfl, run_takeDeferred hK, ?_⟩⟩
    exact ⟨_, results_tmp rfl _ _ _, rfl, hB.trans (belowK_b (w := w) (Nat.le_refl _) W D _ _ (by simp at hD; omega) hK rfl rfl)⟩
  case stop =>
    rintro D c pre W _ _ h _
    exact h.elim

set_option maxRecDepth 100000 in
set_option maxHeartbeats 2000000 in
theorem owner_in (F : Fence) (n : Nat) (h3 : F.fn 43) (h5 : F.fn 68) (h7 : F.fn 91) (hro : F.round = none) (hn : 3 ≤ n) (b off cap : Nat) (ts : List Slt) (hts : SlotsOk ts) (tick : Int) (w : World) (hb : b < w.heap.size)
    (hI : ∀ j u, (rowC slC ts)[j]? = some u → w.cell? ⟨b, off + j, none⟩ = some u) :
    CallsIn F n Tryd.prog 43 #[.slice (some ⟨b, off, none⟩) ts.length cap, .int .i64 tick] w fun e W' => e = .returned (.int .i64 (ownL tick 0 (turnsL 0 ts))) ∧ Below w.heap.size w W' := by
  have h1 : 1 ≤ n := by omega
  refine callsIn_of_wp_marks Tryd.func43 rfl h3 ?_ hro
  simp only [Tryd.ntmps43, List.size_toArray, List.length_cons, List.length_nil, Nat.reduceAdd, Nat.reduceSub, Array.replicate_succ, Array.replicate_zero, List.push_toArray, List.append_toArray, List.nil_append, List.cons_append]
  gi_wp2_with (gi_at_call 68; refine (turns_in F (n - 1) h5 hro _ _ _ _).mono ?_; rintro e w' ⟨rfl, rfl⟩)
  have bT := Boxed.new w 3 (.int .i64 tick)
  have bS := Boxed.new (w.alloc (.cells #[.int .i64 tick] 3)) 3 (.int .i64 0)
  have bN := Boxed.new ((w.alloc (.cells #[.int .i64 tick] 3)).alloc (.cells #[.int .i64 0] 3)) 24 (.slice (some ⟨b, off, none⟩) ts.length cap)
  rw [World.size_alloc] at bS
  rw [World.size_alloc, World.size_alloc] at bN
  have hB0 : Below w.heap.size w (((w.alloc (.cells #[.int .i64 tick] 3)).alloc (.cells #[.int .i64 0] 3)).alloc (.cells #[.slice (some ⟨b, off, none⟩) ts.length cap] 24)) := (((Below.refl _ w).alloc (Nat.le_refl _) _).alloc (by simp) _).alloc (by simp; omega) _
  refine wpIn_rangeFunc_ownG hro h1 (gf := 91) (lb := #[.pointer (some ⟨w.heap.size + 1 + 1, 0, none⟩)]) rfl h7 (enters_of Tryd.func91 (by kernel_rfl) rfl)
    (turns_stops F (n - 1) h7 hro (by omega) (w.heap.size + 1 + 1) w.heap.size b off cap ts hts _ (by simp) (by simp; omega) hb bN.cell (fun j u hj => bcl hB0 hb (hI j u hj))) belowK_t (belowK_b (by simp; omega)) (Below.refl _ _) (fun _ => rfl)
    (fun pre W => ((∀ p ∈ pre, p.2 ≤ tick) ∧ W.cell? ⟨w.heap.size, 0, none⟩ = some (.int .i64 tick) ∧ W.cell? ⟨w.heap.size + 1, 0, none⟩ = some (.int .i64 (lastP 0 pre)) ∧ W.frozen? ⟨w.heap.size + 1, 0, none⟩ = false) ∧ Below w.heap.size w W)
    (fun c pre W => (c = .exit 0 ∧ ∃ ini last, pre = ini ++ [last] ∧ (∀ p ∈ ini, p.2 ≤ tick) ∧ tick < last.2 ∧ W.cell? ⟨w.heap.size + 1, 0, none⟩ = some (.int .i64 last.1)) ∧ Below w.heap.size w W)
    (OwnFrom.and (Own.from (fun s A B row hs hg hr => ⟨hs.1, cell_kept hs.2.1 hg hr, cell_kept hs.2.2.1 hg hr, (frozen_kept hs.2.2.1 hg hr).trans hs.2.2.2⟩) _) (ownFrom_below (Nat.le_refl _) (by simp; omega)))
    (fun c => OwnFrom.and (Own.from (fun s A B row hs hg hr => by obtain ⟨hc, ini, last, e1, e2, e3, e4⟩ := hs; exact ⟨hc, ini, last, e1, e2, e3, cell_kept e4 hg hr⟩) _) (ownFrom_below (Nat.le_refl _) (by simp; omega)))
    ⟨⟨by simp, ((bT.alloc _).alloc _).cell, (bS.alloc _).cell, (bS.alloc _).frozen⟩, hB0⟩
    (fun x => { tmps := #[.slice (some ⟨b, off, none⟩) ts.length cap, .int .i64 tick, undef, .pointer (some ⟨w.heap.size, 0, none⟩), .int .i64 0, .pointer (some ⟨w.heap.size + 1, 0, none⟩), .int .i64 x.1, .int .i64 x.2, .slice (some ⟨b, off, none⟩) ts.length cap, .func (.func 91) #[] #[.pointer (some ⟨w.heap.size + 1 + 1, 0, none⟩)], .int .i64 x.1, .int .i64 x.2, undef, undef, undef, undef, undef], defers := [] }) ?assign ?body ?done ?stop
  case assign =>
    intro l x W K hK
    gi_wp2
    exact hK
  case body =>
    rintro l pre x W ⟨⟨hp, hct, hcr, hfr⟩, hB⟩ _
    have hct' : (W.setCell ⟨w.heap.size + 1, 0, none⟩ (.int .i64 x.1)).cell? ⟨w.heap.size, 0, none⟩ = some (.int .i64 tick) := cl_set (Or.inl (by omega)) hct
    gi_wp2
    · have hx : tick < x.2 := by assumption
      exact ⟨(KeepsOthers.setCell _ _ _).from _, ⟨rfl, pre, x, rfl, hp, hx, World.cell?_setCell_same' _ _ _ (by rw [hcr]; rfl)⟩, hB.setCell (p := ⟨w.heap.size + 1, 0, none⟩) (by simp) _⟩
    · have hx : x.2 ≤ tick := by first | assumption | omega
      exact ⟨(KeepsOthers.setCell _ _ _).from _, (Below.refl w.heap.size W).setCell (p := ⟨w.heap.size + 1, 0, none⟩) (by simp) _, ⟨fun p hp' => (List.mem_append.1 hp').elim (hp p) (fun e => by simp at e; subst e; exact hx), hct', by rw [lastP_snoc]; exact World.cell?_setCell_same' _ _ _ (by rw [hcr]; rfl), by rw [World.frozen?_setCell]; exact hfr⟩, hB.setCell (p := ⟨w.heap.size + 1, 0, none⟩) (by simp) _⟩
  case done =>
    rintro D ys W hD rfl ⟨⟨hp, hct, hcr, hfr⟩, hB⟩ hK
    rw [← ownL_all tick _ 0 hp] at hcr
    gi_wp2
    refine ⟨by simp, .inl ⟨_, _, rfl, run_takeDeferred hK, ?_⟩⟩
    exact ⟨_, results_tmp rfl _ _ _, rfl, hB.trans (belowK_b (w := w) (Nat.le_refl _) W D _ _ (by simp at hD; omega) hK rfl rfl)⟩
  case stop =>
    rintro D c pre W hD ⟨k, hk, rfl⟩ ⟨⟨rfl, ini, last, e1, e2, e3, hcr⟩, hB⟩ hK
    have he : last.1 = ownL tick 0 (turnsL 0 ts) := by
      have h := turnsL_app (ts.take k) (ts.drop k) 0
      rw [List.take_append_drop, e1, List.append_assoc] at h
      rw [h]
      exact (ownL_stop tick ini 0 last _ e2 e3).symm
    rw [he] at hcr
    gi_wp2
    refine ⟨by simp, .inl ⟨_, _, rfl, run_takeDeferred hK, ?_⟩⟩
    exact ⟨_, results_tmp rfl _ _ _, rfl, hB.trans (belowK_b (w := w) (Nat.le_refl _) W D _ _ (by simp at hD; omega) hK rfl rfl)⟩

theorem frame_any (ts : List Slt) (v : Value) (w : World) (hts : SlotsOk ts) (h1 : 1 ≤ ts.length) (hS : Sl w 2 v ts.length (rowC slC ts)) : Calls Tryd.prog 44 #[v] w fun e w' => e = .returned (.int .i64 (sumT 0 ts)) ∧ Below w.heap.size w w' := by
  obtain ⟨b, off, cap, rfl, hcap, hb, hc⟩ := hS.open (by omega)
  exact (callsIn_wide (n := 3)).1 (frame_in Fence.wide 3 trivial trivial trivial rfl (Nat.le_refl _) b off cap ts hts w hb hc)
theorem owner_any (ts : List Slt) (v : Value) (tick : Int) (w : World) (hts : SlotsOk ts) (h1 : 1 ≤ ts.length) (hS : Sl w 2 v ts.length (rowC slC ts)) : Calls Tryd.prog 43 #[v, .int .i64 tick] w fun e w' => e = .returned (.int .i64 (ownL tick 0 (turnsL 0 ts))) ∧ Below w.heap.size w w' := by
  obtain ⟨b, off, cap, rfl, hcap, hb, hc⟩ := hS.open (by omega)
  exact (callsIn_wide (n := 3)).1 (owner_in Fence.wide 3 trivial trivial trivial rfl (Nat.le_refl _) b off cap ts hts tick w hb hc)
end Go.Proofs.YtjhjaafoikadgaaDoor

namespace Go.Proofs.YtjhjaafoikadgaaDoor
set_option linter.unusedSimpArgs false
set_option linter.unusedVariables false
open Go.RowKit Go.Sort

/-- Whose turn each tick of a frame is. -/
def repL : List Slt → List Int
  | [] => []
  | t :: r => List.replicate t.tk.toNat t.pt ++ repL r
theorem repL_snoc : ∀ (l : List Slt) (t : Slt), repL (l ++ [t]) = repL l ++ List.replicate t.tk.toNat t.pt
  | [], t => by simp [repL]
  | x :: r, t => by rw [List.cons_append, repL, repL, repL_snoc r, List.append_assoc]
theorem repL_len : ∀ (l : List Slt) (e : Int), (∀ t ∈ l, 0 ≤ t.tk) → sumT e l = e + (repL l).length
  | [], e, _ => by simp [sumT, repL]
  | x :: r, e, h => by
    rw [sumT, repL_len r _ (fun t ht => h t (by simp [ht])), repL, List.length_append, List.length_replicate]
    have := h x (by simp)
    omega
theorem ownL_rep : ∀ (l : List Slt) (e who : Int) (x : Nat), (∀ t ∈ l, 0 ≤ t.tk) → (hx : x < (repL l).length) → ownL (e + x) who (turnsL e l) = (repL l)[x]
  | t :: r, e, who, x, h, hx => by
    have h0 := h t (by simp)
    simp only [turnsL, ownL, repL]
    by_cases hlt : x < t.tk.toNat
    · rw [if_pos (by omega), List.getElem_append_left (by simpa using hlt)]
      simp
    · rw [if_neg (by omega), List.getElem_append_right (by simpa using hlt)]
      simp only [repL, List.length_append, List.length_replicate] at hx
      have := ownL_rep r (e + t.tk) t.pt (x - t.tk.toNat) (fun t ht => h t (by simp [ht])) (by omega)
      rw [show e + t.tk + ((x - t.tk.toNat : Nat) : Int) = e + x by omega] at this
      rw [this]
      congr 1
      simp

theorem chkS_zero {S : SysD} (h : chkS S = 0) : countsB S = true ∧ (∀ j (hj : j < S.parts.length), chkC S.parts[j].code = 0) ∧ S.chans.any kindBad = false ∧ placesB S = true ∧ namesB S = true := by
  unfold chkS at h
  split at h
  · omega
  · rename_i h1
    split at h
    · rename_i h2; exact absurd h h2
    · rename_i h2
      split at h
      · omega
      · rename_i h3
        split at h
        · omega
        · rename_i h4
          split at h
          · omega
          · rename_i h5
            exact ⟨by simpa using h1, firstP_zero (by simpa using h2), by simpa using h3, by simpa using h4, by simpa using h5⟩
theorem slots_ok {S : SysD} (h : chkS S = 0) : SlotsOk S.slots ∧ 1 ≤ S.slots.length := by
  obtain ⟨h1, -, -, h4, -⟩ := chkS_zero h
  obtain ⟨hc, -⟩ := countsB_is h1
  refine ⟨⟨hc.2.2.2.2, fun j hj => ?_⟩, hc.2.2.2.1⟩
  unfold placesB at h4
  rw [Bool.and_eq_true, Bool.not_eq_true', Bool.not_eq_true', List.any_eq_false, List.any_eq_false] at h4
  have := h4.2 _ (List.getElem_mem hj)
  unfold slotBad withinB at this
  simp at this
  omega
theorem SlotsOk.nonneg {ts : List Slt} (h : SlotsOk ts) : ∀ t ∈ ts, 0 ≤ t.tk := fun t ht => by
  obtain ⟨j, hj, rfl⟩ := List.getElem_of_mem ht
  have := h.2 j hj; omega
theorem frame_pos {ts : List Slt} (h : SlotsOk ts) (h1 : 1 ≤ ts.length) : 1 ≤ sumT 0 ts ∧ sumT 0 ts ≤ 48 := by
  have := sumT_bd h ts.length (Nat.le_refl _)
  rw [List.take_length] at this
  have := h.1
  omega
/-- What Who tells of a right system. -/
def whoS (S : SysD) (tick : Int) : Int := ownL (tick % sumT 0 S.slots) 0 (turnsL 0 S.slots)

set_option maxRecDepth 100000 in
set_option maxHeartbeats 2000000 in
/-- The reference's turns. -/
theorem turnsRef_any (S : SysD) (hok : SlotsOk S.slots) (h1 : 1 ≤ S.slots.length) (vp vc vs : Value) (w : World) (hS : Sys w vp vc vs S) :
    Calls Tryd.prog 65 #[.agg #[vp, vc, vs]] w fun e w' => ∃ v, e = .returned v ∧ SlN w w' v (repL S.slots).length (ints (repL S.slots)) ∧ Below w.heap.size w w' := by
  obtain ⟨i0, hi, hz0, hz1, hz2⟩ := info_parts info3
  obtain ⟨pa, pc, rfl⟩ := hS.p.form
  obtain ⟨ca, cc, rfl⟩ := hS.c.form
  obtain ⟨sb, so, sc, rfl, hsc, hsb, hss⟩ := hS.s.open (by omega)
  have HO := Lib.hid hok
  have HC := Lib.hid hss
  have hl6 := hok.1
  clear hok hss hS
  have hB0 := box_new w (.slice pa S.parts.length pc) (.slice ca S.chans.length cc) (.slice (some ⟨sb, so, none⟩) S.slots.length sc) 26 _ rfl
  have hD0 : Below w.heap.size w (w.alloc (.cells #[.slice pa S.parts.length pc, .slice ca S.chans.length cc, .slice (some ⟨sb, so, none⟩) S.slots.length sc] 26)) := (Below.refl _ _).alloc (Nat.le_refl _) _
  have hz : (w.alloc (.cells #[.slice pa S.parts.length pc, .slice ca S.chans.length cc, .slice (some ⟨sb, so, none⟩) S.slots.length sc] 26)).heap.size = w.heap.size + 1 := by simp
  go_enter Tryd.func65, Tryd.ntmps65
  go_wp2
  generalize w.alloc (.cells #[.slice pa S.parts.length pc, .slice ca S.chans.length cc, .slice (some ⟨sb, so, none⟩) S.slots.length sc] 26) = W0 at *
  have HB0 := Lib.hid hB0
  have HD0 := Lib.hid hD0
  clear hB0 hD0
  go_loopw [3, 4] (fun o i wr => ∃ (k : Nat) (zs : List Int), i = .int .i64 k ∧ k ≤ S.slots.length ∧ Hid (zs = repL (S.slots.take k)) ∧ zs.length ≤ 8 * k ∧ wr.ownsRow W0.heap.size 3 1 o zs.length (ints zs) ∧ Hid (Below W0.heap.size W0 wr)) (fun _ i _ => S.slots.length - (intOf i).toNat)
  case atStart => exact ⟨0, [], rfl, by omega, (show [] = repL (S.slots.take 0) from rfl), Nat.le_refl _, World.ownsRow_nil _ _ _ _, Below.refl _ _⟩
  case round =>
    obtain ⟨k, zs, rfl, hk, HZ, hzl, hown, HT⟩ := hrel
    obtain ⟨oa, oc, rfl⟩ := own_form hown
    have k2 := (HB0.out.up HT.out).s
    by_cases hlt : k < S.slots.length
    · have hli : (k : Int) < S.slots.length := by omega
      obtain ⟨d0, d1⟩ := slot_cells HC.out k hlt
      have D0 := Lib.hid d0
      have D1 := Lib.hid d1
      obtain ⟨m, hm, hm8⟩ : ∃ m : Nat, S.slots[k].tk = m ∧ m ≤ 8 := by
        have := HO.out.2 k hlt
        exact ⟨S.slots[k].tk.toNat, by omega, by omega⟩
      have HM := Lib.hid hm
      clear d0 d1 hm
      go_wp2
      go_loopw [3, 5] (fun o i wr => ∃ (t : Nat) (ys : List Int), i = .int .i64 t ∧ t ≤ m ∧ Hid (ys = zs ++ List.replicate t S.slots[k].pt) ∧ ys.length ≤ 8 * k + t ∧ wr.ownsRow W0.heap.size 3 1 o ys.length (ints ys) ∧ Hid (Below W0.heap.size W0 wr)) (fun _ i _ => m - (intOf i).toNat)
      case atStart => exact ⟨0, zs, rfl, by omega, (show zs = zs ++ List.replicate 0 S.slots[k].pt by simp), by omega, hown, HT⟩
      case round =>
        clear hown HT k2
        obtain ⟨t, ys, rfl, ht, HY, hyl, hown, HT⟩ := hrel
        obtain ⟨oa, oc, rfl⟩ := own_form hown
        have k2 := (HB0.out.up HT.out).s
        have hs0 := HD0.out.size
        have d0 := bcl HT.out (by omega) (bcl HD0.out hsb D0.out)
        have d1 := bcl HT.out (by omega) (bcl HD0.out hsb D1.out)
        rw [HM.out] at d1
        by_cases htt : t < m
        · have hti : (t : Int) < m := by omega
          have hbs := HT.out.size
          go_wp2_with (at_builtin; refine wpList_append_lies _ rfl (.tmp 23) (.tmp 30) 52 rfl W0.heap.size 3 i0 (.int .i64 0) 1 8 Tryd.underlying52 hi hz0 hz1 hz2 rfl (by decide) (.slice oa ys.length oc) ys.length (ints ys) rfl (hown.alloc _) ⟨_, 0, none⟩ 1 1 [.int .i64 S.slots[k].pt] rfl rfl (one_new _ _ 3) (int_cell _) (by decide) (by unfold maxLen; omega) (by omega) (by simp; omega) _ rfl ?_; intro g cap1 w1 hown1 hgrow hat hglt)
          have R := ints_step HT.out hown hown1 hgrow
          have HYY : Hid (ys ++ [S.slots[k].pt] = zs ++ List.replicate (t + 1) S.slots[k].pt) := by
            show _ = _
            rw [HY.out, List.replicate_succ', List.append_assoc]
          clear hown1 hgrow hown hat
          go_wp2
          go_roundw
          case rel => exact ⟨t + 1, ys ++ [S.slots[k].pt], by go_num, by omega, HYY, by simp; omega, R.1, R.2⟩
          case measure => simp [intOf]; omega
        · have hti : ¬ (t : Int) < m := by omega
          obtain rfl : t = m := by omega
          have HZZ : Hid (ys = repL (S.slots.take (k + 1))) := by
            show _ = _
            rw [List.take_succ_eq_append_getElem hlt, repL_snoc, HY.out, HZ.out, HM.out]
            rfl
          go_wp2
          go_roundw
          case rel => exact ⟨k + 1, ys, by go_num, by omega, HZZ, by omega, hown, HT⟩
          case measure => simp [intOf]; omega
    · have hli : ¬ (k : Int) < S.slots.length := by omega
      have HZZ : Hid (zs = repL S.slots) := by
        show _ = _
        have := HZ.out
        rwa [List.take_of_length_le (by omega)] at this
      have hs0 := HD0.out.size
      go_wp2
      go_ret
      exact ⟨_, rfl, by rw [← HZZ.out]; exact own_sln hs0 hown, HD0.out.trans (HT.out.mono hs0)⟩

set_option maxHeartbeats 1000000 in
theorem frameOf_any (S : SysD) (hok : SlotsOk S.slots) (h1 : 1 ≤ S.slots.length) (vp vc vs : Value) (w : World) (hS : Sys w vp vc vs S) (fr : Int) (hf : sumT 0 S.slots = fr) :
    Calls Tryd.prog 66 #[.agg #[vp, vc, vs]] w fun e w' => e = .returned (.int .i64 fr) ∧ Below w.heap.size w w' := by
  have hl : ((repL S.slots).length : Int) = fr := by rw [← hf, repL_len _ 0 hok.nonneg]; omega
  obtain ⟨pa, pc, rfl⟩ := hS.p.form
  obtain ⟨ca, cc, rfl⟩ := hS.c.form
  obtain ⟨sa, sc, rfl⟩ := hS.s.form
  have HS := Lib.hid hS
  have HL := Lib.hid hl
  have HO := Lib.hid hok
  clear hS hl hok hf
  go_enter Tryd.func66, Tryd.ntmps66
  go_wp2_with fail
  refine (turnsRef_any S HO.out h1 _ _ _ _ (HS.out.up (by repeat (first | exact Below.refl _ _ | assumption | refine Below.drew ?_ | refine Below.alloc ?_ (by first | (simp; done) | (simp; omega)) _ | refine Below.setCell ?_ (by first | (simp; done) | (simp; omega)) _)))).mono ?_
  rintro e w1 ⟨v, rfl, s, bb⟩
  obtain ⟨a1, c1, rfl⟩ := s.1.form
  have D := Lib.hid (Below.trans (show Below w.heap.size w _ from (by repeat (first | exact Below.refl _ _ | assumption | refine Below.drew ?_ | refine Below.alloc ?_ (by first | (simp; done) | (simp; omega)) _ | refine Below.setCell ?_ (by first | (simp; done) | (simp; omega)) _))) (bb.mono (by simp)))
  clear s bb
  go_wp2
  go_ret
  exact ⟨ret_int HL.out, D.out⟩
end Go.Proofs.YtjhjaafoikadgaaDoor

namespace Go.Proofs.YtjhjaafoikadgaaDoor
set_option linter.unusedSimpArgs false
set_option linter.unusedVariables false
open Go.RowKit Go.Sort

theorem ret2i {a b c d : Int} (h1 : a = b) (h2 : c = d) : Ending.returned (.tuple #[.int .i64 a, .int .i64 c]) = .returned (.tuple #[.int .i64 b, .int .i64 d]) := by rw [h1, h2]

set_option maxHeartbeats 2000000 in
theorem who_any (S : SysD) (vp vc vs : Value) (tick : Int) (w : World) (he : Env w) (hS : Sys w vp vc vs S) (c : Int) (hc : (if chkS S = 0 then (if tick < 0 then 3 else 0) else chkS S) = c) (p : Int) (hp : (if c = 0 then whoS S tick else 0) = p) :
    Calls Tryd.prog 21 #[.agg #[vp, vc, vs], .int .i64 tick] w fun e w' => e = .returned (.tuple #[.int .i64 p, .int .i64 c]) ∧ Below w.heap.size w w' := by
  obtain ⟨pa, pc, rfl⟩ := hS.p.form
  obtain ⟨ca, cc, rfl⟩ := hS.c.form
  obtain ⟨sa, sc, rfl⟩ := hS.s.form
  have HS := Lib.hid hS
  have HC := Lib.hid hc
  have HP := Lib.hid hp
  generalize hz : chkS S = z
  have HZ := Lib.hid hz
  clear hS hc hp hz
  go_enter Tryd.func21, Tryd.ntmps21
  go_wp2_with fail
  refine (confCheck_any S _ _ _ _ (he.up (by repeat (first | exact Below.refl _ _ | assumption | refine Below.drew ?_ | refine Below.alloc ?_ (by first | (simp; done) | (simp; omega)) _ | refine Below.setCell ?_ (by first | (simp; done) | (simp; omega)) _))) (HS.out.up (by repeat (first | exact Below.refl _ _ | assumption | refine Below.drew ?_ | refine Below.alloc ?_ (by first | (simp; done) | (simp; omega)) _ | refine Below.setCell ?_ (by first | (simp; done) | (simp; omega)) _)))).mono ?_
  rw [HZ.out]
  rintro e w1 ⟨rfl, bb⟩
  have hB := (box_new w (.slice pa S.parts.length pc) (.slice ca S.chans.length cc) (.slice sa S.slots.length sc) 26 _ rfl).up bb
  have D := Lib.hid (Below.trans (show Below w.heap.size w _ from (by repeat (first | exact Below.refl _ _ | assumption | refine Below.drew ?_ | refine Below.alloc ?_ (by first | (simp; done) | (simp; omega)) _ | refine Below.setCell ?_ (by first | (simp; done) | (simp; omega)) _))) (bb.mono (by simp)))
  have HB := Lib.hid hB
  have k2 := HB.out.s
  clear bb hB
  by_cases h0 : z = 0
  · subst h0
    by_cases ht : tick < 0
    · obtain rfl : 3 = c := by have := HC.out; rw [HZ.out, if_pos rfl, if_pos ht] at this; exact this
      obtain rfl : 0 = p := HP.out
      go_wp2
      go_ret2
      exact ⟨rfl, D.out⟩
    · obtain rfl : 0 = c := by have := HC.out; rw [HZ.out, if_pos rfl, if_neg ht] at this; exact this
      have HPP : Hid (ownL (tick % sumT 0 S.slots) 0 (turnsL 0 S.slots) = p) := HP.out
      have hok := slots_ok HZ.out
      have hfp := frame_pos hok.1 hok.2
      generalize hfr : sumT 0 S.slots = fr
      have HFR := Lib.hid hfr
      rw [hfr] at hfp
      have hf1 : 1 ≤ fr := hfp.1
      have hf2 : fr ≤ 48 := hfp.2
      have ht0 : 0 ≤ tick := by omega
      have hne : (fr == 0) = false := by simp; omega
      have HO := Lib.hid hok
      clear hfr hfp hok HP HC ht
      go_wp2
      go_region_with (first | (go_at_call 44; refine (frame_any S.slots _ _ HO.out.1 HO.out.2 ((HS.out.s.up D.out).up (by repeat (first | exact Below.refl _ _ | assumption | refine Below.drew ?_ | refine Below.alloc ?_ (by first | (simp; done) | (simp; omega)) _ | refine Below.setCell ?_ (by first | (simp; done) | (simp; omega)) _)))).mono ?_; rw [HFR.out]; rintro e w2 ⟨rfl, bb0⟩; have bb : Below w1.heap.size w1 w2 := Below.trans (by repeat (first | exact Below.refl _ _ | assumption | refine Below.drew ?_ | refine Below.alloc ?_ (by first | (simp; done) | (simp; omega)) _ | refine Below.setCell ?_ (by first | (simp; done) | (simp; omega)) _)) (bb0.mono (by simp)); clear bb0; have k2' := (HB.out.up bb).s; have D2 := Lib.hid (D.out.trans (bb.mono D.out.size)); clear bb) | (go_at_call 43; refine (owner_any S.slots _ _ _ HO.out.1 HO.out.2 ((HS.out.s.up D2.out).up (by repeat (first | exact Below.refl _ _ | assumption | refine Below.drew ?_ | refine Below.alloc ?_ (by first | (simp; done) | (simp; omega)) _ | refine Below.setCell ?_ (by first | (simp; done) | (simp; omega)) _)))).mono ?_; rintro e w3 ⟨rfl, bb0⟩; have bb : Below w2.heap.size w2 w3 := Below.trans (by repeat (first | exact Below.refl _ _ | assumption | refine Below.drew ?_ | refine Below.alloc ?_ (by first | (simp; done) | (simp; omega)) _ | refine Below.setCell ?_ (by first | (simp; done) | (simp; omega)) _)) (bb0.mono (by simp)); clear bb0; have D3 := Lib.hid (D2.out.trans (bb.mono D2.out.size)); clear bb))
      all_goals go_wp2
      all_goals go_ret2
      all_goals exact ⟨ret2i (show ownL (tick % fr) 0 (turnsL 0 S.slots) = p by rw [← HPP.out, HFR.out]) rfl, D3.out⟩
  · have hz' : (z != 0) = true := by simpa using h0
    obtain rfl : z = c := by have := HC.out; rw [HZ.out, if_neg h0] at this; exact this
    obtain rfl : 0 = p := by have := HP.out; rw [if_neg h0] at this; exact this
    clear h0
    go_wp2
    go_ret2
    exact ⟨rfl, D.out⟩

theorem whoS_rep {S : SysD} (hok : SlotsOk S.slots) (h1 : 1 ≤ S.slots.length) {tick : Int} (ht : 0 ≤ tick) : ∃ x : Nat, (x : Int) = tick % sumT 0 S.slots ∧ ∃ hx : x < (repL S.slots).length, (repL S.slots)[x] = whoS S tick := by
  have hp := frame_pos hok h1
  have hl := repL_len S.slots 0 hok.nonneg
  have ha := Int.emod_nonneg tick (show sumT 0 S.slots ≠ 0 by omega)
  have hb := Int.emod_lt_of_pos tick (show 0 < sumT 0 S.slots by omega)
  refine ⟨(tick % sumT 0 S.slots).toNat, by omega, by omega, ?_⟩
  have := ownL_rep S.slots 0 0 (tick % sumT 0 S.slots).toNat hok.nonneg (by omega)
  rw [← this]
  unfold whoS
  congr 1
  omega

set_option maxRecDepth 100000 in
set_option maxHeartbeats 4000000 in
theorem whoOf_any (S : SysD) (hok : SlotsOk S.slots) (h1 : 1 ≤ S.slots.length) (vp vc vs : Value) (tick : Int) (ht : 0 ≤ tick) (w : World) (hS : Sys w vp vc vs S) (p : Int) (hp : whoS S tick = p) :
    Calls Tryd.prog 38 #[.agg #[vp, vc, vs], .int .i64 tick] w fun e w' => e = .returned (.int .i64 p) ∧ Below w.heap.size w w' := by
  obtain ⟨pa, pc, rfl⟩ := hS.p.form
  obtain ⟨ca, cc, rfl⟩ := hS.c.form
  obtain ⟨sa, sc, rfl⟩ := hS.s.form
  obtain ⟨x, hx, hxl, hxv⟩ := whoS_rep hok h1 ht
  have hfp := frame_pos hok h1
  have hlen : (repL S.slots).length ≤ 48 := by have := repL_len S.slots 0 hok.nonneg; omega
  generalize hfr : sumT 0 S.slots = fr at hx hfp
  have HFR := Lib.hid hfr
  have HX := Lib.hid hx
  have HXV : Hid ((repL S.slots)[x] = p) := by show _ = _; rw [hxv, hp]
  have HO := Lib.hid hok
  have HS := Lib.hid hS
  have hf1 : 1 ≤ fr := hfp.1
  have hf2 : fr ≤ 48 := hfp.2
  have hne : (fr == 0) = false := by simp; omega
  have hB := box_new w (.slice pa S.parts.length pc) (.slice ca S.chans.length cc) (.slice sa S.slots.length sc) 26 _ rfl
  have HB := Lib.hid hB
  generalize hRL : repL S.slots = RL at hxl HXV hlen
  have HRL := Lib.hid hRL
  have hxi : (x : Int) < RL.length := by omega
  have hx0 : (0 : Int) ≤ x := by omega
  have hxm : tick % fr = x := hx.symm
  clear hok hS hp hxv hfr hx hfp hB hRL
  have hD0 : Below w.heap.size w (w.alloc (.cells #[.slice pa S.parts.length pc, .slice ca S.chans.length cc, .slice sa S.slots.length sc] 26)) := (Below.refl _ _).alloc (Nat.le_refl _) _
  have hz : (w.alloc (.cells #[.slice pa S.parts.length pc, .slice ca S.chans.length cc, .slice sa S.slots.length sc] 26)).heap.size = w.heap.size + 1 := by simp
  go_enter Tryd.func38, Tryd.ntmps38
  go_wp2
  generalize w.alloc (.cells #[.slice pa S.parts.length pc, .slice ca S.chans.length cc, .slice sa S.slots.length sc] 26) = W0 at *
  have k0 := HB.out.p
  have k1 := HB.out.c
  have k2 := HB.out.s
  have HS0 := Lib.hid (HS.out.up hD0)
  have HD0 := Lib.hid hD0
  clear hD0
  go_region_with (first | (go_at_call 65; refine (turnsRef_any S HO.out h1 _ _ _ _ (HS0.out.up (by repeat (first | exact Below.refl _ _ | assumption | refine Below.drew ?_ | refine Below.alloc ?_ (by first | (simp; done) | (simp; omega)) _ | refine Below.setCell ?_ (by first | (simp; done) | (simp; omega)) _)))).mono ?_; rintro e w1 ⟨v, rfl, s, bb0⟩; rw [HRL.out] at s; obtain ⟨g, go, gc, rfl, hgc, hgl, hgcs⟩ := s.1.open (by omega); have bb : Below W0.heap.size W0 w1 := Below.trans (by repeat (first | exact Below.refl _ _ | assumption | refine Below.drew ?_ | refine Below.alloc ?_ (by first | (simp; done) | (simp; omega)) _ | refine Below.setCell ?_ (by first | (simp; done) | (simp; omega)) _)) (bb0.mono (by simp)); have q1 := Lib.hid (hgcs x _ (ints_at RL x hxl)); clear hgcs s bb0; have k0' := (HB.out.up bb).p; have k1' := (HB.out.up bb).c; have k2' := (HB.out.up bb).s; have D1 := Lib.hid bb; clear bb) | (go_at_call 66; refine (frameOf_any S HO.out h1 _ _ _ _ ((HS0.out.up D1.out).up (by repeat (first | exact Below.refl _ _ | assumption | refine Below.drew ?_ | refine Below.alloc ?_ (by first | (simp; done) | (simp; omega)) _ | refine Below.setCell ?_ (by first | (simp; done) | (simp; omega)) _))) fr HFR.out).mono ?_; rintro e w2 ⟨rfl, bb0⟩; have bb : Below w1.heap.size w1 w2 := Below.trans (by repeat (first | exact Below.refl _ _ | assumption | refine Below.drew ?_ | refine Below.alloc ?_ (by first | (simp; done) | (simp; omega)) _ | refine Below.setCell ?_ (by first | (simp; done) | (simp; omega)) _)) (bb0.mono (by simp)); have xc := bcl bb hgl q1.out; have D2 := Lib.hid (D1.out.trans (bb.mono D1.out.size)); clear bb bb0))
  all_goals go_wp2
  all_goals go_ret
  all_goals exact ⟨ret_int HXV.out, HD0.out.trans (D2.out.mono HD0.out.size)⟩
end Go.Proofs.YtjhjaafoikadgaaDoor

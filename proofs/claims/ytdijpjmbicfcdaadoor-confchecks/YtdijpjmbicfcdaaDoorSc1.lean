/- sched.frame, sched.owner. -/
import Derived.Test.YtdijpjmbicfcdaaDoorSc0
namespace Go.Proofs.YtdijpjmbicfcdaaDoor
set_option linter.unusedSimpArgs false
set_option linter.unusedVariables false
open Go.RowKit Go.Sort Go.Shelf

attribute [local go_sem] Oper.semAt_some

theorem turnsL_app : ∀ (l m : List Slt) (e : Int), turnsL e (l ++ m) = turnsL e l ++ turnsL (sumT e l) m
  | [], m, e => rfl
  | x :: r, m, e => by rw [List.cons_append, turnsL, turnsL_app r, turnsL, sumT]; rfl
/-- The last one's end. -/
def lastE (e : Int) : List (Int × Int) → Int
  | [] => e
  | x :: r => lastE x.2 r
theorem lastE_snoc : ∀ (l : List (Int × Int)) (e : Int) (x : Int × Int), lastE e (l ++ [x]) = x.2
  | [], e, x => rfl
  | y :: r, e, x => by rw [List.cons_append, lastE, lastE_snoc r]
theorem lastE_turns : ∀ (l : List Slt) (e : Int), lastE e (turnsL e l) = sumT e l
  | [], e => rfl
  | x :: r, e => by rw [turnsL, lastE, sumT, lastE_turns r]
/-- The last one. -/
def lastP (w : Int) : List (Int × Int) → Int
  | [] => w
  | x :: r => lastP x.1 r
theorem lastP_snoc : ∀ (l : List (Int × Int)) (e : Int) (x : Int × Int), lastP e (l ++ [x]) = x.1
  | [], e, x => rfl
  | y :: r, e, x => by rw [List.cons_append, lastP, lastP_snoc r]
/-- Who has a tick: the first one whose end lies behind it. -/
def ownL (tick : Int) : Int → List (Int × Int) → Int
  | who, [] => who
  | _, x :: r => if tick < x.2 then x.1 else ownL tick x.1 r
theorem ownL_all (tick : Int) : ∀ (l : List (Int × Int)) (who : Int), (∀ p ∈ l, p.2 ≤ tick) → ownL tick who l = lastP who l
  | [], _, _ => rfl
  | x :: r, who, h => by
    rw [ownL, if_neg (by have := h x (by simp); omega), lastP]
    exact ownL_all tick r x.1 (fun p hp => h p (by simp [hp]))
theorem ownL_stop (tick : Int) : ∀ (l : List (Int × Int)) (who : Int) (x : Int × Int) (r : List (Int × Int)), (∀ p ∈ l, p.2 ≤ tick) → tick < x.2 → ownL tick who (l ++ x :: r) = x.1
  | [], _, x, r, _, hx => by rw [List.nil_append, ownL, if_pos hx]
  | y :: l, who, x, r, h, hx => by
    rw [List.cons_append, ownL, if_neg (by have := h y (by simp); omega)]
    exact ownL_stop tick l y.1 x r (fun p hp => h p (by simp [hp])) hx

set_option maxRecDepth 100000 in
set_option maxHeartbeats 2000000 in
theorem frame_in (F : Fence) (n : Nat) (h3 : F.fn 40) (h5 : F.fn 57) (h7 : F.fn 62) (hro : F.round = none) (hn : 3 ≤ n) (b off cap : Nat) (ts : List Slt) (hts : SlotsOk ts) (w : World) (hb : b < w.heap.size)
    (hI : ∀ j u, (rowC slC ts)[j]? = some u → w.cell? ⟨b, off + j, none⟩ = some u) :
    CallsIn F n Tryd.prog 40 #[.slice (some ⟨b, off, none⟩) ts.length cap] w fun e W' => e = .returned (.int .i64 (sumT 0 ts)) ∧ Below w.heap.size w W' := by
  have h1 : 1 ≤ n := by omega
  refine callsIn_of_wp_marks Tryd.func40 rfl h3 ?_ hro
  simp only [Tryd.ntmps40, List.size_toArray, List.length_cons, List.length_nil, Nat.reduceAdd, Nat.reduceSub, Array.replicate_succ, Array.replicate_zero, List.push_toArray, List.append_toArray, List.nil_append, List.cons_append]
  gi_wp2_with (gi_at_call 57; refine (turns_in F (n - 1) h5 hro _ _ _ _).mono ?_; rintro e w' ⟨rfl, rfl⟩)
  have bS := Boxed.new w 3 (.int .i64 0)
  have bN := Boxed.new (w.alloc (.cells #[.int .i64 0] 3)) 24 (.slice (some ⟨b, off, none⟩) ts.length cap)
  rw [World.size_alloc] at bN
  have hB0 : Below w.heap.size w ((w.alloc (.cells #[.int .i64 0] 3)).alloc (.cells #[.slice (some ⟨b, off, none⟩) ts.length cap] 24)) := ((Below.refl _ w).alloc (Nat.le_refl _) _).alloc (by simp) _
  refine wpIn_rangeFunc_ownG hro h1 (gf := 62) (lb := #[.pointer (some ⟨w.heap.size + 1, 0, none⟩)]) rfl h7 (enters_of Tryd.func62 (by kernel_rfl) rfl)
    (turns_stops F (n - 1) h7 hro (by omega) (w.heap.size + 1) w.heap.size b off cap ts hts _ (by simp) (by simp; omega) hb bN.cell (fun j u hj => bcl hB0 hb (hI j u hj))) belowK_t (belowK_b (by simp; omega)) (Below.refl _ _) (fun _ => rfl)
    (fun pre W => (W.cell? ⟨w.heap.size, 0, none⟩ = some (.int .i64 (lastE 0 pre)) ∧ W.frozen? ⟨w.heap.size, 0, none⟩ = false) ∧ Below w.heap.size w W)
    (fun _ _ _ => False)
    (OwnFrom.and (Own.from (fun s A B row hs hg hr => ⟨cell_kept hs.1 hg hr, (frozen_kept hs.1 hg hr).trans hs.2⟩) _) (ownFrom_below (Nat.le_refl _) (by simp; omega)))
    (fun _ _ _ _ _ hs _ _ => hs)
    ⟨⟨(bS.alloc _).cell, (bS.alloc _).frozen⟩, hB0⟩
    (fun x => { tmps := #[.slice (some ⟨b, off, none⟩) ts.length cap, undef, .int .i64 0, .pointer (some ⟨w.heap.size, 0, none⟩), undef, .int .i64 x.2, .slice (some ⟨b, off, none⟩) ts.length cap, .func (.func 62) #[] #[.pointer (some ⟨w.heap.size + 1, 0, none⟩)], .int .i64 x.1, .int .i64 x.2, undef, undef], defers := [] }) ?assign ?body ?done ?stop
  case assign =>
    intro l x W K hK
    gi_wp2
    exact hK
  case body =>
    rintro l pre x W ⟨⟨hc, hf⟩, hB⟩ _
    gi_wp2
    exact ⟨(KeepsOthers.setCell _ _ _).from _, (Below.refl w.heap.size W).setCell (p := ⟨w.heap.size, 0, none⟩) (Nat.le_refl _) _, ⟨by rw [lastE_snoc]; exact World.cell?_setCell_same' _ _ _ (by rw [hc]; rfl), by rw [World.frozen?_setCell]; exact hf⟩, hB.setCell (p := ⟨w.heap.size, 0, none⟩) (Nat.le_refl _) _⟩
  case done =>
    rintro D ys W hD rfl ⟨⟨hc, _⟩, hB⟩ hK
    rw [lastE_turns] at hc
    gi_wp2
    refine ⟨by simp, .inl ⟨_, _, rfl, run_takeDeferred hK, ?_⟩⟩
    exact ⟨_, results_tmp rfl _ _ _, rfl, hB.trans (belowK_b (w := w) (Nat.le_refl _) W D _ _ (by simp at hD; omega) hK rfl rfl)⟩
  case stop =>
    rintro D c pre W _ _ h _
    exact h.elim

set_option maxRecDepth 100000 in
set_option maxHeartbeats 2000000 in
theorem owner_in (F : Fence) (n : Nat) (h3 : F.fn 41) (h5 : F.fn 57) (h7 : F.fn 62) (hro : F.round = none) (hn : 3 ≤ n) (b off cap : Nat) (ts : List Slt) (hts : SlotsOk ts) (tick : Int) (w : World) (hb : b < w.heap.size)
    (hI : ∀ j u, (rowC slC ts)[j]? = some u → w.cell? ⟨b, off + j, none⟩ = some u) :
    CallsIn F n Tryd.prog 41 #[.slice (some ⟨b, off, none⟩) ts.length cap, .int .i64 tick] w fun e W' => e = .returned (.int .i64 (ownL tick 0 (turnsL 0 ts))) ∧ Below w.heap.size w W' := by
  have h1 : 1 ≤ n := by omega
  refine callsIn_of_wp_marks Tryd.func41 rfl h3 ?_ hro
  simp only [Tryd.ntmps41, List.size_toArray, List.length_cons, List.length_nil, Nat.reduceAdd, Nat.reduceSub, Array.replicate_succ, Array.replicate_zero, List.push_toArray, List.append_toArray, List.nil_append, List.cons_append]
  gi_wp2_with (gi_at_call 57; refine (turns_in F (n - 1) h5 hro _ _ _ _).mono ?_; rintro e w' ⟨rfl, rfl⟩)
  have bT := Boxed.new w 3 (.int .i64 tick)
  have bS := Boxed.new (w.alloc (.cells #[.int .i64 tick] 3)) 3 (.int .i64 0)
  have bN := Boxed.new ((w.alloc (.cells #[.int .i64 tick] 3)).alloc (.cells #[.int .i64 0] 3)) 24 (.slice (some ⟨b, off, none⟩) ts.length cap)
  rw [World.size_alloc] at bS
  rw [World.size_alloc, World.size_alloc] at bN
  have hB0 : Below w.heap.size w (((w.alloc (.cells #[.int .i64 tick] 3)).alloc (.cells #[.int .i64 0] 3)).alloc (.cells #[.slice (some ⟨b, off, none⟩) ts.length cap] 24)) := (((Below.refl _ w).alloc (Nat.le_refl _) _).alloc (by simp) _).alloc (by simp; omega) _
  refine wpIn_rangeFunc_ownG hro h1 (gf := 62) (lb := #[.pointer (some ⟨w.heap.size + 1 + 1, 0, none⟩)]) rfl h7 (enters_of Tryd.func62 (by kernel_rfl) rfl)
    (turns_stops F (n - 1) h7 hro (by omega) (w.heap.size + 1 + 1) w.heap.size b off cap ts hts _ (by simp) (by simp; omega) hb bN.cell (fun j u hj => bcl hB0 hb (hI j u hj))) belowK_t (belowK_b (by simp; omega)) (Below.refl _ _) (fun _ => rfl)
    (fun pre W => ((∀ p ∈ pre, p.2 ≤ tick) ∧ W.cell? ⟨w.heap.size, 0, none⟩ = some (.int .i64 tick) ∧ W.cell? ⟨w.heap.size + 1, 0, none⟩ = some (.int .i64 (lastP 0 pre)) ∧ W.frozen? ⟨w.heap.size + 1, 0, none⟩ = false) ∧ Below w.heap.size w W)
    (fun c pre W => (c = .exit 0 ∧ ∃ ini last, pre = ini ++ [last] ∧ (∀ p ∈ ini, p.2 ≤ tick) ∧ tick < last.2 ∧ W.cell? ⟨w.heap.size + 1, 0, none⟩ = some (.int .i64 last.1)) ∧ Below w.heap.size w W)
    (OwnFrom.and (Own.from (fun s A B row hs hg hr => ⟨hs.1, cell_kept hs.2.1 hg hr, cell_kept hs.2.2.1 hg hr, (frozen_kept hs.2.2.1 hg hr).trans hs.2.2.2⟩) _) (ownFrom_below (Nat.le_refl _) (by simp; omega)))
    (fun c => OwnFrom.and (Own.from (fun s A B row hs hg hr => by obtain ⟨hc, ini, last, e1, e2, e3, e4⟩ := hs; exact ⟨hc, ini, last, e1, e2, e3, cell_kept e4 hg hr⟩) _) (ownFrom_below (Nat.le_refl _) (by simp; omega)))
    ⟨⟨by simp, ((bT.alloc _).alloc _).cell, (bS.alloc _).cell, (bS.alloc _).frozen⟩, hB0⟩
    (fun x => { tmps := #[.slice (some ⟨b, off, none⟩) ts.length cap, .int .i64 tick, undef, .pointer (some ⟨w.heap.size, 0, none⟩), .int .i64 0, .pointer (some ⟨w.heap.size + 1, 0, none⟩), .int .i64 x.1, .int .i64 x.2, .slice (some ⟨b, off, none⟩) ts.length cap, .func (.func 62) #[] #[.pointer (some ⟨w.heap.size + 1 + 1, 0, none⟩)], .int .i64 x.1, .int .i64 x.2, undef, undef, undef, undef, undef], defers := [] }) ?assign ?body ?done ?stop
  case assign =>
    intro l x W K hK
    gi_wp2
    exact hK
  case body =>
    rintro l pre x W ⟨⟨hp, hct, hcr, hfr⟩, hB⟩ _
    have hct' : (W.setCell ⟨w.heap.size + 1, 0, none⟩ (.int .i64 x.1)).cell? ⟨w.heap.size, 0, none⟩ = some (.int .i64 tick) := cl_set (Or.inl (by omega)) hct
    gi_wp2
    · have hx : tick < x.2 := by assumption
      exact ⟨(KeepsOthers.setCell _ _ _).from _, ⟨rfl, pre, x, rfl, hp, hx, World.cell?_setCell_same' _ _ _ (by rw [hcr]; rfl)⟩, hB.setCell (p := ⟨w.heap.size + 1, 0, none⟩) (by simp) _⟩
    · have hx : x.2 ≤ tick := by first | assumption | omega
      exact ⟨(KeepsOthers.setCell _ _ _).from _, (Below.refl w.heap.size W).setCell (p := ⟨w.heap.size + 1, 0, none⟩) (by simp) _, ⟨fun p hp' => (List.mem_append.1 hp').elim (hp p) (fun e => by simp at e; subst e; exact hx), hct', by rw [lastP_snoc]; exact World.cell?_setCell_same' _ _ _ (by rw [hcr]; rfl), by rw [World.frozen?_setCell]; exact hfr⟩, hB.setCell (p := ⟨w.heap.size + 1, 0, none⟩) (by simp) _⟩
  case done =>
    rintro D ys W hD rfl ⟨⟨hp, hct, hcr, hfr⟩, hB⟩ hK
    rw [← ownL_all tick _ 0 hp] at hcr
    gi_wp2
    refine ⟨by simp, .inl ⟨_, _, rfl, run_takeDeferred hK, ?_⟩⟩
    exact ⟨_, results_tmp rfl _ _ _, rfl, hB.trans (belowK_b (w := w) (Nat.le_refl _) W D _ _ (by simp at hD; omega) hK rfl rfl)⟩
  case stop =>
    rintro D c pre W hD ⟨k, hk, rfl⟩ ⟨⟨rfl, ini, last, e1, e2, e3, hcr⟩, hB⟩ hK
    have he : last.1 = ownL tick 0 (turnsL 0 ts) := by
      have h := turnsL_app (ts.take k) (ts.drop k) 0
      rw [List.take_append_drop, e1, List.append_assoc] at h
      rw [h]
      exact (ownL_stop tick ini 0 last _ e2 e3).symm
    rw [he] at hcr
    gi_wp2
    refine ⟨by simp, .inl ⟨_, _, rfl, run_takeDeferred hK, ?_⟩⟩
    exact ⟨_, results_tmp rfl _ _ _, rfl, hB.trans (belowK_b (w := w) (Nat.le_refl _) W D _ _ (by simp at hD; omega) hK rfl rfl)⟩

theorem frame_any (ts : List Slt) (v : Value) (w : World) (hts : SlotsOk ts) (h1 : 1 ≤ ts.length) (hS : Sl w 2 v ts.length (rowC slC ts)) : Calls Tryd.prog 40 #[v] w fun e w' => e = .returned (.int .i64 (sumT 0 ts)) ∧ Below w.heap.size w w' := by
  obtain ⟨b, off, cap, rfl, hcap, hb, hc⟩ := hS.open (by omega)
  exact (callsIn_wide (n := 3)).1 (frame_in Fence.wide 3 trivial trivial trivial rfl (Nat.le_refl _) b off cap ts hts w hb hc)
theorem owner_any (ts : List Slt) (v : Value) (tick : Int) (w : World) (hts : SlotsOk ts) (h1 : 1 ≤ ts.length) (hS : Sl w 2 v ts.length (rowC slC ts)) : Calls Tryd.prog 41 #[v, .int .i64 tick] w fun e w' => e = .returned (.int .i64 (ownL tick 0 (turnsL 0 ts))) ∧ Below w.heap.size w w' := by
  obtain ⟨b, off, cap, rfl, hcap, hb, hc⟩ := hS.open (by omega)
  exact (callsIn_wide (n := 3)).1 (owner_in Fence.wide 3 trivial trivial trivial rfl (Nat.le_refl _) b off cap ts hts tick w hb hc)
end Go.Proofs.YtdijpjmbicfcdaaDoor

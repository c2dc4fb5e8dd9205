/- sched.frame, sched.owner. -/
import Derived.Test.YtbkdoohhdkahiaaGreatDoorK11
import Derived.Test.YtbkdoohhdkahiaaGreatDoorK5
import Derived.Deep.CutRange
import Derived.Deep.RegionWith
import Derived.Deep.RegionHeld3
import Derived.Test.YtbkdoohhdkahiaaGreatDoorK8
import Derived.Test.YtbkdoohhdkahiaaGreatDoorK9
namespace Go.Proofs.YtbkdoohhdkahiaaGreatDoor
set_option linter.unusedSimpArgs false
set_option linter.unusedVariables false
open Go.RowKit Go.Sort Go.Shelf
attribute [local go_sem] Oper.semAt_some
theorem turnsL_app : ∀ (l m : List Slt) (e : Int), turnsL e (l ++ m) = turnsL e l ++ turnsL (sumT e l) m
  | [], m, e => rfl
  | x :: r, m, e => by rw [List.cons_append, turnsL, turnsL_app r, turnsL, sumT]; rfl
def lastE (e : Int) : List (Int × Int) → Int
  | [] => e
  | x :: r => lastE x.2 r
theorem lastE_snoc : ∀ (l : List (Int × Int)) (e : Int) (x : Int × Int), lastE e (l ++ [x]) = x.2
  | [], e, x => rfl
  | y :: r, e, x => by rw [List.cons_append, lastE, lastE_snoc r]
theorem lastE_turns : ∀ (l : List Slt) (e : Int), lastE e (turnsL e l) = sumT e l
  | [], e => rfl
  | x :: r, e => by rw [turnsL, lastE, sumT, lastE_turns r]
def lastP (w : Int) : List (Int × Int) → Int
  | [] => w
  | x :: r => lastP x.1 r
theorem lastP_snoc : ∀ (l : List (Int × Int)) (e : Int) (x : Int × Int), lastP e (l ++ [x]) = x.1
  | [], e, x => rfl
  | y :: r, e, x => by rw [List.cons_append, lastP, lastP_snoc r]
def ownL (tick : Int) : Int → List (Int × Int) → Int
  | who, [] => who
  | _, x :: r => if tick < x.2 then x.1 else ownL tick x.1 r
theorem ownL_all (tick : Int) : ∀ (l : List (Int × Int)) (who : Int), (∀ p ∈ l, p.2 ≤ tick) → ownL tick who l = lastP who l
  | [], _, _ => rfl
  | x :: r, who, h => by
    rw [ownL, if_neg (by have := h x (by simp); omega), lastP]
    exact ownL_all tick r x.1 (fun p hp => h p (by simp [hp]))
theorem ownL_stop (tick : Int) : ∀ (l : List (Int × Int)) (who : Int) (x : Int × Int) (r : List (Int × Int)), (∀ p ∈ l, p.2 ≤ tick) → tick < x.2 → ownL tick who (l ++ x :: r) = x.1
  | [], _, x, r, _, hx => by rw [List.nil_append, ownL, if_pos hx]
  | y :: l, who, x, r, h, hx => by
    rw [List.cons_append, ownL, if_neg (by have := h y (by simp); omega)]
    exact ownL_stop tick l y.1 x r (fun p hp => h p (by simp [hp])) hx
set_option maxRecDepth 100000 in
set_option maxHeartbeats 2000000 in
theorem frame_in (F : Fence) (n : Nat) (h3 : F.fn 150) (h5 : F.fn 182) (h7 : F.fn 213) (hro : F.round = none) (hn : 3 ≤ n) (b off cap : Nat) (ts : List Slt) (hts : SlotsOk ts) (w : World) (hb : b < w.heap.size)
    (hI : ∀ j u, (rowC slC ts)[j]? = some u → w.cell? ⟨b, off + j, none⟩ = some u) :
    CallsIn F n Tryz.prog 150 #[.slice (some ⟨b, off, none⟩) ts.length cap] w fun e W' => e = .returned (.int .i64 (sumT 0 ts)) ∧ Below w.heap.size w W' := by
  have h1 : 1 ≤ n := by omega
  refine callsIn_of_wp_marks Tryz.func150 rfl h3 ?_ hro
  simp only [Tryz.ntmps150, List.size_toArray, List.length_cons, List.length_nil, Nat.reduceAdd, Nat.reduceSub, Array.replicate_succ, Array.replicate_zero, List.push_toArray, List.append_toArray, List.nil_append, List.cons_append]
  gi_wp2_with (gi_at_call 182; refine (turns_in F (n - 1) h5 hro _ _ _ _).mono ?_; rintro e w' ⟨rfl, rfl⟩)
  have bS := Boxed.new w 3 (.int .i64 0)
  have bN := Boxed.new (w.alloc (.cells #[.int .i64 0] 3)) 37 (.slice (some ⟨b, off, none⟩) ts.length cap)
  rw [World.size_alloc] at bN
  have hB0 : Below w.heap.size w ((w.alloc (.cells #[.int .i64 0] 3)).alloc (.cells #[.slice (some ⟨b, off, none⟩) ts.length cap] 37)) := ((Below.refl _ w).alloc (Nat.le_refl _) _).alloc (by simp) _
  refine wpIn_rangeFunc_ownG hro h1 (gf := 213) (lb := #[.pointer (some ⟨w.heap.size + 1, 0, none⟩)]) rfl h7 (enters_of Tryz.func213 (by kernel_rfl) rfl)
    (turns_stops F (n - 1) h7 hro (by omega) (w.heap.size + 1) w.heap.size b off cap ts hts _ (by simp) (by simp; omega) hb bN.cell (fun j u hj => bcl hB0 hb (hI j u hj))) belowK_t (belowK_b (by simp; omega)) (Below.refl _ _) (fun _ => rfl)
    (fun pre W => (W.cell? ⟨w.heap.size, 0, none⟩ = some (.int .i64 (lastE 0 pre)) ∧ W.frozen? ⟨w.heap.size, 0, none⟩ = false) ∧ Below w.heap.size w W)
    (fun _ _ _ => False)
    (OwnFrom.and (Own.from (fun s A B row hs hg hr => ⟨cell_kept hs.1 hg hr, (frozen_kept hs.1 hg hr).trans hs.2⟩) _) (ownFrom_below (Nat.le_refl _) (by simp; omega)))
    (fun _ _ _ _ _ hs _ _ => hs)
    ⟨⟨(bS.alloc _).cell, (bS.alloc _).frozen⟩, hB0⟩
    (fun x => { tmps := #[.slice (some ⟨b, off, none⟩) ts.length cap, undef, .int .i64 0, .pointer (some ⟨w.heap.size, 0, none⟩), undef, .int .i64 x.2, .slice (some ⟨b, off, none⟩) ts.length cap, .func (.func 213) #[] #[.pointer (some ⟨w.heap.size + 1, 0, none⟩)], .int .i64 x.1, .int .i64 x.2, undef, undef], defers := [] }) ?assign ?body ?done ?stop
  case assign =>
    intro l x W K hK
    gi_wp2
    exact hK
  case body =>
    rintro l pre x W ⟨⟨hc, hf⟩, hB⟩ _
    gi_wp2
    exact ⟨(KeepsOthers.setCell _ _ _).from _, (Below.refl w.heap.size W).setCell (p := ⟨w.heap.size, 0, none⟩) (Nat.le_refl _) _, ⟨by rw [lastE_snoc]; exact World.cell?_setCell_same' _ _ _ (by rw [hc]; rfl), by rw [World.frozen?_setCell]; exact hf⟩, hB.setCell (p := ⟨w.heap.size, 0, none⟩) (Nat.le_refl _) _⟩
  case done =>
    rintro D ys W hD rfl ⟨⟨hc, _⟩, hB⟩ hK
    rw [lastE_turns] at hc
    gi_wp2
    refine ⟨by simp, .inl ⟨_, _, rfl, run_takeDeferred hK, ?_⟩⟩
    exact ⟨_, results_tmp rfl _ _ _, rfl, hB.trans (belowK_b (w := w) (Nat.le_refl _) W D _ _ (by simp at hD; omega) hK rfl rfl)⟩
  case stop =>
    rintro D c pre W _ _ h _
    exact h.elim
set_option maxRecDepth 100000 in
set_option maxHeartbeats 2000000 in
theorem owner_in (F : Fence) (n : Nat) (h3 : F.fn 149) (h5 : F.fn 182) (h7 : F.fn 213) (hro : F.round = none) (hn : 3 ≤ n) (b off cap : Nat) (ts : List Slt) (hts : SlotsOk ts) (tick : Int) (w : World) (hb : b < w.heap.size)
    (hI : ∀ j u, (rowC slC ts)[j]? = some u → w.cell? ⟨b, off + j, none⟩ = some u) :
    CallsIn F n Tryz.prog 149 #[.slice (some ⟨b, off, none⟩) ts.length cap, .int .i64 tick] w fun e W' => e = .returned (.int .i64 (ownL tick 0 (turnsL 0 ts))) ∧ Below w.heap.size w W' := by
  have h1 : 1 ≤ n := by omega
  refine callsIn_of_wp_marks Tryz.func149 rfl h3 ?_ hro
  simp only [Tryz.ntmps149, List.size_toArray, List.length_cons, List.length_nil, Nat.reduceAdd, Nat.reduceSub, Array.replicate_succ, Array.replicate_zero, List.push_toArray, List.append_toArray, List.nil_append, List.cons_append]
  gi_wp2_with (gi_at_call 182; refine (turns_in F (n - 1) h5 hro _ _ _ _).mono ?_; rintro e w' ⟨rfl, rfl⟩)
  have bT := Boxed.new w 3 (.int .i64 tick)
  have bS := Boxed.new (w.alloc (.cells #[.int .i64 tick] 3)) 3 (.int .i64 0)
  have bN := Boxed.new ((w.alloc (.cells #[.int .i64 tick] 3)).alloc (.cells #[.int .i64 0] 3)) 37 (.slice (some ⟨b, off, none⟩) ts.length cap)
  rw [World.size_alloc] at bS
  rw [World.size_alloc, World.size_alloc] at bN
  have hB0 : Below w.heap.size w (((w.alloc (.cells #[.int .i64 tick] 3)).alloc (.cells #[.int .i64 0] 3)).alloc (.cells #[.slice (some ⟨b, off, none⟩) ts.length cap] 37)) := (((Below.refl _ w).alloc (Nat.le_refl _) _).alloc (by simp) _).alloc (by simp; omega) _
  refine wpIn_rangeFunc_ownG hro h1 (gf := 213) (lb := #[.pointer (some ⟨w.heap.size + 1 + 1, 0, none⟩)]) rfl h7 (enters_of Tryz.func213 (by kernel_rfl) rfl)
    (turns_stops F (n - 1) h7 hro (by omega) (w.heap.size + 1 + 1) w.heap.size b off cap ts hts _ (by simp) (by simp; omega) hb bN.cell (fun j u hj => bcl hB0 hb (hI j u hj))) belowK_t (belowK_b (by simp; omega)) (Below.refl _ _) (fun _ => rfl)
    (fun pre W => ((∀ p ∈ pre, p.2 ≤ tick) ∧ W.cell? ⟨w.heap.size, 0, none⟩ = some (.int .i64 tick) ∧ W.cell? ⟨w.heap.size + 1, 0, none⟩ = some (.int .i64 (lastP 0 pre)) ∧ W.frozen? ⟨w.heap.size + 1, 0, none⟩ = false) ∧ Below w.heap.size w W)
    (fun c pre W => (c = .exit 0 ∧ ∃ ini last, pre = ini ++ [last] ∧ (∀ p ∈ ini, p.2 ≤ tick) ∧ tick < last.2 ∧ W.cell? ⟨w.heap.size + 1, 0, none⟩ = some (.int .i64 last.1)) ∧ Below w.heap.size w W)
    (OwnFrom.and (Own.from (fun s A B row hs hg hr => ⟨hs.1, cell_kept hs.2.1 hg hr, cell_kept hs.2.2.1 hg hr, (frozen_kept hs.2.2.1 hg hr).trans hs.2.2.2⟩) _) (ownFrom_below (Nat.le_refl _) (by simp; omega)))
    (fun c => OwnFrom.and (Own.from (fun s A B row hs hg hr => by obtain ⟨hc, ini, last, e1, e2, e3, e4⟩ := hs; exact ⟨hc, ini, last, e1, e2, e3, cell_kept e4 hg hr⟩) _) (ownFrom_below (Nat.le_refl _) (by simp; omega)))
    ⟨⟨by simp, ((bT.alloc _).alloc _).cell, (bS.alloc _).cell, (bS.alloc _).frozen⟩, hB0⟩
    (fun x => { tmps := #[.slice (some ⟨b, off, none⟩) ts.length cap, .int .i64 tick, undef, .pointer (some ⟨w.heap.size, 0, none⟩), .int .i64 0, .pointer (some ⟨w.heap.size + 1, 0, none⟩), .int .i64 x.1, .int .i64 x.2, .slice (some ⟨b, off, none⟩) ts.length cap, .func (.func 213) #[] #[.pointer (some ⟨w.heap.size + 1 + 1, 0, none⟩)], .int .i64 x.1, .int .i64 x.2, undef, undef, undef, undef, undef], defers := [] }) ?assign ?body ?done ?stop
  case assign =>
    intro l x W K hK
    gi_wp2
    exact hK
  case body =>
    rintro l pre x W ⟨⟨hp, hct, hcr, hfr⟩, hB⟩ _
    have hct' : (W.setCell ⟨w.heap.size + 1, 0, none⟩ (.int .i64 x.1)).cell? ⟨w.heap.size, 0, none⟩ = some (.int .i64 tick) := cl_set (Or.inl (by omega)) hct
    gi_wp2
    · have hx : tick < x.2 := by assumption
      exact ⟨(KeepsOthers.setCell _ _ _).from _, ⟨rfl, pre, x, rfl, hp, hx, World.cell?_setCell_same' _ _ _ (by rw [hcr]; rfl)⟩, hB.setCell (p := ⟨w.heap.size + 1, 0, none⟩) (by simp) _⟩
    · have hx : x.2 ≤ tick := by first | assumption | omega
      exact ⟨(KeepsOthers.setCell _ _ _).from _, (Below.refl w.heap.size W).setCell (p := ⟨w.heap.size + 1, 0, none⟩) (by simp) _, ⟨fun p hp' => (List.mem_append.1 hp').elim (hp p) (fun e => by simp at e; subst e; exact hx), hct', by rw [lastP_snoc]; exact World.cell?_setCell_same' _ _ _ (by rw [hcr]; rfl), by rw [World.frozen?_setCell]; exact hfr⟩, hB.setCell (p := ⟨w.heap.size + 1, 0, none⟩) (by simp) _⟩
  case done =>
    rintro D ys W hD rfl ⟨⟨hp, hct, hcr, hfr⟩, hB⟩ hK
    rw [← ownL_all tick _ 0 hp] at hcr
    gi_wp2
    refine ⟨by simp, .inl ⟨_, _, rfl, run_takeDeferred hK, ?_⟩⟩
    exact ⟨_, results_tmp rfl _ _ _, rfl, hB.trans (belowK_b (w := w) (Nat.le_refl _) W D _ _ (by simp at hD; omega) hK rfl rfl)⟩
  case stop =>
    rintro D c pre W hD ⟨k, hk, rfl⟩ ⟨⟨rfl, ini, last, e1, e2, e3, hcr⟩, hB⟩ hK
    have he : last.1 = ownL tick 0 (turnsL 0 ts) := by
      have h := turnsL_app (ts.take k) (ts.drop k) 0
      rw [List.take_append_drop, e1, List.append_assoc] at h
      rw [h]
      exact (ownL_stop tick ini 0 last _ e2 e3).symm
    rw [he] at hcr
    gi_wp2
    refine ⟨by simp, .inl ⟨_, _, rfl, run_takeDeferred hK, ?_⟩⟩
    exact ⟨_, results_tmp rfl _ _ _, rfl, hB.trans (belowK_b (w := w) (Nat.le_refl _) W D _ _ (by simp at hD; omega) hK rfl rfl)⟩
theorem frame_any (ts : List Slt) (v : Value) (w : World) (hts : SlotsOk ts) (h1 : 1 ≤ ts.length) (hS : Sl w 2 v ts.length (rowC slC ts)) : Calls Tryz.prog 150 #[v] w fun e w' => e = .returned (.int .i64 (sumT 0 ts)) ∧ Below w.heap.size w w' := by
  obtain ⟨b, off, cap, rfl, hcap, hb, hc⟩ := hS.open (by omega)
  exact (callsIn_wide (n := 3)).1 (frame_in Fence.wide 3 trivial trivial trivial rfl (Nat.le_refl _) b off cap ts hts w hb hc)
theorem owner_any (ts : List Slt) (v : Value) (tick : Int) (w : World) (hts : SlotsOk ts) (h1 : 1 ≤ ts.length) (hS : Sl w 2 v ts.length (rowC slC ts)) : Calls Tryz.prog 149 #[v, .int .i64 tick] w fun e w' => e = .returned (.int .i64 (ownL tick 0 (turnsL 0 ts))) ∧ Below w.heap.size w w' := by
  obtain ⟨b, off, cap, rfl, hcap, hb, hc⟩ := hS.open (by omega)
  exact (callsIn_wide (n := 3)).1 (owner_in Fence.wide 3 trivial trivial trivial rfl (Nat.le_refl _) b off cap ts hts tick w hb hc)
end Go.Proofs.YtbkdoohhdkahiaaGreatDoor
namespace Go.Proofs.YtbkdoohhdkahiaaGreatDoor
set_option linter.unusedSimpArgs false
set_option linter.unusedVariables false
open Go.RowKit Go.Sort
def repL : List Slt → List Int
  | [] => []
  | t :: r => List.replicate t.tk.toNat t.pt ++ repL r
theorem repL_len : ∀ (l : List Slt) (e : Int), (∀ t ∈ l, 0 ≤ t.tk) → sumT e l = e + (repL l).length
  | [], e, _ => by simp [sumT, repL]
  | x :: r, e, h => by
    rw [sumT, repL_len r _ (fun t ht => h t (by simp [ht])), repL, List.length_append, List.length_replicate]
    have := h x (by simp)
    omega
theorem ownL_rep : ∀ (l : List Slt) (e who : Int) (x : Nat), (∀ t ∈ l, 0 ≤ t.tk) → (hx : x < (repL l).length) → ownL (e + x) who (turnsL e l) = (repL l)[x]
  | t :: r, e, who, x, h, hx => by
    have h0 := h t (by simp)
    simp only [turnsL, ownL, repL]
    by_cases hlt : x < t.tk.toNat
    · rw [if_pos (by omega), List.getElem_append_left (by simpa using hlt)]
      simp
    · rw [if_neg (by omega), List.getElem_append_right (by simpa using hlt)]
      simp only [repL, List.length_append, List.length_replicate] at hx
      have := ownL_rep r (e + t.tk) t.pt (x - t.tk.toNat) (fun t ht => h t (by simp [ht])) (by omega)
      rw [show e + t.tk + ((x - t.tk.toNat : Nat) : Int) = e + x by omega] at this
      rw [this]
      congr 1
      simp
theorem chkS_zero {S : SysD} (h : chkS S = 0) : countsB S = true ∧ (∀ j (hj : j < S.parts.length), chkC S.parts[j].code = 0) ∧ S.chans.any kindBad = false ∧ placesB S = true ∧ namesB S = true := by
  unfold chkS at h
  split at h
  · omega
  · rename_i h1
    split at h
    · rename_i h2; exact absurd h h2
    · rename_i h2
      split at h
      · omega
      · rename_i h3
        split at h
        · omega
        · rename_i h4
          split at h
          · omega
          · rename_i h5
            exact ⟨by simpa using h1, firstP_zero (by simpa using h2), by simpa using h3, by simpa using h4, by simpa using h5⟩
theorem slots_ok {S : SysD} (h : chkS S = 0) : SlotsOk S.slots ∧ 1 ≤ S.slots.length := by
  obtain ⟨h1, -, -, h4, -⟩ := chkS_zero h
  obtain ⟨hc, -⟩ := countsB_is h1
  refine ⟨⟨hc.2.2.2.2, fun j hj => ?_⟩, hc.2.2.2.1⟩
  unfold placesB at h4
  rw [Bool.and_eq_true, Bool.not_eq_true', Bool.not_eq_true', List.any_eq_false, List.any_eq_false] at h4
  have := h4.2 _ (List.getElem_mem hj)
  unfold slotBad withinB at this
  simp at this
  omega
theorem SlotsOk.nonneg {ts : List Slt} (h : SlotsOk ts) : ∀ t ∈ ts, 0 ≤ t.tk := fun t ht => by
  obtain ⟨j, hj, rfl⟩ := List.getElem_of_mem ht
  have := h.2 j hj; omega
theorem frame_pos {ts : List Slt} (h : SlotsOk ts) (h1 : 1 ≤ ts.length) : 1 ≤ sumT 0 ts ∧ sumT 0 ts ≤ 48 := by
  have := sumT_bd h ts.length (Nat.le_refl _)
  rw [List.take_length] at this
  have := h.1
  omega
def whoS (S : SysD) (tick : Int) : Int := ownL (tick % sumT 0 S.slots) 0 (turnsL 0 S.slots)
end Go.Proofs.YtbkdoohhdkahiaaGreatDoor
namespace Go.Proofs.YtbkdoohhdkahiaaGreatDoor
set_option linter.unusedSimpArgs false
set_option linter.unusedVariables false
open Go.RowKit Go.Sort
theorem ret2i {a b c d : Int} (h1 : a = b) (h2 : c = d) : Ending.returned (.tuple #[.int .i64 a, .int .i64 c]) = .returned (.tuple #[.int .i64 b, .int .i64 d]) := by rw [h1, h2]
set_option maxHeartbeats 2000000 in
theorem who_any (S : SysD) (vp vc vs : Value) (tick : Int) (w : World) (he : Env w) (hS : Sys w vp vc vs S) (c : Int) (hc : (if chkS S = 0 then (if tick < 0 then 3 else 0) else chkS S) = c) (p : Int) (hp : (if c = 0 then whoS S tick else 0) = p) :
    Calls Tryz.prog 97 #[.agg #[vp, vc, vs], .int .i64 tick] w fun e w' => e = .returned (.tuple #[.int .i64 p, .int .i64 c]) ∧ Below w.heap.size w w' := by
  obtain ⟨pa, pc, rfl⟩ := hS.p.form
  obtain ⟨ca, cc, rfl⟩ := hS.c.form
  obtain ⟨sa, sc, rfl⟩ := hS.s.form
  have HS := Lib.hid hS
  have HC := Lib.hid hc
  have HP := Lib.hid hp
  generalize hz : chkS S = z
  have HZ := Lib.hid hz
  clear hS hc hp hz
  go_enter Tryz.func97, Tryz.ntmps97
  go_wp2_with fail
  refine (confCheck_any S _ _ _ _ (he.up up0) (HS.out.up up0)).mono ?_
  rw [HZ.out]
  rintro e w1 ⟨rfl, bb⟩
  have hB := (box_new w (.slice pa S.parts.length pc) (.slice ca S.chans.length cc) (.slice sa S.slots.length sc) 39 _ rfl).up bb
  have D := Lib.hid (Below.trans (show Below w.heap.size w _ from up0) (bb.mono (by simp)))
  have HB := Lib.hid hB
  have k2 := HB.out.s
  clear bb hB
  by_cases h0 : z = 0
  · subst h0
    by_cases ht : tick < 0
    · obtain rfl : 3 = c := by have := HC.out; rw [HZ.out, if_pos rfl, if_pos ht] at this; exact this
      obtain rfl : 0 = p := HP.out
      go_wp2
      go_ret2
      exact ⟨rfl, D.out⟩
    · obtain rfl : 0 = c := by have := HC.out; rw [HZ.out, if_pos rfl, if_neg ht] at this; exact this
      have HPP : Hid (ownL (tick % sumT 0 S.slots) 0 (turnsL 0 S.slots) = p) := HP.out
      have hok := slots_ok HZ.out
      have hfp := frame_pos hok.1 hok.2
      generalize hfr : sumT 0 S.slots = fr
      have HFR := Lib.hid hfr
      rw [hfr] at hfp
      have hf1 : 1 ≤ fr := hfp.1
      have hf2 : fr ≤ 48 := hfp.2
      have ht0 : 0 ≤ tick := by omega
      have hne : (fr == 0) = false := by simp; omega
      have HO := Lib.hid hok
      clear hfr hfp hok HP HC ht
      go_wp2
      go_region_with (first | (go_at_call 150; refine (frame_any S.slots _ _ HO.out.1 HO.out.2 ((HS.out.s.up D.out).up up0)).mono ?_; rw [HFR.out]; rintro e w2 ⟨rfl, bb0⟩; have bb : Below w1.heap.size w1 w2 := Below.trans up0 (bb0.mono (by simp)); clear bb0; have k2' := (HB.out.up bb).s; have D2 := Lib.hid (D.out.trans (bb.mono D.out.size)); clear bb) | (go_at_call 149; refine (owner_any S.slots _ _ _ HO.out.1 HO.out.2 ((HS.out.s.up D2.out).up up0)).mono ?_; rintro e w3 ⟨rfl, bb0⟩; have bb : Below w2.heap.size w2 w3 := Below.trans up0 (bb0.mono (by simp)); clear bb0; have D3 := Lib.hid (D2.out.trans (bb.mono D2.out.size)); clear bb))
      all_goals go_wp2
      all_goals go_ret2
      all_goals exact ⟨ret2i (show ownL (tick % fr) 0 (turnsL 0 S.slots) = p by rw [← HPP.out, HFR.out]) rfl, D3.out⟩
  · have hz' : (z != 0) = true := by simpa using h0
    obtain rfl : z = c := by have := HC.out; rw [HZ.out, if_neg h0] at this; exact this
    obtain rfl : 0 = p := by have := HP.out; rw [if_neg h0] at this; exact this
    clear h0
    go_wp2
    go_ret2
    exact ⟨rfl, D.out⟩
theorem whoS_rep {S : SysD} (hok : SlotsOk S.slots) (h1 : 1 ≤ S.slots.length) {tick : Int} (ht : 0 ≤ tick) : ∃ x : Nat, (x : Int) = tick % sumT 0 S.slots ∧ ∃ hx : x < (repL S.slots).length, (repL S.slots)[x] = whoS S tick := by
  have hp := frame_pos hok h1
  have hl := repL_len S.slots 0 hok.nonneg
  have ha := Int.emod_nonneg tick (show sumT 0 S.slots ≠ 0 by omega)
  have hb := Int.emod_lt_of_pos tick (show 0 < sumT 0 S.slots by omega)
  refine ⟨(tick % sumT 0 S.slots).toNat, by omega, by omega, ?_⟩
  have := ownL_rep S.slots 0 0 (tick % sumT 0 S.slots).toNat hok.nonneg (by omega)
  rw [← this]
  unfold whoS
  congr 1
  omega
end Go.Proofs.YtbkdoohhdkahiaaGreatDoor
namespace Go.Proofs.YtbkdoohhdkahiaaGreatDoor
set_option linter.unusedSimpArgs false
set_option linter.unusedVariables false
open Go.RowKit Go.Sort
def servR (kind : Int) (l : List Int) (x : Wnt) : List Int × Int × Bool := if x.k = 12 then ((putR kind l x.val).1, 0, (putR kind l x.val).2) else getR kind l
set_option maxRecDepth 100000 in
set_option maxHeartbeats 8000000 in
theorem kserve_any (kind : Int) (l : List Int) (v : Value) (x : Wnt) (w : World) (hS : Sl w 1 v l.length (ints l)) (hc : chkL kind l.length = 0) (zs : List Int) (n : Int) (t : Bool) (hz : servR kind l x = (zs, n, t)) :
    Calls Tryz.prog 99 #[.int .i64 kind, .agg #[v], .agg x.cs] w fun e w' => ∃ v', e = .returned (.tuple #[.agg #[v'], .int .i64 n, .bool t]) ∧ SlN w w' v' zs.length (ints zs) ∧ Below w.heap.size w w' := by
  obtain ⟨ao, cap, rfl⟩ := hS.form
  have HS := Lib.hid hS
  by_cases hk : x.k = 12
  · obtain ⟨⟨zs', t'⟩, hp⟩ : ∃ r, putR kind l x.val = r := ⟨_, rfl⟩
    have hz' : zs' = zs ∧ 0 = n ∧ t' = t := by
      unfold servR at hz
      rw [if_pos hk, hp] at hz
      injection hz with h1 h2
      injection h2 with h2 h3
      exact ⟨h1, h2, h3⟩
    obtain ⟨rfl, rfl, rfl⟩ := hz'
    have HP := Lib.hid fun w hS => put_c kind l (.slice ao l.length cap) x.val w hS 0 hc zs' t' hp
    have hk' : (x.k == 12) = true := by simpa using hk
    clear hS hc hz hp hk
    unfold Wnt.cs
    go_enter Tryz.func99, Tryz.ntmps99
    go_wp2_with fail
    refine (HP.out _ (HS.out.up up0)).mono ?_
    rintro e w1 ⟨v', rfl, hN, b1⟩
    have z1 := b1.size
    simp at z1
    obtain ⟨a1, c1, rfl⟩ := hN.1.form
    have R2 : Rw w1 (w.heap.size + 1 + 1) 171 #[.slice none 0 0] := Rw.up (by repeat (first | exact Rw.new _ _ _ (by first | rfl | (simp; done) | omega | (simp; omega)) | refine Rw.alloc ?_ _)) b1 (by first | omega | (simp; done) | (simp; omega))
    have q2 := R2.cell (j := 0) (v := .slice none 0 0) rfl
    have f2 := R2.fr 0
    have HD : Hid (Below w.heap.size w w1) := by
      refine Below.trans ?_ (b1.mono (by first | omega | (simp; done) | (simp; omega)))
      exact up0
    have HN := Lib.hid hN
    have hlt2 : w.heap.size + 1 + 1 < w1.heap.size := by omega
    have hne2 : w.heap.size + 1 + 1 ≠ w1.heap.size := by omega
    clear b1 hN R2 HP
    go_wp2
    have HS2 : Hid (SlN w ((w1.setCell ⟨w.heap.size + 1 + 1, 0, none⟩ (.slice a1 zs'.length c1)).alloc (.cells #[.slice a1 zs'.length c1] 171)) (.slice a1 zs'.length c1) zs'.length (ints zs')) := by
      refine ⟨Sl.up (HN.out.1.set _ (fun e => by have := HN.out.2 _ e; simp at this; omega)) ((Below.refl _ _).alloc (Nat.le_refl _) _), fun k e => by have := HN.out.2 k e; simp at this; omega⟩
    have HD2 : Hid (Below w.heap.size w ((w1.setCell ⟨w.heap.size + 1 + 1, 0, none⟩ (.slice a1 zs'.length c1)).alloc (.cells #[.slice a1 zs'.length c1] 171))) :=
      Below.alloc (HD.out.setCell (p := ⟨w.heap.size + 1 + 1, 0, none⟩) (by simp; omega) _) (by rw [size_set]; omega) _
    clear HN HD
    have c2 : ((w1.setCell ⟨w.heap.size + 1 + 1, 0, none⟩ (.slice a1 zs'.length c1)).alloc (.cells #[.slice a1 zs'.length c1] 171)).cell? ⟨w.heap.size + 1 + 1, 0, none⟩ = some (.slice a1 zs'.length c1) := by
      rw [World.cell?_alloc_lt _ _ _ (by simp; omega)]
      exact World.cell?_setCell_same _ _ _ q2
    clear q2 f2 hlt2 hne2
    refine bodyPost_ret (v := .tuple #[.agg #[.slice a1 zs'.length c1], .int .i64 0, .bool t']) ?_ rfl ⟨_, rfl, HS2.out, HD2.out⟩
    simp [results, Tryz.results99, go_sem, *]
  · obtain ⟨⟨zs', n', t'⟩, hp⟩ : ∃ r, getR kind l = r := ⟨_, rfl⟩
    have hz' : zs' = zs ∧ n' = n ∧ t' = t := by
      unfold servR at hz
      rw [if_neg hk, hp] at hz
      injection hz with h1 h2
      injection h2 with h2 h3
      exact ⟨h1, h2, h3⟩
    obtain ⟨rfl, rfl, rfl⟩ := hz'
    have HP := Lib.hid fun w hS => get_c kind l (.slice ao l.length cap) w hS 0 hc zs' n' t' hp
    have hk' : (x.k == 12) = false := by simpa using hk
    clear hS hc hz hp hk
    unfold Wnt.cs
    go_enter Tryz.func99, Tryz.ntmps99
    go_wp2_with fail
    refine (HP.out _ (HS.out.up up0)).mono ?_
    rintro e w1 ⟨v', rfl, hN, b1⟩
    have z1 := b1.size
    simp at z1
    obtain ⟨a1, c1, rfl⟩ := hN.1.form
    have R2 : Rw w1 (w.heap.size + 1 + 1) 171 #[.slice none 0 0] := Rw.up (by repeat (first | exact Rw.new _ _ _ (by first | rfl | (simp; done) | omega | (simp; omega)) | refine Rw.alloc ?_ _)) b1 (by first | omega | (simp; done) | (simp; omega))
    have q2 := R2.cell (j := 0) (v := .slice none 0 0) rfl
    have f2 := R2.fr 0
    have HD : Hid (Below w.heap.size w w1) := by
      refine Below.trans ?_ (b1.mono (by first | omega | (simp; done) | (simp; omega)))
      exact up0
    have HN := Lib.hid hN
    have hlt2 : w.heap.size + 1 + 1 < w1.heap.size := by omega
    have hne2 : w.heap.size + 1 + 1 ≠ w1.heap.size := by omega
    clear b1 hN R2 HP
    go_wp2
    have HS2 : Hid (SlN w ((w1.setCell ⟨w.heap.size + 1 + 1, 0, none⟩ (.slice a1 zs'.length c1)).alloc (.cells #[.slice a1 zs'.length c1] 171)) (.slice a1 zs'.length c1) zs'.length (ints zs')) := by
      refine ⟨Sl.up (HN.out.1.set _ (fun e => by have := HN.out.2 _ e; simp at this; omega)) ((Below.refl _ _).alloc (Nat.le_refl _) _), fun k e => by have := HN.out.2 k e; simp at this; omega⟩
    have HD2 : Hid (Below w.heap.size w ((w1.setCell ⟨w.heap.size + 1 + 1, 0, none⟩ (.slice a1 zs'.length c1)).alloc (.cells #[.slice a1 zs'.length c1] 171))) :=
      Below.alloc (HD.out.setCell (p := ⟨w.heap.size + 1 + 1, 0, none⟩) (by simp; omega) _) (by rw [size_set]; omega) _
    clear HN HD
    have c2 : ((w1.setCell ⟨w.heap.size + 1 + 1, 0, none⟩ (.slice a1 zs'.length c1)).alloc (.cells #[.slice a1 zs'.length c1] 171)).cell? ⟨w.heap.size + 1 + 1, 0, none⟩ = some (.slice a1 zs'.length c1) := by
      rw [World.cell?_alloc_lt _ _ _ (by simp; omega)]
      exact World.cell?_setCell_same _ _ _ q2
    clear q2 f2 hlt2 hne2
    refine bodyPost_ret (v := .tuple #[.agg #[.slice a1 zs'.length c1], .int .i64 n', .bool t']) ?_ rfl ⟨_, rfl, HS2.out, HD2.out⟩
    simp [results, Tryz.results99, go_sem, *]
end Go.Proofs.YtbkdoohhdkahiaaGreatDoor
namespace Go.Proofs.YtbkdoohhdkahiaaGreatDoor
set_option linter.unusedSimpArgs false
set_option linter.unusedVariables false
open Go.RowKit Go.Sort
theorem repL_mem : ∀ {l : List Slt} {p : Int}, p ∈ repL l → ∃ t ∈ l, t.pt = p
  | t :: r, p, h => by
    rw [repL, List.mem_append] at h
    rcases h with h | h
    · exact ⟨t, List.mem_cons_self, (List.eq_of_mem_replicate h).symm⟩
    · obtain ⟨t', h1, h2⟩ := repL_mem h
      exact ⟨t', List.mem_cons_of_mem _ h1, h2⟩
theorem who_range {S : SysD} (h : chkS S = 0) {tick : Int} (ht : 0 ≤ tick) : 0 ≤ whoS S tick ∧ whoS S tick < S.parts.length := by
  obtain ⟨hok, h1⟩ := slots_ok h
  obtain ⟨x, _, hx, e⟩ := whoS_rep hok h1 ht
  obtain ⟨t, hm, e2⟩ := repL_mem (List.getElem_mem hx)
  rw [e] at e2
  obtain ⟨-, -, -, h4, -⟩ := chkS_zero h
  unfold placesB at h4
  rw [Bool.and_eq_true, Bool.not_eq_true', Bool.not_eq_true', List.any_eq_false, List.any_eq_false] at h4
  have := h4.2 _ hm
  unfold slotBad withinB at this
  simp at this
  omega
theorem doC_want {i : Ins} {inn xs ys : List Int} {c c' : Cel} {x' : Wnt} (h : doC i inn xs c wntZ = some (c', ys, x')) : x' = wntZ ∨ (i.op = 12 ∧ x' = ⟨12, i.n, i.a, 0, c.reg i.a⟩) ∨ (i.op = 13 ∧ x' = ⟨13, i.n, i.a, i.b, 0⟩) := by
  unfold doC at h
  by_cases h1 : i.op = 1
  · rw [if_pos h1] at h; injection h with h; injection h with _ h; injection h with _ h; subst h; exact .inl rfl
  rw [if_neg h1] at h
  by_cases h2 : i.op = 2
  · rw [if_pos h2] at h; injection h with h; injection h with _ h; injection h with _ h; subst h; exact .inl rfl
  rw [if_neg h2] at h
  by_cases h3 : i.op = 3
  · rw [if_pos h3] at h; injection h with h; injection h with _ h; injection h with _ h; subst h; exact .inl rfl
  rw [if_neg h3] at h
  by_cases h4 : i.op = 4
  · rw [if_pos h4] at h; injection h with h; injection h with _ h; injection h with _ h; subst h; exact .inl rfl
  rw [if_neg h4] at h
  by_cases h5 : i.op = 5
  · rw [if_pos h5] at h; injection h with h; injection h with _ h; injection h with _ h; subst h; exact .inl rfl
  rw [if_neg h5] at h
  by_cases h6 : i.op = 6
  · rw [if_pos h6] at h
    by_cases hm : c.reg i.b < 0 ∨ 8 ≤ c.reg i.b
    · rw [if_pos hm] at h; cases h
    · rw [if_neg hm] at h; injection h with h; injection h with _ h; injection h with _ h; subst h; exact .inl rfl
  rw [if_neg h6] at h
  by_cases h7 : i.op = 7
  · rw [if_pos h7] at h
    by_cases hm : c.reg i.b < 0 ∨ 8 ≤ c.reg i.b
    · rw [if_pos hm] at h; cases h
    · rw [if_neg hm] at h; injection h with h; injection h with _ h; injection h with _ h; subst h; exact .inl rfl
  rw [if_neg h7] at h
  by_cases h8 : i.op = 8
  · rw [if_pos h8] at h; injection h with h; injection h with _ h; injection h with _ h; subst h; exact .inl rfl
  rw [if_neg h8] at h
  by_cases h9 : i.op = 9
  · rw [if_pos h9] at h; injection h with h; injection h with _ h; injection h with _ h; subst h; exact .inl rfl
  rw [if_neg h9] at h
  by_cases h10 : i.op = 10
  · rw [if_pos h10] at h; injection h with h; injection h with _ h; injection h with _ h; subst h; exact .inl rfl
  rw [if_neg h10] at h
  by_cases h11 : i.op = 11
  · rw [if_pos h11] at h; injection h with h; injection h with _ h; injection h with _ h; subst h; exact .inl rfl
  rw [if_neg h11] at h
  by_cases h12 : i.op = 12
  · rw [if_pos h12] at h; injection h with h; injection h with _ h; injection h with _ h; subst h; exact .inr (.inl ⟨h12, rfl⟩)
  rw [if_neg h12] at h
  by_cases h13 : i.op = 13
  · rw [if_pos h13] at h; injection h with h; injection h with _ h; injection h with _ h; subst h; exact .inr (.inr ⟨h13, rfl⟩)
  rw [if_neg h13] at h
  by_cases h14 : i.op = 14
  · rw [if_pos h14] at h; injection h with h; injection h with _ h; injection h with _ h; subst h; exact .inl rfl
  rw [if_neg h14] at h
  injection h with h; injection h with _ h; injection h with _ h; subst h; exact .inl rfl
theorem names_at : ∀ {l : List Chn} {ps : List Prt} {k : Nat}, namesFrom l k ps = true → ∀ j (hj : j < ps.length), nameBad l ((k + j : Nat) : Int) ps[j] = false
  | l, p :: r, k, h, 0, _ => by
    rw [namesFrom] at h
    cases hb : nameBad l k p with
    | true => rw [hb] at h; simp at h
    | false => exact hb
  | l, p :: r, k, h, j + 1, hj => by
    rw [namesFrom] at h
    cases hb : nameBad l k p with
    | true => rw [hb] at h; simp at h
    | false =>
      rw [hb] at h
      have := names_at (l := l) (ps := r) (k := k + 1) (by simpa using h) j (by simpa using hj)
      rw [show k + (j + 1) = k + 1 + j by omega]
      exact this
structure WantOk (S : SysD) (x : Wnt) : Prop where
  k : x.k = 12 ∨ x.k = 13
  c0 : 0 ≤ x.ch
  c1 : x.ch < S.chans.length
  r0 : 0 ≤ x.reg
  r1 : x.reg < 4
  f0 : 0 ≤ x.flag
  f1 : x.flag < 4
theorem chan_named {l : List Ins} {i : Ins} (hi : i ∈ l) {op : Int} (ho : i.op = op) (h0 : 0 ≤ i.n) (h5 : i.n ≤ 5) : i.n ∈ chanL l op 6 := by
  obtain ⟨m, hm⟩ := Int.eq_ofNat_of_zero_le h0
  unfold chanL
  rw [List.mem_map]
  refine ⟨m, ?_, by rw [hm]⟩
  rw [List.mem_filter, List.mem_range]
  refine ⟨by omega, ?_⟩
  unfold hasC
  rw [List.any_eq_true]
  exact ⟨i, hi, by simp [ho, hm]⟩
theorem step_want {S : SysD} (h : chkS S = 0) {p : Nat} (hp : p < S.parts.length) {inn xs : List Int} {c : Cel} (h0 : 0 ≤ c.at_) : (stepC S.parts[p].code inn xs c).2.2 = wntZ ∨ WantOk S (stepC S.parts[p].code inn xs c).2.2 := by
  obtain ⟨-, hc, -, -, hn⟩ := chkS_zero h
  have hcode := hc p hp
  have hnb := names_at (l := S.chans) (k := 0) hn p hp
  unfold nameBad at hnb
  rw [Bool.or_eq_false_iff, List.any_eq_false, List.any_eq_false] at hnb
  have hfe : firstE S.parts[p].code = 0 := by
    unfold chkC at hcode
    split at hcode
    · omega
    · exact hcode
  unfold stepC
  split
  · unfold runC
    split
    · exact .inl rfl
    · rename_i i hi
      have hlt : c.at_.toNat < S.parts[p].code.length := (List.getElem?_eq_some_iff.1 hi).1
      have hmem : i ∈ S.parts[p].code := List.mem_of_getElem? hi
      have hck : i.chk = 0 := by
        have := firstE_zero hfe _ hlt
        rw [(List.getElem?_eq_some_iff.1 hi).2] at this
        exact this
      obtain ⟨hop, ⟨ha0, ha1⟩, ⟨hb0, hb1⟩, hj, hch⟩ := chk0 (op := i.op) (a := i.a) (b := i.b) (n := i.n) hck
      cases hd : doC i inn xs c wntZ with
      | none => exact .inl rfl
      | some r =>
        obtain ⟨c', ys, x'⟩ := r
        rcases doC_want hd with e | ⟨ho, e⟩ | ⟨ho, e⟩
        · exact .inl e
        · right
          have hn5 := hch (.inl ho)
          have hb := hnb.1 _ (chan_named hmem ho hn5.1 hn5.2)
          have hl : i.n.toNat < S.chans.length := by
            unfold putBad at hb
            split at hb
            · simp at hb
            · rename_i y hy; exact (List.getElem?_eq_some_iff.1 hy).1
          subst e
          exact ⟨.inl rfl, hn5.1, by simp only [Option.getD_some]; omega, ha0, ha1, Int.le_refl _, by simp only [Option.getD_some]; omega⟩
        · right
          have hn5 := hch (.inr ho)
          have hb := hnb.2 _ (chan_named hmem ho hn5.1 hn5.2)
          have hl : i.n.toNat < S.chans.length := by
            unfold getBad at hb
            split at hb
            · simp at hb
            · rename_i y hy; exact (List.getElem?_eq_some_iff.1 hy).1
          subst e
          exact ⟨.inr rfl, hn5.1, by simp only [Option.getD_some]; omega, ha0, ha1, hb0, hb1⟩
  · exact .inl rfl
end Go.Proofs.YtbkdoohhdkahiaaGreatDoor
namespace Go.Proofs.YtbkdoohhdkahiaaGreatDoor
set_option linter.unusedSimpArgs false
set_option linter.unusedVariables false
open Go.RowKit Go.Sort
def nextC (S : SysD) (D : WldD) : WldD :=
  match S.parts[(whoS S D.tick).toNat]?, D.cells[(whoS S D.tick).toNat]? with
  | some P, some d =>
    if (stepC P.code P.inn d.out d.c).2.2.k = 0 then ⟨D.tick + 1, D.cells.set (whoS S D.tick).toNat ⟨(stepC P.code P.inn d.out d.c).1, (stepC P.code P.inn d.out d.c).2.1⟩, D.lines⟩
    else match S.chans[(stepC P.code P.inn d.out d.c).2.2.ch.toNat]?, D.lines[(stepC P.code P.inn d.out d.c).2.2.ch.toNat]? with
      | some ch, some ln => ⟨D.tick + 1, D.cells.set (whoS S D.tick).toNat ⟨(stepC P.code P.inn d.out d.c).1.replied (stepC P.code P.inn d.out d.c).2.2.k (stepC P.code P.inn d.out d.c).2.2.reg (stepC P.code P.inn d.out d.c).2.2.flag ch.kd (servR ch.kd ln (stepC P.code P.inn d.out d.c).2.2).2.1 (servR ch.kd ln (stepC P.code P.inn d.out d.c).2.2).2.2, (stepC P.code P.inn d.out d.c).2.1⟩, D.lines.set (stepC P.code P.inn d.out d.c).2.2.ch.toNat (servR ch.kd ln (stepC P.code P.inn d.out d.c).2.2).1⟩
      | _, _ => D
  | _, _ => D
structure Nx (X W : World) (ov : Option Value) (g8 g9 : Option Nat) (out : List Int) : Prop where
  d : Below X.heap.size X W
  o : ∀ v, ov = some v → W.ownsRow X.heap.size 3 1 v out.length (ints out)
  g : ∀ g, g8 = some g → Rw W g 77 (celZ.cs (.slice none 0 0)) ∧ X.heap.size ≤ g ∧ ∀ v, ov = some v → v.ownBlock ≠ some g
  h : ∀ g, g9 = some g → Rw W g 167 wntZ.cs ∧ X.heap.size ≤ g ∧ ∀ v, ov = some v → v.ownBlock ≠ some g
  ne : ∀ g g', g8 = some g → g9 = some g' → g ≠ g'
section
variable {X W W' : World} {o : Option Value} {g8 g9 : Option Nat} {out : List Int}
theorem Nx.begin (X : World) (out : List Int) : Nx X X.drew none none none out := ⟨(Below.refl _ _).drew, by simp, by simp, by simp, by simp⟩
theorem Nx.up (h : Nx X W o g8 g9 out) (hb : Below W.heap.size W W') : Nx X W' o g8 g9 out where
  d := h.d.trans (hb.mono h.d.size)
  o := fun v q => own_up (h.o v q) hb (own_lt (h.o v q))
  g := fun g q => ⟨(h.g g q).1.up hb (h.g g q).1.lt, (h.g g q).2⟩
  h := fun g q => ⟨(h.h g q).1.up hb (h.h g q).1.lt, (h.h g q).2⟩
  ne := h.ne
theorem Nx.eight (h : Nx X W o none g9 out) {g : Nat} (hg : g = W.heap.size) : Nx X (W.alloc (.cells (celZ.cs (.slice none 0 0)) 77)) o (some g) g9 out :=
  have k := h.up ((Below.refl _ _).alloc (Nat.le_refl _) (.cells (celZ.cs (.slice none 0 0)) 77))
  ⟨k.d, k.o, fun g' q => by
    injection q with q
    subst q
    exact ⟨Rw.new _ _ _ hg, by rw [hg]; exact h.d.size, fun v q e => by have := own_lt (h.o v q) _ e; omega⟩, k.h, fun a b q q' => by
    injection q with q
    have := (h.h b q').1.lt
    omega⟩
theorem Nx.nine (h : Nx X W o g8 none out) {g : Nat} (hg : g = W.heap.size) : Nx X (W.alloc (.cells wntZ.cs 167)) o g8 (some g) out :=
  have k := h.up ((Below.refl _ _).alloc (Nat.le_refl _) (.cells wntZ.cs 167))
  ⟨k.d, k.o, k.g, fun g' q => by
    injection q with q
    subst q
    exact ⟨Rw.new _ _ _ hg, by rw [hg]; exact h.d.size, fun v q e => by have := own_lt (h.o v q) _ e; omega⟩, fun a b q q' => by
    injection q' with q'
    have := (h.g a q).1.lt
    omega⟩
theorem Nx.call (h : Nx X W none g8 g9 out) {v : Value} (ho : W'.ownsRow W.heap.size 3 1 v out.length (ints out)) (hb : Below W.heap.size W W') : Nx X W' (some v) g8 g9 out :=
  have k := h.up hb
  have hv : ∀ g, v.ownBlock = some g → W.heap.size ≤ g := own_block ho
  ⟨k.d, fun v' q => by injection q with q; subst q; exact own_low ho h.d.size, fun g q => ⟨(k.g g q).1, (k.g g q).2.1, fun v' q' e => by injection q' with q'; subst q'; have := hv g e; have := (h.g g q).1.lt; omega⟩,
    fun g q => ⟨(k.h g q).1, (k.h g q).2.1, fun v' q' e => by injection q' with q'; subst q'; have := hv g e; have := (h.h g q).1.lt; omega⟩, h.ne⟩
structure Nd (X W : World) (g8 g9 : Nat) (c : Cel) (v : Value) (x : Wnt) (out : List Int) : Prop where
  d : Below X.heap.size X W
  r8 : Rw W g8 77 (c.cs v)
  r9 : Rw W g9 167 x.cs
  s : Sl W 1 v out.length (ints out)
  n : ∀ b, v.ownBlock = some b → X.heap.size ≤ b ∧ b < W.heap.size ∧ b ≠ g8 ∧ b ≠ g9
  n8 : X.heap.size ≤ g8
  n9 : X.heap.size ≤ g9
  ne : g8 ≠ g9
theorem Nx.done {v : Value} {a b : Nat} (h : Nx X W (some v) (some a) (some b) out) (c : Cel) (x : Wnt) : Nd X ((W.setRow a (c.cs v)).setRow b x.cs) a b c v x out := by
  have hne := h.ne a b rfl rfl
  obtain ⟨ra, na, ea⟩ := h.g a rfl
  obtain ⟨rb, nb, eb⟩ := h.h b rfl
  have ho := h.o v rfl
  refine ⟨below_row (below_row h.d na _) nb _, (ra.row _).row_other _ hne, Rw.row (rb.row_other _ (Ne.symm hne)) _, ((own_sl ho).row _ (ea v rfl)).row _ (eb v rfl), fun k e => ⟨own_block ho k e, by simpa using own_lt ho k e, fun e' => ea v rfl (e' ▸ e), fun e' => eb v rfl (e' ▸ e)⟩, na, nb, hne⟩
end
end Go.Proofs.YtbkdoohhdkahiaaGreatDoor

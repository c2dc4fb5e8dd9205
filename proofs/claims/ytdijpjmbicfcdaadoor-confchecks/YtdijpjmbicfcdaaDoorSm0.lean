/- The schedule, in plain words: a frame on it is the same one's turn; in a frame each has as many ticks as its slots; a system that is calmed is right, and has the same schedule. -/
import Derived.Test.YtdijpjmbicfcdaaDoorCc2
import Derived.Test.YtdijpjmbicfcdaaDoorSc3
namespace Go.Proofs.YtdijpjmbicfcdaaDoor
set_option linter.unusedSimpArgs false
set_option linter.unusedVariables false
open Go.RowKit Go.Sort

theorem namesFrom_true {l : List Chn} {ps : List Prt} {k : Nat} (h : namesFrom l k ps = true) (j : Nat) (hj : j < ps.length) : nameBad l ((k + j : Nat) : Int) ps[j] = false := by
  cases hb : nameBad l ((k + j : Nat) : Int) ps[j]
  · rfl
  · rw [namesFrom_at l ps k j hj hb] at h; cases h
theorem stop_chk : chkC stopP.code = 0 := by decide +kernel
theorem calm_len (S : SysD) (p : Nat) : (calmS S p).parts.length = S.parts.length := by simp [calmS]
theorem calm_get (S : SysD) (p k : Nat) (h : k < (calmS S p).parts.length) (h' : k < S.parts.length) : (calmS S p).parts[k] = if p = k then stopP else S.parts[k] := by
  simp only [calmS, List.getElem_set]
/-- A right system, calmed, is right. -/
theorem calm_right {S : SysD} (h : chkS S = 0) (p : Nat) : chkS (calmS S p) = 0 := by
  obtain ⟨h1, h2, h3, h4, h5⟩ := chkS_zero h
  obtain ⟨hc, hi⟩ := countsB_is h1
  have hz : ∀ j (hj : j < (calmS S p).parts.length), chkC (calmS S p).parts[j].code = 0 := fun j hj => by
    rw [calm_get S p j hj (by rw [calm_len] at hj; exact hj)]
    split
    · exact stop_chk
    · exact h2 j (by rw [calm_len] at hj; exact hj)
  refine chkS_ok (countsB_mk ?_ (fun j hj => ?_)) hz h3 ?_ (namesB_yes hz (fun k hk => ?_))
  · rw [calm_len]; exact hc
  · rw [calm_get S p j hj (by rw [calm_len] at hj; exact hj)]
    split
    · simp [stopP]
    · exact hi j (by rw [calm_len] at hj; exact hj)
  · unfold placesB at h4 ⊢
    rw [calm_len]
    exact h4
  · have hk' : k < S.parts.length := by rw [calm_len] at hk; exact hk
    rw [calm_get S p k hk hk']
    split
    · rfl
    · have := namesFrom_true h5 k hk'
      rw [Nat.zero_add, nameBad_ins _ _ _ (h2 k hk')] at this
      exact this
theorem calm_who (S : SysD) (p : Nat) (t : Int) : whoS (calmS S p) t = whoS S t := rfl
theorem calm_ok {S : SysD} (h : S.ok) (p : Nat) : (calmS S p).ok := by
  intro q hq j hj
  obtain ⟨k, hk, rfl⟩ := List.getElem_of_mem hq
  have hk' : k < S.parts.length := by rw [calm_len] at hk; exact hk
  revert j
  rw [calm_get S p k hk hk']
  split
  · intro j hj
    have : j = 0 := by simp [stopP] at hj; exact hj
    subst this
    have h15 : (⟨15, 0, 0, 0⟩ : Ins).ok := ⟨⟨by decide, by decide⟩, ⟨by decide, by decide⟩, ⟨by decide, by decide⟩, ⟨by decide, by decide⟩⟩
    exact h15
  · intro j hj
    exact h _ (List.getElem_mem hk') j hj
/-- A frame on it is the same one's turn. -/
theorem who_frame (S : SysD) (t : Int) : whoS S (t + sumT 0 S.slots) = whoS S t := by
  unfold whoS
  rw [Int.add_emod_right]

def cntF (f : Nat → Bool) : Nat → Nat
  | 0 => 0
  | n + 1 => cntF f n + if f n then 1 else 0
theorem cntF_le (f : Nat → Bool) : ∀ n, cntF f n ≤ n
  | 0 => Nat.le_refl _
  | n + 1 => by rw [cntF]; have := cntF_le f n; split <;> omega
theorem cntF_front (f : Nat → Bool) : ∀ n, cntF f (n + 1) = (if f 0 then 1 else 0) + cntF (fun k => f (k + 1)) n
  | 0 => by simp [cntF]
  | n + 1 => by rw [cntF, cntF_front f n, cntF]; omega
theorem cntF_shift (f : Nat → Bool) (n : Nat) (hp : ∀ k, f (k + n) = f k) : ∀ t, cntF (fun k => f (t + k)) n = cntF f n
  | 0 => by simp
  | t + 1 => by
    have h1 := cntF_front (fun k => f (t + k)) n
    have h2 : cntF (fun k => f (t + k)) (n + 1) = cntF (fun k => f (t + k)) n + if f (t + n) then 1 else 0 := rfl
    rw [hp t] at h2
    have h3 : (fun k => f (t + (k + 1))) = fun k => f (t + 1 + k) := by funext k; congr 1; omega
    rw [h3] at h1
    have h4 := cntF_shift f n hp t
    simp only [Nat.add_zero] at h1
    omega
theorem cntF_congr {f g : Nat → Bool} : ∀ n, (∀ k, k < n → f k = g k) → cntF f n = cntF g n
  | 0, _ => rfl
  | n + 1, h => by rw [cntF, cntF, cntF_congr n (fun k hk => h k (by omega)), h n (by omega)]
theorem cntF_list (p : Int → Bool) : ∀ L : List Int, cntF (fun k => p (L.getD k 0)) L.length = L.countP p
  | [] => rfl
  | x :: r => by
    rw [List.length_cons, cntF_front, List.countP_cons]
    simp only [List.getD_cons_zero, List.getD_cons_succ]
    rw [cntF_list p r]; omega
def wantT (u : Int) : Int → List Slt → Int
  | e, [] => e
  | e, t :: r => wantT u (if t.pt == u then e + t.tk else e) r
theorem wantT_snoc (u : Int) : ∀ (l : List Slt) (e : Int) (t : Slt), wantT u e (l ++ [t]) = if t.pt == u then wantT u e l + t.tk else wantT u e l
  | [], e, t => rfl
  | x :: r, e, t => by rw [List.cons_append, wantT, wantT_snoc u r, wantT]
theorem wantT_count (u : Int) : ∀ (l : List Slt) (e : Int), (∀ t ∈ l, 0 ≤ t.tk) → wantT u e l = e + (repL l).countP (· == u)
  | [], e, _ => by simp [wantT, repL]
  | x :: r, e, h => by
    have h0 := h x (by simp)
    rw [wantT, wantT_count u r _ (fun t ht => h t (by simp [ht])), repL, List.countP_append, List.countP_replicate]
    by_cases hx : x.pt == u
    · rw [if_pos hx, if_pos hx]; omega
    · rw [if_neg hx, if_neg hx]; omega
theorem wantT_bd {ts : List Slt} (h : SlotsOk ts) (u : Int) : ∀ k, k ≤ ts.length → 0 ≤ wantT u 0 (ts.take k) ∧ wantT u 0 (ts.take k) ≤ 8 * k
  | 0, _ => by simp [wantT]
  | k + 1, hk => by
    have ih := wantT_bd h u k (by omega)
    have ht := h.2 k (by omega)
    rw [List.take_succ_eq_append_getElem (by omega), wantT_snoc]
    split <;> omega
/-- In a frame each has as many ticks as its slots. -/
theorem frame_count {S : SysD} (hok : SlotsOk S.slots) (h1 : 1 ≤ S.slots.length) (u : Int) (t n : Nat) (hn : (n : Int) = sumT 0 S.slots) : (cntF (fun k => whoS S ((t : Int) + k) == u) n : Int) = wantT u 0 S.slots := by
  have hl : n = (repL S.slots).length := by have := repL_len S.slots 0 hok.nonneg; omega
  have hp := frame_pos hok h1
  have hw : ∀ x : Nat, whoS S (x : Int) = (repL S.slots).getD (x % n) 0 := fun x => by
    obtain ⟨y, hy, hyl, hv⟩ := whoS_rep hok h1 (tick := (x : Int)) (by omega)
    rw [← hn] at hy
    have : y = x % n := by omega
    rw [← hv, ← this, List.getD_eq_getElem?_getD, List.getElem?_eq_getElem hyl]; rfl
  have e1 : (fun k : Nat => whoS S ((t : Int) + k) == u) = fun k => (fun x : Nat => (repL S.slots).getD (x % n) 0 == u) (t + k) := by
    funext k
    have := hw (t + k)
    push_cast at this
    rw [this]
  rw [e1, cntF_shift (fun x : Nat => (repL S.slots).getD (x % n) 0 == u) n (fun k => by simp only [Nat.add_mod_right]) t]
  rw [cntF_congr (g := fun k => (· == u) ((repL S.slots).getD k 0)) n (fun k hk => by simp only [Nat.mod_eq_of_lt hk]), hl, cntF_list (· == u), wantT_count u S.slots 0 hok.nonneg]
  omega

set_option maxHeartbeats 1000000 in
theorem choose_any (c : Int) (hc : in64 c) (n : Nat) (h1 : 1 ≤ n) (h2 : n ≤ 1048576) (w : World) : Calls Tryd.prog 19 #[.int .i64 c, .int .i64 (n : Int)] w fun e w' => ∃ m : Nat, e = .returned (.int .i64 (m : Int)) ∧ m < n ∧ w' = w := by
  have hn0 : ((n : Int) == 0) = false := by simp; omega
  obtain ⟨ha, hb⟩ := hc
  by_cases h : c < 0
  · have hr := Int.emod_nonneg (-(c + 1)) (show (n : Int) ≠ 0 by omega)
    have hs := Int.emod_lt_of_pos (-(c + 1)) (show (0 : Int) < n by omega)
    obtain ⟨m, hm⟩ := Int.eq_ofNat_of_zero_le hr
    have HM := Lib.hid hm
    clear hm hr
    go_enter Tryd.func19, Tryd.ntmps19
    go_wp2
    go_ret
    exact ⟨m, ret_int (show -((c + 1).tmod (n : Int)) = (m : Int) by rw [← Int.neg_tmod, Int.tmod_eq_emod_of_nonneg (by omega)]; exact HM.out), by have := HM.out; omega, rfl⟩
  · have hr := Int.emod_nonneg c (show (n : Int) ≠ 0 by omega)
    have hs := Int.emod_lt_of_pos c (show (0 : Int) < n by omega)
    obtain ⟨m, hm⟩ := Int.eq_ofNat_of_zero_le hr
    have HM := Lib.hid hm
    have h0 : 0 ≤ c := by omega
    clear hm hr
    go_enter Tryd.func19, Tryd.ntmps19
    go_wp2
    go_ret
    exact ⟨m, ret_int (by first | exact HM.out | (rw [← HM.out]; rfl) | (rw [← HM.out]; exact Int.tmod_eq_emod_of_nonneg (by omega))), by have := HM.out; omega, rfl⟩
end Go.Proofs.YtdijpjmbicfcdaaDoor

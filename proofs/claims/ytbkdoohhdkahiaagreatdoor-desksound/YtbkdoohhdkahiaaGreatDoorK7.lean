/- What search finds is the reference's path. -/
import Derived.Test.YtbkdoohhdkahiaaGreatDoorK6
import Derived.Test.YtbkdoohhdkahiaaGreatDoorK3
import Derived.Deep.MidRow
import Derived.Test.YtbkdoohhdkahiaaGreatDoorK0
import Derived.Test.YtbkdoohhdkahiaaGreatDoorK4
import Derived.Test.YtbkdoohhdkahiaaGreatDoorK5
import Derived.Great.BuildSlice
namespace Go.Proofs.YtbkdoohhdkahiaaGreatDoor
set_option linter.unusedSimpArgs false
set_option linter.unusedVariables false
open Go.RowKit Go.Sort Go.Shelf Go.Lib Go.Maps
theorem edgesL_rise (S : SysD) : (edgesL S).Pairwise ltE := outL_rise S _ _
theorem code_ge {E : List Edg} {a : Int} {n : Nat} (hn : n ≤ 7) (hE : EdgIn E n) (ha : 0 ≤ a ∧ a < n) {r : List Int} (h : WalkR E a r) : ∃ r0, r = r0 ++ [a] ∧ 8 ^ r0.length ≤ code r := by
  have ir := walk_in hE ha h
  obtain ⟨r0, rfl⟩ := walk_last h
  refine ⟨r0, rfl, ?_⟩
  have b := (code_lt (r := r0) (fun x hx => by have := ir x (by simp [hx]); omega)).1
  rw [code_snoc]
  have hpos : (0 : Int) < 8 ^ r0.length := Int.pow_pos (by decide)
  have : 1 * (8 : Int) ^ r0.length ≤ (a + 1) * 8 ^ r0.length := Int.mul_le_mul_of_nonneg_right (by omega) (by omega)
  omega
theorem least_nat (P : Nat → Bool) : ∀ n, P n = true → ∃ m, m ≤ n ∧ P m = true ∧ ∀ j, j < m → P j = false := fun n => by
  induction n using Nat.strongRecOn with
  | _ n ih =>
    intro hn
    by_cases h : ∃ j, j < n ∧ P j = true
    · obtain ⟨j, hj, hp⟩ := h
      obtain ⟨m, h1, h2, h3⟩ := ih j hj hp
      exact ⟨m, by omega, h2, h3⟩
    · exact ⟨n, Nat.le_refl _, hn, fun j hj => by
        cases hp : P j with
        | false => rfl
        | true => exact absurd ⟨j, hj, hp⟩ h⟩
theorem path_eq {S : SysD} (h7 : S.parts.length ≤ 7) {a b : Int} (ha : 0 ≤ a ∧ a < S.parts.length) {l : List Int} (h : SearchR (edgesL S) a b l true) :
    ∃ n, n < S.parts.length ∧ reachN S n a b = true ∧ (∀ m, m < n → reachN S m a b = false) ∧ l = fwd S b n a := by
  have hE := edgesL_in S
  obtain ⟨p, rfl, hw, hlen, hmin⟩ := search_found (edgesL_rise S) (fun e he => by have := hE e he; omega) ha.1 hE ha.2 h
  obtain ⟨n, hn, hr, hless⟩ := least_nat (fun n => reachN S n a b) p.length ((reachN_iff S _ a b ha).2 ⟨p, hw, Nat.le_refl _⟩)
  obtain ⟨p', e1, e2, e3, e4⟩ := fwd_least S h7 b n a ha hr hless
  have hle := hmin p' e2
  have hpn : p.length = n := by
    by_cases hc : p.length = n
    · exact hc
    · obtain ⟨r0, er, hge⟩ := code_ge h7 hE ha hw
      have hl0 : p.length = r0.length := by have := congrArg List.length er; simp at this; exact this
      have i2 := walk_in hE ha e2
      have hlt := (code_lt (r := b :: p') (fun x hx => by have := i2 x hx; omega)).2
      have hpow : (8 : Int) ^ (b :: p').length ≤ 8 ^ r0.length := by
        have : (b :: p').length ≤ r0.length := by simp [e3]; omega
        exact_mod_cast Nat.pow_le_pow_right (by decide : 0 < 8) this
      omega
  have hge := e4 p hw hpn
  have i1 := walk_in hE ha hw
  have i2 := walk_in hE ha e2
  have heq : b :: p = b :: p' := code_inj (fun x hx => by have := i1 x hx; omega) (fun x hx => by have := i2 x hx; omega) (by omega)
  simp at hlen
  exact ⟨n, by omega, hr, hless, by rw [e1, heq]⟩
theorem path_none {S : SysD} (h7 : S.parts.length ≤ 7) {a b : Int} (ha : 0 ≤ a ∧ a < S.parts.length) {l : List Int} (h : SearchR (edgesL S) a b l false) : l = [] ∧ ∀ n, reachN S n a b = false := by
  have hE := edgesL_in S
  obtain ⟨h1, h2⟩ := search_none (edgesL_rise S) (fun e he => by have := hE e he; omega) ha.1 h
  refine ⟨h1, fun n => ?_⟩
  cases hr : reachN S n a b with
  | false => rfl
  | true =>
    obtain ⟨r, hw, _⟩ := (reachN_iff S n a b ha).1 hr
    exact absurd hw (h2 r)
end Go.Proofs.YtbkdoohhdkahiaaGreatDoor
namespace Go.Proofs.YtbkdoohhdkahiaaGreatDoor
set_option linter.unusedSimpArgs false
set_option linter.unusedVariables false
open Go.RowKit Go.Sort Go.Shelf Go.Lib Go.Maps
def reachB (S : SysD) (a b : Int) : Bool := reachN S S.parts.length a b
def pathN (S : SysD) (a b : Int) : Option Nat := (List.range S.parts.length).find? fun n => reachN S n a b
def pathL (S : SysD) (a b : Int) : List Int := match pathN S a b with
  | some n => fwd S b n a
  | none => []
def pathB (S : SysD) (a b : Int) : Bool := (pathN S a b).isSome
theorem reachN_mono {S : SysD} {a b : Int} (ha : 0 ≤ a ∧ a < S.parts.length) {m n : Nat} (hm : m ≤ n) (h : reachN S m a b = true) : reachN S n a b = true := by
  obtain ⟨r, hw, hl⟩ := (reachN_iff S m a b ha).1 h
  exact (reachN_iff S n a b ha).2 ⟨r, hw, by omega⟩
theorem search_reach {S : SysD} (h7 : S.parts.length ≤ 7) {a b : Int} (ha : 0 ≤ a ∧ a < S.parts.length) {l : List Int} {r : Bool} (h : SearchR (edgesL S) a b l r) : r = reachB S a b := by
  unfold reachB
  cases r with
  | true =>
    obtain ⟨n, hn, hr, _⟩ := path_eq h7 ha h
    exact (reachN_mono ha (by omega) hr).symm
  | false => exact ((path_none h7 ha h).2 _).symm
theorem search_path {S : SysD} (h7 : S.parts.length ≤ 7) {a b : Int} (ha : 0 ≤ a ∧ a < S.parts.length) {l : List Int} {r : Bool} (h : SearchR (edgesL S) a b l r) : l = pathL S a b ∧ r = pathB S a b := by
  unfold pathL pathB
  cases r with
  | true =>
    obtain ⟨n, hn, hr, hless, rfl⟩ := path_eq h7 ha h
    have : pathN S a b = some n := by
      unfold pathN
      rw [List.find?_range_eq_some]
      exact ⟨hr, List.mem_range.2 hn, fun j hj => by simp [hless j hj]⟩
    rw [this]
    exact ⟨rfl, rfl⟩
  | false =>
    obtain ⟨rfl, h0⟩ := path_none h7 ha h
    have : pathN S a b = none := by
      unfold pathN
      rw [List.find?_eq_none]
      intro n _
      simp [h0 n]
    rw [this]
    exact ⟨rfl, rfl⟩
theorem chk_flow {S : SysD} (h : chkS S = 0) : S.parts.length ≤ 4 ∧ 1 ≤ S.parts.length ∧ S.chans.length ≤ 6 ∧ EndsIn S := by
  unfold chkS at h
  split at h
  · omega
  · rename_i h1
    split at h
    · rename_i h2; exact absurd h h2
    · split at h
      · omega
      · split at h
        · omega
        · rename_i h4
          obtain ⟨hc, -⟩ := countsB_is (S := S) (by simpa using h1)
          refine ⟨hc.2.1, hc.1, hc.2.2.1, fun c hcm => ?_⟩
          have h5 : placesB S = true := by simpa using h4
          unfold placesB at h5
          rw [Bool.and_eq_true, Bool.not_eq_true', Bool.not_eq_true', List.any_eq_false, List.any_eq_false] at h5
          have h6 := h5.1 c hcm
          unfold placeBad withinB at h6
          simp only [Bool.or_eq_true, Bool.not_eq_true', Bool.and_eq_false_iff, decide_eq_false_iff_not, beq_iff_eq, not_or] at h6
          omega
end Go.Proofs.YtbkdoohhdkahiaaGreatDoor
namespace Go.Proofs.YtbkdoohhdkahiaaGreatDoor
set_option linter.unusedSimpArgs false
set_option linter.unusedVariables false
open Go.RowKit Go.Sort Go.Shelf Go.Lib Go.Maps
theorem reachN_eq (S : SysD) (a : Int) : ∀ m, reachN S m a a = true
  | 0 => by simp [reachN]
  | m + 1 => by simp [reachN]
theorem reachN_yes {S : SysD} {m k : Nat} {a b : Int} (hk : k < S.parts.length) (h1 : leadsB S a k = true) (h2 : reachN S m k b = true) : reachN S (m + 1) a b = true := by
  simp only [reachN, Bool.or_eq_true, List.any_eq_true, List.mem_range, Bool.and_eq_true]
  exact .inr ⟨k, hk, h1, h2⟩
end Go.Proofs.YtbkdoohhdkahiaaGreatDoor
namespace Go.Proofs.YtbkdoohhdkahiaaGreatDoor
set_option linter.unusedSimpArgs false
set_option linter.unusedVariables false
open Go.RowKit Go.Sort
def chkL (kind : Int) (n : Nat) : Int := if kind = 1 then (if 1 < n then 2 else 0) else if kind = 2 then (if 3 < n then 2 else 0) else 4
theorem chkL_zero {kind : Int} {n : Nat} (h : chkL kind n = 0) : (kind = 1 ∧ n ≤ 1) ∨ (kind = 2 ∧ n ≤ 3) := by
  unfold chkL at h
  split at h
  · rename_i h1
    split at h
    · omega
    · omega
  · split at h
    · split at h
      · omega
      · omega
    · omega
def roomI (kind : Int) : Int := if kind = 1 then 1 else if kind = 2 then 3 else 0
theorem room_any (kind : Int) (w : World) : Calls Tryz.prog 189 #[.int .i64 kind] w fun e w' => e = .returned (.int .i64 (roomI kind)) ∧ w' = w := by
  unfold roomI
  by_cases h1 : kind = 1
  · subst h1
    go_enter Tryz.func189, Tryz.ntmps189
    go_wp2
    all_goals go_ret
    all_goals exact ⟨rfl, rfl⟩
  · by_cases h2 : kind = 2
    · subst h2
      go_enter Tryz.func189, Tryz.ntmps189
      go_wp2
      all_goals go_ret
      all_goals exact ⟨rfl, rfl⟩
    · rw [if_neg h1, if_neg h2]
      have h1' : (kind == 1) = false := by simpa using h1
      have h2' : (kind == 2) = false := by simpa using h2
      go_enter Tryz.func189, Tryz.ntmps189
      go_wp2
      all_goals go_ret
      all_goals exact ⟨rfl, rfl⟩
set_option maxHeartbeats 1000000 in
theorem chkLine_any (kind : Int) (ao : Option Addr) (n cap : Nat) (w : World) (c : Int) (hc : chkL kind n = c) : Calls Tryz.prog 187 #[.int .i64 kind, .agg #[.slice ao n cap]] w fun e w' => e = .returned (.int .i64 c) ∧ Below w.heap.size w w' := by
  subst hc
  unfold chkL
  by_cases h1 : kind = 1
  · subst h1
    go_enter Tryz.func187, Tryz.ntmps187
    go_wp2_with (go_at_call 189; refine (room_any _ _).mono ?_; rintro e w' ⟨rfl, rfl⟩; simp only [roomI])
    all_goals go_ret
    all_goals exact ⟨ret_int (by simp; try omega), up0⟩
  · by_cases h2 : kind = 2
    · subst h2
      go_enter Tryz.func187, Tryz.ntmps187
      go_wp2_with (go_at_call 189; refine (room_any _ _).mono ?_; rintro e w' ⟨rfl, rfl⟩; simp only [roomI])
      all_goals go_ret
      all_goals exact ⟨ret_int (by simp; try omega), up0⟩
    · have hr : roomI kind = 0 := by unfold roomI; rw [if_neg h1, if_neg h2]
      rw [if_neg h1, if_neg h2]
      go_enter Tryz.func187, Tryz.ntmps187
      go_wp2_with (go_at_call 189; refine (room_any _ _).mono ?_; rw [hr]; rintro e w' ⟨rfl, rfl⟩)
      all_goals go_ret
      all_goals exact ⟨rfl, up0⟩
end Go.Proofs.YtbkdoohhdkahiaaGreatDoor
namespace Go.Proofs.YtbkdoohhdkahiaaGreatDoor
set_option linter.unusedSimpArgs false
set_option linter.unusedVariables false
open Go.RowKit Go.Sort
structure Cel where
  at_ : Int
  r0 : Int
  r1 : Int
  r2 : Int
  r3 : Int
  m0 : Int
  m1 : Int
  m2 : Int
  m3 : Int
  m4 : Int
  m5 : Int
  m6 : Int
  m7 : Int
  read : Int
  en : Int
def Cel.v (c : Cel) (o : Value) : Value := .agg #[.int .i64 c.at_, .int .i64 c.r0, .int .i64 c.r1, .int .i64 c.r2, .int .i64 c.r3, .int .i64 c.m0, .int .i64 c.m1, .int .i64 c.m2, .int .i64 c.m3, .int .i64 c.m4, .int .i64 c.m5, .int .i64 c.m6, .int .i64 c.m7, .int .i64 c.read, o, .int .i64 c.en]
def Cel.fine (c : Cel) (n : Nat) : Bool := decide (0 ≤ c.at_) && decide (c.at_ ≤ 20) && (decide (0 ≤ c.read) && decide (c.read ≤ 12)) && (decide (0 ≤ c.en) && decide (c.en ≤ 2)) && decide (n ≤ 16)
def Cel.err (c : Cel) (n : Nat) : Int := if c.fine n then 0 else 1
theorem fine_iff (c : Cel) (n : Nat) : c.fine n = true ↔ (0 ≤ c.at_ ∧ c.at_ ≤ 20 ∧ 0 ≤ c.read ∧ c.read ≤ 12 ∧ 0 ≤ c.en ∧ c.en ≤ 2 ∧ n ≤ 16) := by
  unfold Cel.fine; simp only [Bool.and_eq_true, decide_eq_true_eq]; omega
theorem err_yes {c : Cel} {n : Nat} (h : 0 ≤ c.at_ ∧ c.at_ ≤ 20 ∧ 0 ≤ c.read ∧ c.read ≤ 12 ∧ 0 ≤ c.en ∧ c.en ≤ 2 ∧ n ≤ 16) : (0 : Int) = c.err n := by
  unfold Cel.err; rw [(fine_iff c n).2 h]; rfl
theorem err_no {c : Cel} {n : Nat} (h : ¬ (0 ≤ c.at_ ∧ c.at_ ≤ 20 ∧ 0 ≤ c.read ∧ c.read ≤ 12 ∧ 0 ≤ c.en ∧ c.en ≤ 2 ∧ n ≤ 16)) : (1 : Int) = c.err n := by
  unfold Cel.err; rw [if_neg (fun e => h ((fine_iff c n).1 e))]
set_option maxRecDepth 100000 in
set_option maxHeartbeats 2000000 in
theorem cellCheck_any (c : Cel) (ao : Option Addr) (n cap : Nat) (w : World) : Calls Tryz.prog 183 #[c.v (.slice ao n cap)] w fun e w' => e = .returned (.int .i64 (c.err n)) ∧ Below w.heap.size w w' := by
  unfold Cel.v
  go_enter Tryz.func183, Tryz.ntmps183
  go_wp2
  all_goals go_ret
  all_goals refine ⟨ret_int ?_, up0⟩
  all_goals first
    | (refine err_no ?_; simp_all; omega)
    | (refine err_no ?_; omega)
    | (refine err_yes ?_; omega)
    | (refine err_no ?_; simp_all; done)
    | (refine err_yes ?_; rename_i h1 h2; simp only [bne_eq_false_iff_eq] at h1; omega)
    | (exfalso; simp_all; done)
end Go.Proofs.YtbkdoohhdkahiaaGreatDoor
namespace Go.Proofs.YtbkdoohhdkahiaaGreatDoor
set_option linter.unusedSimpArgs false
set_option linter.unusedVariables false
open Go.RowKit Go.Sort
theorem bit_any (b : Bool) (w : World) : Calls Tryz.prog 157 #[.bool b] w fun e w' => e = .returned (.int .i64 (if b then 1 else 0)) ∧ w' = w := by
  cases b
  all_goals
    go_enter Tryz.func157, Tryz.ntmps157
    go_wp2
    go_ret
    exact ⟨rfl, rfl⟩
def kindB (k : Int) : Bool := k == 1 || k == 2
theorem cellReg_any (a : Int) (w : World) : Calls Tryz.prog 190 #[.int .i64 a] w fun e w' => e = .returned (.bool (regB a)) ∧ w' = w := by
  by_cases h : 0 ≤ a
  all_goals
  go_enter Tryz.func190, Tryz.ntmps190
  go_wp2
  all_goals go_ret
  all_goals exact ⟨ret_bool (by simp [regB]; try omega), rfl⟩
def replyE (f : Bool) (k reg flag kind : Int) : Int := if !f then 1 else if (k != 12 && k != 13) || !kindB kind then 4 else if !regB reg || !regB flag then 3 else 0
def wantV (k ch reg flag val : Int) : Value := .agg #[.int .i64 k, .int .i64 ch, .int .i64 reg, .int .i64 flag, .int .i64 val]
set_option maxRecDepth 100000 in
set_option maxHeartbeats 4000000 in
theorem checkReply_any (c : Cel) (ao : Option Addr) (n cap : Nat) (k ch reg flag val kind : Int) (f : Bool) (hf : c.fine n = f) (w : World) :
    Calls Tryz.prog 156 #[c.v (.slice ao n cap), wantV k ch reg flag val, .int .i64 kind] w fun e w' => e = .returned (.int .i64 (replyE f k reg flag kind)) ∧ Below w.heap.size w w' := by
  have he : c.err n = if f then 0 else 1 := by rw [← hf]; rfl
  have hcc : ∀ w, Calls Tryz.prog 183 #[c.v (.slice ao n cap)] w fun e w' => e = .returned (.int .i64 (if f then 0 else 1)) ∧ Below w.heap.size w w' := fun w => he ▸ cellCheck_any c ao n cap w
  have HC := Lib.hid hcc
  clear he hf hcc
  unfold Cel.v at HC
  unfold Cel.v wantV
  cases f
  · go_enter Tryz.func156, Tryz.ntmps156
    go_wp2_with fail
    refine (HC.out _).mono ?_
    rintro e w1 ⟨rfl, b1⟩
    go_wp2
    go_ret
    refine ⟨rfl, Below.trans ?_ (b1.mono (by simp; omega))⟩
    exact up0
  · go_enter Tryz.func156, Tryz.ntmps156
    go_wp2_with fail
    refine (HC.out _).mono ?_
    rintro e w1 ⟨rfl, b1⟩
    have a0 : w1.cell? ⟨w.heap.size + 1, 0, none⟩ = some (.int .i64 k) := bcl b1 (by simp) (by simp)
    have a2 : w1.cell? ⟨w.heap.size + 1, 2, none⟩ = some (.int .i64 reg) := bcl b1 (by simp) (by simp)
    have a3 : w1.cell? ⟨w.heap.size + 1, 3, none⟩ = some (.int .i64 flag) := bcl b1 (by simp) (by simp)
    have u1 : Below w.heap.size w w1 := by
      refine Below.trans ?_ (b1.mono (by simp; omega))
      exact up0
    clear b1 HC
    go_wp2_with (go_at_call 190; refine (cellReg_any _ _).mono ?_; rintro e w' ⟨rfl, rfl⟩)
    all_goals go_ret
    all_goals refine ⟨ret_int ?_, u1⟩
    all_goals (simp_all [replyE, kindB]; done)
end Go.Proofs.YtbkdoohhdkahiaaGreatDoor
namespace Go.Proofs.YtbkdoohhdkahiaaGreatDoor
set_option linter.unusedSimpArgs false
set_option linter.unusedVariables false
open Go.RowKit Go.Sort
def stepE (d : Int) (i : Nat) (f : Bool) (r : Int) : Int := if d != 0 then d else if 12 < i then 2 else if !f then 1 else if (i : Int) < r then 1 else 0
def partV (v u : Value) : Value := .agg #[v, u]
set_option maxRecDepth 100000 in
set_option maxHeartbeats 4000000 in
theorem checkStep_any (l : List Ins) (v : Value) (iao : Option Addr) (i icap : Nat) (c : Cel) (ao : Option Addr) (n cap : Nat) (d : Int) (hd : chkC l = d) (f : Bool) (hf : c.fine n = f) (w : World) (he : Env w) (hS : Sl w 4 v l.length (codeC l)) :
    Calls Tryz.prog 151 #[partV v (.slice iao i icap), c.v (.slice ao n cap)] w fun e w' => e = .returned (.int .i64 (stepE d i f c.read)) ∧ Below w.heap.size w w' := by
  have hE : c.err n = if f then 0 else 1 := by rw [← hf]; rfl
  have hcc : ∀ w, Calls Tryz.prog 183 #[c.v (.slice ao n cap)] w fun e w' => e = .returned (.int .i64 (if f then 0 else 1)) ∧ Below w.heap.size w w' := fun w => hE ▸ cellCheck_any c ao n cap w
  have hkk : ∀ w, Env w → Sl w 4 v l.length (codeC l) → Calls Tryz.prog 77 #[v] w fun e w' => e = .returned (.int .i64 d) ∧ Below w.heap.size w w' := fun w he hS => hd ▸ codeCheck_any l v w he hS
  have HC := Lib.hid hcc
  have HK := Lib.hid hkk
  have HS := Lib.hid hS
  clear hE hf hcc hkk hS hd
  unfold Cel.v at HC
  unfold Cel.v partV
  go_enter Tryz.func151, Tryz.ntmps151
  go_wp2_with fail
  refine (HK.out _ (he.up up0) (HS.out.up up0)).mono ?_
  rintro e w1 ⟨rfl, b1⟩
  have k0 : w1.cell? ⟨w.heap.size + 1, 0, none⟩ = some (.int .i64 c.at_) := bcl b1 (by simp) (by simp)
  have k1 : w1.cell? ⟨w.heap.size + 1, 1, none⟩ = some (.int .i64 c.r0) := bcl b1 (by simp) (by simp)
  have k2 : w1.cell? ⟨w.heap.size + 1, 2, none⟩ = some (.int .i64 c.r1) := bcl b1 (by simp) (by simp)
  have k3 : w1.cell? ⟨w.heap.size + 1, 3, none⟩ = some (.int .i64 c.r2) := bcl b1 (by simp) (by simp)
  have k4 : w1.cell? ⟨w.heap.size + 1, 4, none⟩ = some (.int .i64 c.r3) := bcl b1 (by simp) (by simp)
  have k5 : w1.cell? ⟨w.heap.size + 1, 5, none⟩ = some (.int .i64 c.m0) := bcl b1 (by simp) (by simp)
  have k6 : w1.cell? ⟨w.heap.size + 1, 6, none⟩ = some (.int .i64 c.m1) := bcl b1 (by simp) (by simp)
  have k7 : w1.cell? ⟨w.heap.size + 1, 7, none⟩ = some (.int .i64 c.m2) := bcl b1 (by simp) (by simp)
  have k8 : w1.cell? ⟨w.heap.size + 1, 8, none⟩ = some (.int .i64 c.m3) := bcl b1 (by simp) (by simp)
  have k9 : w1.cell? ⟨w.heap.size + 1, 9, none⟩ = some (.int .i64 c.m4) := bcl b1 (by simp) (by simp)
  have k10 : w1.cell? ⟨w.heap.size + 1, 10, none⟩ = some (.int .i64 c.m5) := bcl b1 (by simp) (by simp)
  have k11 : w1.cell? ⟨w.heap.size + 1, 11, none⟩ = some (.int .i64 c.m6) := bcl b1 (by simp) (by simp)
  have k12 : w1.cell? ⟨w.heap.size + 1, 12, none⟩ = some (.int .i64 c.m7) := bcl b1 (by simp) (by simp)
  have k13 : w1.cell? ⟨w.heap.size + 1, 13, none⟩ = some (.int .i64 c.read) := bcl b1 (by simp) (by simp)
  have k14 : w1.cell? ⟨w.heap.size + 1, 14, none⟩ = some (.slice ao n cap) := bcl b1 (by simp) (by simp)
  have k15 : w1.cell? ⟨w.heap.size + 1, 15, none⟩ = some (.int .i64 c.en) := bcl b1 (by simp) (by simp)
  have p1 : w1.cell? ⟨w.heap.size, 1, none⟩ = some (.slice iao i icap) := bcl b1 (by simp; omega) (cl_alloc _ (by simp) (by simp))
  have hz1 : w.heap.size + 1 < w1.heap.size := by have := b1.size; simp at this; omega
  have u1 : Below w.heap.size w w1 := by
    refine Below.trans ?_ (b1.mono (by simp; omega))
    exact up0
  clear b1 HK
  by_cases h0 : d = 0
  · subst h0
    by_cases h1 : 12 < i
    · have h1' : (12 : Int) < i := by omega
      go_wp2
      go_ret
      exact ⟨ret_int (by simp [stepE, h1]), u1⟩
    · have h1' : ¬ (12 : Int) < i := by omega
      go_wp2_with fail
      refine (HC.out _).mono ?_
      rintro e w2 ⟨rfl, b2⟩
      have k13 := bcl b2 hz1 k13
      have p1 := bcl b2 (Nat.lt_of_succ_lt hz1) p1
      have u2 := u1.trans (b2.mono u1.size)
      clear b2 HC k0 k1 k2 k3 k4 k5 k6 k7 k8 k9 k10 k11 k12 k14 k15
      cases f
      all_goals go_wp2
      all_goals go_ret
      all_goals refine ⟨ret_int ?_, u2⟩
      all_goals first
        | (simp_all [stepE]; done)
        | (unfold stepE; rw [if_neg (by simp), if_neg h1, if_neg (by simp), if_neg (by omega)])
  · have h0' : (d != 0) = true := by simpa using h0
    go_wp2
    go_ret
    exact ⟨ret_int (by simp [stepE, h0]), u1⟩
end Go.Proofs.YtbkdoohhdkahiaaGreatDoor
namespace Go.Proofs.YtbkdoohhdkahiaaGreatDoor
set_option linter.unusedSimpArgs false
set_option linter.unusedVariables false
open Go.RowKit Go.Sort
def Cel.cs (c : Cel) (o : Value) : Array Value := #[.int .i64 c.at_, .int .i64 c.r0, .int .i64 c.r1, .int .i64 c.r2, .int .i64 c.r3, .int .i64 c.m0, .int .i64 c.m1, .int .i64 c.m2, .int .i64 c.m3, .int .i64 c.m4, .int .i64 c.m5, .int .i64 c.m6, .int .i64 c.m7, .int .i64 c.read, o, .int .i64 c.en]
theorem Cel.v_cs (c : Cel) (o : Value) : c.v o = .agg (c.cs o) := rfl
theorem Cel.cs_one (c : Cel) (o : Value) (h : o.oneCell' = true) : (c.cs o).all (·.oneCell') = true := by
  simp [Cel.cs, h]
  simp [Value.oneCell']
def celZ : Cel := ⟨0, 0, 0, 0, 0, 0, 0, 0, 0, 0, 0, 0, 0, 0, 0⟩
theorem infoInt : (Tryz.prog.info? 3).map (fun i => (i.zero, i.size, i.bytes)) = some (some (.int .i64 0), 1, 8) := by kernel_rfl
theorem sizeCell : (Tryz.prog.info? 77).map (·.size) = some 16 := by kernel_rfl
set_option maxRecDepth 100000 in
set_option maxHeartbeats 4000000 in
theorem copied_any (c : Cel) (xs : List Int) (hx : xs.length ≤ 1000) (v : Value) (w : World) (hS : Sl w 1 v xs.length (ints xs)) :
    Calls Tryz.prog 152 #[c.v v] w fun e w' => ∃ v', e = .returned (c.v v') ∧ w'.ownsRow w.heap.size 3 1 v' xs.length (ints xs) ∧ Below w.heap.size w w' := by
  obtain ⟨i0, hi, hz0, hz1, hz2⟩ := info_parts infoInt
  rw [Cel.v_cs]
  have h14 : (c.cs v)[14]? = some v := rfl
  have HS := Lib.hid hS
  clear hS
  go_enter Tryz.func152, Tryz.ntmps152
  go_wp2_with (at_builtin; refine wpList_append_nil rfl (.const (.slice none 0 0)) (.tmp 4) 41 rfl 3 i0 _ 1 8 Tryz.underlying41 hi hz0 hz1 hz2 rfl (by decide) rfl v xs.length (ints xs) rfl (HS.out.up up0) (ints_cell xs) (by unfold maxLen; omega) (by omega) ?_)
  intro v' W ho hb
  have z2 : w.heap.size + 2 ≤ W.heap.size := by have := hb.size; simp at this; omega
  have D : Below w.heap.size w W := by
    refine Below.trans ?_ (hb.mono (by first | omega | (simp; done) | (simp; omega)))
    exact up0
  have r1 : Rw W w.heap.size 77 (c.cs v) := Rw.up ((Rw.new w _ _ rfl).alloc _) hb (by first | omega | (simp; done) | (simp; omega))
  have r2 : Rw W (w.heap.size + 1) 77 (celZ.cs (.slice none 0 0)) := (Rw.new _ 77 _ (by simp)).up hb (by first | omega | (simp; done) | (simp; omega))
  have k1 := r1.cell h14
  have k2 := r1.fr 14
  have hv := own_block ho
  obtain ⟨ao, cap, rfl⟩ := own_form ho
  have R1 := Lib.hid (r1.set 14 (.slice ao xs.length cap))
  have R2 := Lib.hid (r2.set_other (a := ⟨w.heap.size, 14, none⟩) (.slice ao xs.length cap) (by simp))
  have DD := Lib.hid (D.setCell (p := ⟨w.heap.size, 14, none⟩) (Nat.le_refl _) (.slice ao xs.length cap))
  have HO := Lib.hid (own_set (a := ⟨w.heap.size, 14, none⟩) ho (.slice ao xs.length cap) (fun e => by have := hv _ e; simp at this; omega))
  clear r1 r2 D hb ho HS h14
  go_wp2_with (first | (refine wpList_load_row rfl 77 (.tmp 1) rfl w.heap.size rfl 77 (c.cs (.slice ao xs.length cap)) (0, 0) _ R1.out Tryz.underlying77 rfl sizeCell ?_) | (refine wpList_store_row rfl 77 (.tmp 2) (.tmp 7) rfl (w.heap.size + 1) (c.cs (.slice ao xs.length cap)) rfl rfl 77 _ R2.out sizeCell rfl (c.cs_one _ rfl) ?_))
  refine bodyPost_ret (results_cell_row Tryz.results152 _ _ (w.heap.size + 1) 77 (c.cs (.slice ao xs.length cap)) (0, 0) _ rfl (R2.out.row _) Tryz.underlying77 rfl sizeCell) rfl ⟨_, rfl, ?_, below_row DD.out (by omega) _⟩
  exact own_low (own_row HO.out _ (fun e => by have := hv _ e; omega)) (by omega)
end Go.Proofs.YtbkdoohhdkahiaaGreatDoor
namespace Go.Proofs.YtbkdoohhdkahiaaGreatDoor
set_option linter.unusedSimpArgs false
set_option linter.unusedVariables false
open Go.RowKit Go.Sort
structure CelD where
  c : Cel
  out : List Int
structure WldD where
  tick : Int
  cells : List CelD
  lines : List (List Int)
def celC (p : Cel × Value) : List Value := (p.1.cs p.2).toList
theorem celC_len (p : Cel × Value) : (celC p).length = 16 := rfl
def CellsR (w : World) (v : Value) (ds : List CelD) : Prop :=
  ∃ ps : List (Cel × Value), ps.length = ds.length ∧ Sl w 16 v ds.length (rowC celC ps) ∧ ∀ k (hk : k < ds.length) (hk' : k < ps.length), ps[k].1 = ds[k].c ∧ Sl w 1 ps[k].2 ds[k].out.length (ints ds[k].out)
theorem CellsR.up {w w' : World} {v : Value} {ds : List CelD} (h : CellsR w v ds) (hb : Below w.heap.size w w') : CellsR w' v ds := by
  obtain ⟨ps, h1, h2, h3⟩ := h
  exact ⟨ps, h1, h2.up hb, fun k hk hk' => ⟨(h3 k hk hk').1, (h3 k hk hk').2.up hb⟩⟩
theorem CellsR.form {w : World} {v : Value} {ds : List CelD} (h : CellsR w v ds) : ∃ ao cap, v = .slice ao ds.length cap := by
  obtain ⟨ps, h1, h2, h3⟩ := h
  exact h2.form
theorem CellsR.open {w : World} {v : Value} {ds : List CelD} (h : CellsR w v ds) (hn : 0 < ds.length) :
    ∃ b off cap, v = .slice (some ⟨b, off, none⟩) ds.length cap ∧ ds.length ≤ cap ∧ b < w.heap.size ∧ ∀ k (hk : k < ds.length), ∃ ao oc, w.rangeAt b (off + k * 16) (ds[k].c.cs (.slice ao ds[k].out.length oc)).toList ∧ Sl w 1 (.slice ao ds[k].out.length oc) ds[k].out.length (ints ds[k].out) := by
  obtain ⟨ps, h1, h2, h3⟩ := h
  obtain ⟨b, off, cap, e, hcap, hb, hc⟩ := h2.open hn
  refine ⟨b, off, cap, e, hcap, hb, fun k hk => ?_⟩
  have hk' : k < ps.length := by omega
  obtain ⟨e1, s1⟩ := h3 k hk hk'
  obtain ⟨ao, oc, e2⟩ := s1.form
  refine ⟨ao, oc, fun j u hj => ?_, e2 ▸ s1⟩
  have hj16 : j < 16 := by have := (List.getElem?_eq_some_iff.1 hj).1; simpa [Cel.cs] using this
  rw [Nat.add_assoc]
  refine hc (k * 16 + j) u ?_
  rw [rowC_at (s := 16) (f := celC) celC_len ps k j hk' hj16, celC, e1, e2]
  exact hj
def LinesR (w : World) (v : Value) (ls : List (List Int)) : Prop :=
  ∃ vs : List Value, vs.length = ls.length ∧ Sl w 1 v ls.length vs ∧ ∀ k (hk : k < ls.length) (hk' : k < vs.length), Sl w 1 vs[k] ls[k].length (ints ls[k])
theorem LinesR.up {w w' : World} {v : Value} {ls : List (List Int)} (h : LinesR w v ls) (hb : Below w.heap.size w w') : LinesR w' v ls := by
  obtain ⟨vs, h1, h2, h3⟩ := h
  exact ⟨vs, h1, h2.up hb, fun k hk hk' => (h3 k hk hk').up hb⟩
theorem LinesR.form {w : World} {v : Value} {ls : List (List Int)} (h : LinesR w v ls) : ∃ ao cap, v = .slice ao ls.length cap := by
  obtain ⟨vs, h1, h2, h3⟩ := h
  exact h2.form
theorem LinesR.open {w : World} {v : Value} {ls : List (List Int)} (h : LinesR w v ls) (hn : 0 < ls.length) :
    ∃ b off cap, v = .slice (some ⟨b, off, none⟩) ls.length cap ∧ ls.length ≤ cap ∧ b < w.heap.size ∧ ∀ k (hk : k < ls.length), ∃ ao oc, w.cell? ⟨b, off + k, none⟩ = some (.slice ao ls[k].length oc) ∧ Sl w 1 (.slice ao ls[k].length oc) ls[k].length (ints ls[k]) := by
  obtain ⟨vs, h1, h2, h3⟩ := h
  obtain ⟨b, off, cap, e, hcap, hb, hc⟩ := h2.open hn
  refine ⟨b, off, cap, e, hcap, hb, fun k hk => ?_⟩
  have hk' : k < vs.length := by omega
  have s1 := h3 k hk hk'
  obtain ⟨ao, oc, e2⟩ := s1.form
  exact ⟨ao, oc, hc k _ (by rw [List.getElem?_eq_getElem hk', e2]), e2 ▸ s1⟩
structure Wld (w : World) (vc vl : Value) (D : WldD) : Prop where
  c : CellsR w vc D.cells
  l : LinesR w vl D.lines
theorem Wld.up {w w' : World} {vc vl : Value} {D : WldD} (h : Wld w vc vl D) (hb : Below w.heap.size w w') : Wld w' vc vl D := ⟨h.c.up hb, h.l.up hb⟩
def celB (p : Prt) (d : CelD) : Bool := d.c.fine d.out.length && decide (d.c.read ≤ p.inn.length)
def cellsB : List Prt → List CelD → Bool
  | [], [] => true
  | p :: ps, d :: ds => celB p d && cellsB ps ds
  | _, _ => false
theorem cellsB_len : ∀ {ps : List Prt} {ds : List CelD}, cellsB ps ds = true → ds.length = ps.length
  | [], [], _ => rfl
  | p :: ps, d :: ds, h => by simp [cellsB] at h; simp [cellsB_len h.2]
  | [], _ :: _, h => by simp [cellsB] at h
  | _ :: _, [], h => by simp [cellsB] at h
theorem cellsB_yes : ∀ {ps : List Prt} {ds : List CelD}, ds.length = ps.length → (∀ k (h : k < ps.length) (h' : k < ds.length), celB ps[k] ds[k] = true) → cellsB ps ds = true
  | [], [], _, _ => rfl
  | p :: ps, d :: ds, h, ha => by
    rw [cellsB, show celB p d = true from ha 0 (by simp) (by simp), cellsB_yes (by simpa using h) (fun k h1 h2 => ha (k + 1) (by simpa using h1) (by simpa using h2))]
    rfl
  | [], _ :: _, h, _ => by simp at h
  | _ :: _, [], h, _ => by simp at h
theorem cellsB_at : ∀ {ps : List Prt} {ds : List CelD}, cellsB ps ds = true → ∀ k (h : k < ps.length) (h' : k < ds.length), celB ps[k] ds[k] = true
  | p :: ps, d :: ds, h, 0, _, _ => by simp [cellsB] at h; exact h.1
  | p :: ps, d :: ds, h, k + 1, h1, h2 => by simp [cellsB] at h; exact cellsB_at h.2 k (by simpa using h1) (by simpa using h2)
def linesB : List Chn → List (List Int) → Bool
  | [], [] => true
  | c :: cs, l :: ls => decide (chkL c.kd l.length = 0) && linesB cs ls
  | _, _ => false
theorem linesB_len : ∀ {cs : List Chn} {ls : List (List Int)}, linesB cs ls = true → ls.length = cs.length
  | [], [], _ => rfl
  | p :: ps, d :: ds, h => by simp [linesB] at h; simp [linesB_len h.2]
  | [], _ :: _, h => by simp [linesB] at h
  | _ :: _, [], h => by simp [linesB] at h
theorem linesB_yes : ∀ {cs : List Chn} {ls : List (List Int)}, ls.length = cs.length → (∀ k (h : k < cs.length) (h' : k < ls.length), chkL cs[k].kd ls[k].length = 0) → linesB cs ls = true
  | [], [], _, _ => rfl
  | p :: ps, d :: ds, h, ha => by
    rw [linesB, show chkL p.kd d.length = 0 from ha 0 (by simp) (by simp), linesB_yes (by simpa using h) (fun k h1 h2 => ha (k + 1) (by simpa using h1) (by simpa using h2))]
    rfl
  | [], _ :: _, h, _ => by simp at h
  | _ :: _, [], h, _ => by simp at h
theorem linesB_at : ∀ {cs : List Chn} {ls : List (List Int)}, linesB cs ls = true → ∀ k (h : k < cs.length) (h' : k < ls.length), chkL cs[k].kd ls[k].length = 0
  | p :: ps, d :: ds, h, 0, _, _ => by simp [linesB] at h; exact h.1
  | p :: ps, d :: ds, h, k + 1, h1, h2 => by simp [linesB] at h; exact linesB_at h.2 k (by simpa using h1) (by simpa using h2)
end Go.Proofs.YtbkdoohhdkahiaaGreatDoor
namespace Go.Proofs.YtbkdoohhdkahiaaGreatDoor
set_option linter.unusedSimpArgs false
set_option linter.unusedVariables false
open Go.RowKit Go.Sort
section
variable {P : Program} {ops : Array Oper} {Q : Exit → Act → World → Prop} {md : Region.Mode} {S : World → Prop}
theorem Still.oneG {z i : Nat} {o : Oper} {rs : List Nat} {n : Nat} {done : Array Bool} {a : Act} {w : World} (ho : ops[i]? = some o) (hw : Region.wanted o (yielded ops a.tmps) = true)
    (h : ∀ K : Act → World → Prop, (∀ a' w', (i ≠ z → S w') → ((i ≠ z → S w') → Still P md ops Q S z n (done.setIfInBounds i true) a' w') → K a' w') → Oper.wp P o a w K Q)
    (hs : ∀ j ∈ rs, wpOp P ops Q j (fun a' w' => (j ≠ z → S w') ∧ Still P md ops Q S z n (done.setIfInBounds j true) a' w') a w) :
    ∀ j ∈ i :: rs, wpOp P ops Q j (fun a' w' => (j ≠ z → S w') ∧ Still P md ops Q S z n (done.setIfInBounds j true) a' w') a w := by
  intro j hj
  rcases List.mem_cons.1 hj with rfl | hj
  · unfold wpOp
    simp only [ho, hw, if_true]
    exact .inl (h _ fun a' w' h1 h2 => ⟨h1, h2 h1⟩)
  · exact hs j hj
end
end Go.Proofs.YtbkdoohhdkahiaaGreatDoor
namespace Go.Proofs.YtbkdoohhdkahiaaGreatDoor
set_option linter.unusedSimpArgs false
set_option linter.unusedVariables false
open Go.RowKit Go.Sort
theorem range_up {B : Nat} {w w' : World} {b o : Nat} {cs : List Value} (h : w.rangeAt b o cs) (hb : Below B w w') (hlt : b < B) : w'.rangeAt b o cs := fun j v hj => bcl hb hlt (h j v hj)
theorem wpList_load_midA {P : Program} {ops : Array Oper} {rest : List Oper} {op : Oper} {a : Act} {w : World} {Q : Exit → Act → World → Prop} (hgd : op.guard = none) (ty : TypeId) (x : Operand) (ho : op.op = .load ty x)
    (b o : Nat) (hx : a.eval x = .pointer (some ⟨b, o, none⟩)) (cs : Array Value) (d : TypeDesc) (hc : w.rangeAt b o cs.toList)
    (hu : P.underlying ty = some d) (hd : d.isRow = true) (hi : (P.info? ty).map (·.size) = some cs.size)
    (h : wpList P ops Q rest (a.put op.dst (.agg cs)) w) : wpList P ops Q (op :: rest) a w :=
  wpList_load_mid hgd ty x ho b o hx cs.toList d hc hu hd (by simpa using hi) (by simpa using h)
theorem isRun_any (n : Int) (w : World) : Calls Tryz.prog 51 #[.int .i64 n] w fun e w' => e = .returned (.bool (withinB n 0 300)) ∧ w' = w := by
  by_cases h : 0 ≤ n
  all_goals
    go_enter Tryz.func51, Tryz.ntmps51
    go_wp2
    go_ret
    exact ⟨ret_bool (by simp [withinB]; try omega), rfl⟩
end Go.Proofs.YtbkdoohhdkahiaaGreatDoor
namespace Go.Proofs.YtbkdoohhdkahiaaGreatDoor
set_option linter.unusedSimpArgs false
set_option linter.unusedVariables false
open Go.RowKit Go.Sort
end Go.Proofs.YtbkdoohhdkahiaaGreatDoor
namespace Go.Proofs.YtbkdoohhdkahiaaGreatDoor
set_option linter.unusedSimpArgs false
set_option linter.unusedVariables false
open Go.RowKit Go.Sort
theorem wpList_buildOne {P : Program} {ops : Array Oper} {rest : List Oper} {o : Oper} {a : Act} {w : World} {Q : Exit → Act → World → Prop} (hg : o.guard = none) (t e : TypeId) (x : Operand) (ho : o.op = .buildSlice t 1 #[(0, x)])
    (cs : Array Value) (hx : a.eval x = .agg cs) (hu : P.underlying t = some (.slice e)) (hsz : (P.info? e).map (·.size) = some cs.size) (hz : ((P.info? e).bind (·.zero)).isSome = true) (hpos : 0 < cs.size) (hsmall : cs.size ≤ 2 ^ 24)
    (h : wpList P ops Q rest (a.put o.dst (.slice (some ⟨w.heap.size, 0, none⟩) 1 1)) (w.alloc (.cells cs e))) : wpList P ops Q (o :: rest) a w := by
  cases hie : P.info? e with
  | none => simp [hie] at hsz
  | some ie =>
    simp only [hie, Option.map_some, Option.some.injEq, Option.bind_some] at hsz hz
    obtain ⟨z, hzz⟩ := Option.isSome_iff_exists.1 hz
    refine wpList_buildSlice hg t e 1 _ ho cs ie z hu hie hzz (by omega) (by omega) ?_ h
    have hf := Great.fill_whole (s := ie.size) (by omega) [.agg cs] ((Array.range (1 * ie.size)).map (z.cells[· % z.cells.size]!)) (fun v hv => by simp at hv; subst hv; simpa [Value.cells] using hsz.symm) (by simp)
    simpa [hx, Value.cells] using hf
theorem sl_growK {w w' : World} {row : Option Nat} {size : Nat} {v : Value} {n : Nat} {xs : List Value} (h : Sl w size v n xs) (hg : w.grownBy w' row) (hne : ∀ k, v.ownBlock = some k → row ≠ some k) : Sl w' size v n xs := by
  obtain ⟨h1, ao, cap, rfl, h3, h4⟩ := h
  refine ⟨h1, ao, cap, rfl, h3, fun hn => ?_⟩
  obtain ⟨b, off, rfl, hlt, hc⟩ := h4 hn
  exact ⟨b, off, rfl, Nat.lt_of_lt_of_le hlt hg.size, fun j u hj => (hg.cell_far ⟨b, off + j, none⟩ hlt (fun e => hne b rfl e.symm)).trans (hc j u hj)⟩
theorem own_growK {w w' : World} {row : Option Nat} {base : Nat} {e : TypeId} {size : Nat} {v : Value} {n : Nat} {xs : List Value} (h : w.ownsRow base e size v n xs) (hg : w.grownBy w' row) (hne : ∀ k, v.ownBlock = some k → row ≠ some k) : w'.ownsRow base e size v n xs := by
  have hlt := own_lt h
  refine ⟨h.1, ?_⟩
  rcases h.2 with hn | ⟨g, cap, cur, rfl, hb, hh, r⟩
  · exact .inl hn
  · exact .inr ⟨g, cap, cur, rfl, hb, (hg.block g (hlt g rfl) (fun e => hne g rfl e.symm)).trans hh, r⟩
def In (B G : Nat) (w : World) (vc vl o : Value) : Prop := ∀ b, o.ownBlock = some b → (B ≤ b ∧ b ≠ G) ∧ b < w.heap.size ∧ vc.ownBlock ≠ some b ∧ vl.ownBlock ≠ some b
structure NewV (B G : Nat) (w : World) (vc vl : Value) (cs : List CelD) (ls : List (List Int)) : Prop where
  c : ∃ ps : List (Cel × Value), ps.length = cs.length ∧ w.ownsRow B 77 16 vc cs.length (rowC celC ps) ∧ ∀ k (hk : k < cs.length) (hk' : k < ps.length), ps[k].1 = cs[k].c ∧ Sl w 1 ps[k].2 cs[k].out.length (ints cs[k].out) ∧ In B G w vc vl ps[k].2
  l : ∃ vs : List Value, vs.length = ls.length ∧ w.ownsRow B 171 1 vl ls.length vs ∧ ∀ k (hk : k < ls.length) (hk' : k < vs.length), Sl w 1 vs[k] ls[k].length (ints ls[k]) ∧ In B G w vc vl vs[k]
  a : ∀ b, vc.ownBlock = some b → vl.ownBlock ≠ some b
section
variable {B G : Nat} {w w' : World} {vc vl : Value} {cs : List CelD} {ls : List (List Int)}
theorem In.up {o : Value} (h : In B G w vc vl o) (hs : w.heap.size ≤ w'.heap.size) : In B G w' vc vl o := fun b e => ⟨(h b e).1, Nat.lt_of_lt_of_le (h b e).2.1 hs, (h b e).2.2⟩
theorem NewV.nil (B G : Nat) (w : World) : NewV B G w (.slice none 0 0) (.slice none 0 0) [] [] :=
  ⟨⟨[], rfl, World.ownsRow_nil _ _ _ _, fun k hk => by simp at hk⟩, ⟨[], rfl, World.ownsRow_nil _ _ _ _, fun k hk => by simp at hk⟩, fun b e => by cases e⟩
theorem NewV.up (h : NewV B G w vc vl cs ls) (hb : Below w.heap.size w w') : NewV B G w' vc vl cs ls := by
  obtain ⟨⟨ps, p1, p2, p3⟩, ⟨vs, q1, q2, q3⟩, a⟩ := h
  exact ⟨⟨ps, p1, own_up p2 hb (own_lt p2), fun k hk hk' => ⟨(p3 k hk hk').1, (p3 k hk hk').2.1.up hb, (p3 k hk hk').2.2.up hb.size⟩⟩, ⟨vs, q1, own_up q2 hb (own_lt q2), fun k hk hk' => ⟨(q3 k hk hk').1.up hb, (q3 k hk hk').2.up hb.size⟩⟩, a⟩
theorem NewV.set (h : NewV B G w vc vl cs ls) {g i : Nat} (hg : g < B) (u : Value) : NewV B G (w.setCell ⟨g, i, none⟩ u) vc vl cs ls := by
  obtain ⟨⟨ps, p1, p2, p3⟩, ⟨vs, q1, q2, q3⟩, a⟩ := h
  have hs : (w.setCell ⟨g, i, none⟩ u).heap.size = w.heap.size := size_set ..
  refine ⟨⟨ps, p1, own_set (a := ⟨g, i, none⟩) p2 u (fun e => by have := own_block p2 _ e; simp at this; omega), fun k hk hk' => ⟨(p3 k hk hk').1, (p3 k hk hk').2.1.set u (fun e => by have := ((p3 k hk hk').2.2 _ e).1; omega), (p3 k hk hk').2.2.up (by rw [hs]; exact Nat.le_refl _)⟩⟩, ⟨vs, q1, own_set (a := ⟨g, i, none⟩) q2 u (fun e => by have := own_block q2 _ e; simp at this; omega), fun k hk hk' => ⟨(q3 k hk hk').1.set u (fun e => by have := ((q3 k hk hk').2 _ e).1; omega), (q3 k hk hk').2.up (by rw [hs]; exact Nat.le_refl _)⟩⟩, a⟩
theorem NewV.addC (h : NewV B G w vc vl cs ls) (d : CelD) (o : Value) (ho : Sl w 1 o d.out.length (ints d.out)) (hi : In B G w vc vl o) :
    ∃ ps : List (Cel × Value), w.ownsRow B 77 16 vc cs.length (rowC celC ps) ∧
      ∀ vc' w', w'.ownsRow B 77 16 vc' (cs.length + 1) (rowC celC ps ++ (d.c.cs o).toList) → w.grownBy w' vc.ownBlock → (vc.ownBlock = vc'.ownBlock ∨ ∃ g, vc'.ownBlock = some g ∧ w.heap.size ≤ g) → NewV B G w' vc' vl (cs ++ [d]) ls := by
  obtain ⟨⟨ps, p1, p2, p3⟩, ⟨vs, q1, q2, q3⟩, a⟩ := h
  refine ⟨ps, p2, fun vc' w' hown hgr hat => ?_⟩
  have hin : ∀ x, In B G w vc vl x → In B G w' vc' vl x := fun x hx b e => by
    obtain ⟨h1, h2, h3, h4⟩ := hx b e
    refine ⟨h1, Nat.lt_of_lt_of_le h2 hgr.size, fun e' => ?_, h4⟩
    rcases hat with h5 | ⟨g, h5, h6⟩
    · exact h3 (h5.trans e')
    · rw [h5] at e'; injection e' with e'; omega
  have hsl : ∀ x n xs, Sl w 1 x n xs → In B G w vc vl x → Sl w' 1 x n xs := fun x n xs hx hi => sl_growK hx hgr (fun k e => (hi k e).2.2.1)
  refine ⟨⟨ps ++ [(d.c, o)], by simp [p1], by simpa [rowC, celC] using hown, fun k hk hk' => ?_⟩, ⟨vs, q1, own_growK q2 hgr (fun k e e' => a k e' e), fun k hk hk' => ⟨hsl _ _ _ (q3 k hk hk').1 (q3 k hk hk').2, hin _ (q3 k hk hk').2⟩⟩, fun b e e' => ?_⟩
  · rcases Nat.lt_or_ge k cs.length with h1 | h1
    · have h2 : k < ps.length := by omega
      simp only [List.getElem_append_left h1, List.getElem_append_left h2]
      exact ⟨(p3 k h1 h2).1, hsl _ _ _ (p3 k h1 h2).2.1 (p3 k h1 h2).2.2, hin _ (p3 k h1 h2).2.2⟩
    · have hk2 : k = cs.length := by simp at hk; omega
      subst hk2
      simp only [List.getElem_append_right (Nat.le_refl _), Nat.sub_self, List.getElem_cons_zero]
      rw [List.getElem_append_right (by omega)]
      simp only [p1, Nat.sub_self, List.getElem_cons_zero]
      exact ⟨trivial, hsl _ _ _ ho hi, hin _ hi⟩
  · rcases hat with h5 | ⟨g, h5, h6⟩
    · exact a b (h5.trans e) e'
    · rw [h5] at e
      injection e with e
      have := own_lt q2 b e'
      omega
theorem NewV.addL (h : NewV B G w vc vl cs ls) (d : List Int) (o : Value) (ho : Sl w 1 o d.length (ints d)) (hi : In B G w vc vl o) :
    ∃ vs : List Value, w.ownsRow B 171 1 vl ls.length vs ∧
      ∀ vl' w', w'.ownsRow B 171 1 vl' (ls.length + 1) (vs ++ [o]) → w.grownBy w' vl.ownBlock → (vl.ownBlock = vl'.ownBlock ∨ ∃ g, vl'.ownBlock = some g ∧ w.heap.size ≤ g) → NewV B G w' vc vl' cs (ls ++ [d]) := by
  obtain ⟨⟨ps, p1, p2, p3⟩, ⟨vs, q1, q2, q3⟩, a⟩ := h
  refine ⟨vs, q2, fun vl' w' hown hgr hat => ?_⟩
  have hin : ∀ x, In B G w vc vl x → In B G w' vc vl' x := fun x hx b e => by
    obtain ⟨h1, h2, h3, h4⟩ := hx b e
    refine ⟨h1, Nat.lt_of_lt_of_le h2 hgr.size, h3, fun e' => ?_⟩
    rcases hat with h5 | ⟨g, h5, h6⟩
    · exact h4 (h5.trans e')
    · rw [h5] at e'; injection e' with e'; omega
  have hsl : ∀ x n xs, Sl w 1 x n xs → In B G w vc vl x → Sl w' 1 x n xs := fun x n xs hx hi => sl_growK hx hgr (fun k e => (hi k e).2.2.2)
  refine ⟨⟨ps, p1, own_growK p2 hgr (fun k e e' => a k e e'), fun k hk hk' => ⟨(p3 k hk hk').1, hsl _ _ _ (p3 k hk hk').2.1 (p3 k hk hk').2.2, hin _ (p3 k hk hk').2.2⟩⟩, ⟨vs ++ [o], by simp [q1], by simpa using hown, fun k hk hk' => ?_⟩, fun b e e' => ?_⟩
  · rcases Nat.lt_or_ge k ls.length with h1 | h1
    · have h2 : k < vs.length := by omega
      simp only [List.getElem_append_left h1, List.getElem_append_left h2]
      exact ⟨hsl _ _ _ (q3 k h1 h2).1 (q3 k h1 h2).2, hin _ (q3 k h1 h2).2⟩
    · have hk2 : k = ls.length := by simp at hk; omega
      subst hk2
      simp only [List.getElem_append_right (Nat.le_refl _), Nat.sub_self, List.getElem_cons_zero]
      rw [List.getElem_append_right (by omega)]
      simp only [q1, Nat.sub_self, List.getElem_cons_zero]
      exact ⟨hsl _ _ _ ho hi, hin _ hi⟩
  · rcases hat with h5 | ⟨g, h5, h6⟩
    · exact a b e (h5.trans e')
    · rw [h5] at e'
      injection e' with e'
      have := own_lt p2 b e
      omega
theorem NewV.reG {G' : Nat} (h : NewV B G w vc vl cs ls) (hG : w.heap.size ≤ G') : NewV B G' w vc vl cs ls := by
  obtain ⟨⟨ps, p1, p2, p3⟩, ⟨vs, q1, q2, q3⟩, a⟩ := h
  have hin : ∀ x, In B G w vc vl x → In B G' w vc vl x := fun x hx b e => by
    obtain ⟨⟨h1, _⟩, h2, h3⟩ := hx b e
    exact ⟨⟨h1, by omega⟩, h2, h3⟩
  exact ⟨⟨ps, p1, p2, fun k hk hk' => ⟨(p3 k hk hk').1, (p3 k hk hk').2.1, hin _ (p3 k hk hk').2.2⟩⟩, ⟨vs, q1, q2, fun k hk hk' => ⟨(q3 k hk hk').1, hin _ (q3 k hk hk').2⟩⟩, a⟩
theorem NewV.wld {D : WldD} (h : NewV B G w vc vl D.cells D.lines) : Wld w vc vl D := by
  obtain ⟨⟨ps, p1, p2, p3⟩, ⟨vs, q1, q2, q3⟩, a⟩ := h
  exact ⟨⟨ps, p1, own_sl p2, fun k hk hk' => ⟨(p3 k hk hk').1, (p3 k hk hk').2.1⟩⟩, ⟨vs, q1, own_sl q2, fun k hk hk' => (q3 k hk hk').1⟩⟩
end
end Go.Proofs.YtbkdoohhdkahiaaGreatDoor

/- What RulesOf says and what Rules says is one. -/
import Derived.Test.YtbkdoohhdkahiaaGreatDoorJ13
import Derived.Test.YtbkdoohhdkahiaaGreatDoorJ2
import Derived.Test.YtbkdoohhdkahiaaGreatDoorJ3
import Derived.Deep.MidRow
import Derived.Test.YtbkdoohhdkahiaaGreatDoorJ6
import Derived.Test.YtbkdoohhdkahiaaGreatDoorJ9
import Derived.Test.YtbkdoohhdkahiaaGreatDoorJ5
import Derived.Test.YtbkdoohhdkahiaaGreatDoorJ4
namespace Go.Proofs.YtbkdoohhdkahiaaGreatDoor
set_option linter.unusedSimpArgs false
set_option linter.unusedVariables false
set_option maxRecDepth 100000
set_option maxHeartbeats 4000000
open Go.RowKit Go.Sort
variable {c : UInt8} {e : Edg} {a b : Int} {m n : Nat} {L : List Edg} {w w' : World} {ls : List (List Int)}
theorem xts : ∀ {p : List UInt8} (r : List UInt8), (∀ x ∈ p, x ≠ c) -> xc2 c (p ++ c :: r) = (p, r, true)
 | [], r, _ => by rw [List.nil_append, xc2, if_pos rfl]
 | x :: p, r, h => by
  rw [List.cons_append, xc2, if_neg (h x (by simp)), xts r (fun y hy => h y (by simp [hy]))]
theorem xw2 : ∀ {p : List UInt8}, (∀ x ∈ p, x ≠ c) -> xc2 c p = (p, [], false)
 | [], _ => rfl
 | x :: p, h => by
  rw [xc2, if_neg (h x (by simp)), xw2 (fun y hy => h y (by simp [hy]))]
theorem xlp : ∀ {l : List UInt8}, (xc2 c l).2.2 = true -> l = (xc2 c l).1 ++ c :: (xc2 c l).2.1
 | [], h => by cases h
 | x :: l, h => by
  rw [xc2] at h ⊢
  by_cases hx : x = c
  .rw [if_pos hx, hx]
   rfl
  .rw [if_neg hx] at h ⊢
   exact congrArg (x :: ·) (xlp h)
theorem xs0 : ∀ {l : List UInt8}, (xc2 c l).2.2 = false -> l = (xc2 c l).1
 | [], _ => rfl
 | x :: l, h => by
  rw [xc2] at h ⊢
  by_cases hx : x = c
  .rw [if_pos hx] at h
   cases h
  .rw [if_neg hx] at h ⊢
   exact congrArg (x :: ·) (xs0 h)
theorem xhu (h : inE e) : 0 <= e.fr /\ e.fr < 4 /\ 0 <= e.tt /\ e.tt < 4 := by
 obtain ⟨h1, h2⟩ := h
 unfold xaf at h1 h2
 rw [Bool.and_eq_true, decide_eq_true_eq, decide_eq_true_eq] at h1 h2
 omega
theorem x2g (h0 : 0 <= a) (h1 : a < 4) (h2 : 0 <= b) (h3 : b < 4) : inE ⟨a, b⟩ := by
 constructor
 .unfold xaf
  rw [Bool.and_eq_true, decide_eq_true_eq, decide_eq_true_eq]
  show 0 <= a /\ a <= 3
  omega
 .unfold xaf
  rw [Bool.and_eq_true, decide_eq_true_eq, decide_eq_true_eq]
  show 0 <= b /\ b <= 3
  omega
theorem xth (h : inE e) : xd5 e = [UInt8.ofNat (48 + e.fr.toNat), 62, UInt8.ofNat (48 + e.tt.toNat)] := by
 obtain ⟨h0, h1, h2, h3⟩ := xhu h
 unfold xd5
 rw [xkz h0 h1, xkz h2 h3]
 rfl
theorem xnn {P : Edg -> Prop} (hP : ∀ a b : Fin 4, P ⟨(a.val : Int), (b.val : Int)⟩) {e : Edg} (h : inE e) : P e := by
 obtain ⟨h0, h1, h2, h3⟩ := xhu h
 obtain ⟨a, b⟩ := e
 dsimp only at h0 h1 h2 h3
 have := hP ⟨a.toNat, by omega⟩ ⟨b.toNat, by omega⟩
 rw [show (((⟨a.toNat, by omega⟩ : Fin 4).val : Nat) : Int) = a by show ((a.toNat : Nat) : Int) = a; omega, show (((⟨b.toNat, by omega⟩ : Fin 4).val : Nat) : Int) = b by show ((b.toNat : Nat) : Int) = b; omega] at this
 exact this
theorem xfm (h : inE e) : ∀ x ∈ xd5 e, x ≠ 32 := xnn (P := fun e => ∀ x ∈ xd5 e, x ≠ 32) (by
 have : ∀ a b : Fin 4, ∀ x ∈ xd5 ⟨(a.val : Int), (b.val : Int)⟩, x ≠ 32 := by decide +kernel
 exact this) h
theorem xm4 (h : inE e) : xjo (xd5 e) = some (e.fr, e.tt) := xnn (P := fun e => xjo (xd5 e) = some (e.fr, e.tt)) (by
 have : ∀ a b : Fin 4, xjo (xd5 ⟨(a.val : Int), (b.val : Int)⟩) = some ((a.val : Int), (b.val : Int)) := by decide +kernel
 exact this) h
theorem xui (h : inE e) : xnh (xd5 e) = e := xnn (P := fun e => xnh (xd5 e) = e) (by
 have : ∀ a b : Fin 4, (xnh (xd5 ⟨(a.val : Int), (b.val : Int)⟩)).fr = (a.val : Int) /\ (xnh (xd5 ⟨(a.val : Int), (b.val : Int)⟩)).tt = (b.val : Int) := by decide +kernel
 intro a b
 obtain ⟨h1, h2⟩ := this a b
 generalize xnh (xd5 ⟨(a.val : Int), (b.val : Int)⟩) = x at h1 h2
 obtain ⟨p, q⟩ := x
 dsimp only at h1 h2
 rw [h1, h2]) h
theorem xyn {l : List UInt8} (h : xjo l = some (a, b)) : inE ⟨a, b⟩ /\ l = xd5 ⟨a, b⟩ := by
 unfold xjo at h
 split at h
 .rename_i hz
  split at h
  .rename_i x y hx hy
   injection h with h
   injection h with h1 h2
   subst h1
   subst h2
   have p1 := xdh hx
   have p2 := xdh hy
   refine ⟨x2g p1.1 p1.2.1 p2.1 p2.2.1, ?_⟩
   have hl := xlp (c := 62) (l := l) (by first | exact hz | simpa using hz)
   rw [p1.2.2, p2.2.2] at hl
   rw [hl, xth (x2g p1.1 p1.2.1 p2.1 p2.2.1)]
   rfl
  .cases h
 .cases h
def xey : List Edg -> List UInt8
 | [] => []
 | [e] => xd5 e
 | e :: f :: r => xd5 e ++ 32 :: xey (f :: r)
theorem xmf : ∀ (l : List Edg) (e : Edg), l ≠ [] -> xey (l ++ [e]) = (xey l ++ [32]) ++ xd5 e
 | [], _, h => absurd rfl h
 | [x], e, _ => by simp [xey]
 | x :: y :: r, e, _ => by
  have := xmf (y :: r) e (by simp)
  rw [List.cons_append, List.cons_append, xey, <- List.cons_append, this, xey]
  simp
theorem xny (L : List Edg) : ∀ k, k <= L.length -> xfq L k = xey (L.take k)
 | 0, _ => rfl
 | k + 1, h => by
  rw [xmv om, xny L k om, List.take_add_one, List.getElem?_eq_getElem om]
  show _ = xey (L.take k ++ [L[k]])
  by_cases h0 : k = 0
  .subst h0
   simp [xey]
  .rw [if_neg h0, xmf _ _ (by intro e; have hl := congrArg List.length e; rw [List.length_take, List.length_nil] at hl; omega)]
def upR (last : Int × Int) : List Edg -> Prop
 | [] => True
 | e :: r => inE e /\ xiz last.1 last.2 e.fr e.tt = true /\ upR (e.fr, e.tt) r
theorem xru : ∀ {L : List Edg} {last : Int × Int}, upR last L -> 0 <= last.2 -> last.2 < 4 -> last.1 < 4 -> (L.length : Int) + (4 * last.1 + last.2) <= 15
 | [], last, _, h0, h1, h2 => by simp; omega
 | e :: r, last, h, h0, h1, h2 => by
  obtain ⟨h3, h4, h5⟩ := h
  obtain ⟨i0, i1, i2, i3⟩ := xhu h3
  have := xru h5 i2 i3 i1
  unfold xiz at h4
  simp only [Bool.or_eq_true, Bool.and_eq_true, decide_eq_true_eq, beq_iff_eq] at h4
  simp at this ⊢
  omega
theorem xku : ∀ (L : List Edg) (f : Nat) (last : Int × Int), upR last L -> L ≠ [] -> L.length < f -> xd4 f last (xey L) = some L
 | [], _, _, _, h, _ => absurd rfl h
 | _ :: _, 0, _, _, _, h => by omega
 | [e], f + 1, last, h, _, _ => by
  obtain ⟨h1, h2, _⟩ := h
  rw [xey, xd4, xw2 (xfm h1)]
  dsimp only
  rw [xm4 h1]
  dsimp only
  rw [if_pos h2, if_neg (by decide)]
 | e :: g :: r, f + 1, last, h, _, hf => by
  obtain ⟨h1, h2, h3⟩ := h
  have ih := xku (g :: r) f (e.fr, e.tt) h3 (by simp) (by simp at hf ⊢; omega)
  rw [xey, xd4, xts _ (xfm h1)]
  dsimp only
  rw [xm4 h1]
  dsimp only
  rw [if_pos h2, if_pos rfl, ih]
theorem xja : ∀ (f : Nat) (last : Int × Int) (l : List UInt8) (L : List Edg), xd4 f last l = some L -> l = xey L /\ upR last L /\ L ≠ []
 | 0, _, _, _, h => by cases h
 | f + 1, last, l, L, h => by
  rw [xd4] at h
  cases he : xjo (xc2 32 l).1 with
  | none =>
   rw [he] at h
   cases h
  | some e =>
   obtain ⟨a, b⟩ := e
   rw [he] at h
   dsimp only at h
   obtain ⟨hi, ht⟩ := xyn he
   by_cases hl : xiz last.1 last.2 a b = true
   .rw [if_pos hl] at h
    by_cases hz : (xc2 32 l).2.2 = true
    .rw [if_pos hz] at h
     cases hr : xd4 f (a, b) (xc2 32 l).2.1 with
     | none =>
      rw [hr] at h
      cases h
     | some R =>
      rw [hr] at h
      injection h with h
      obtain ⟨i1, i2, i3⟩ := xja f (a, b) _ R hr
      subst h
      refine ⟨?_, ⟨hi, hl, i2⟩, by simp⟩
      have := xlp hz
      rw [ht, i1] at this
      cases R with
      | nil => exact absurd rfl i3
      | cons x r => exact this
    .rw [if_neg hz] at h
     injection h with h
     subst h
     refine ⟨?_, ⟨hi, hl, trivial⟩, by simp⟩
     have := xs0 (c := 32) (l := l) (by simpa using hz)
     rw [ht] at this
     exact this
   .rw [if_neg hl] at h
    cases h
theorem xkv (hm : 0 < m) : ∀ (p cur r : List UInt8), (∀ x ∈ p, x ≠ c) -> xca c m cur (p ++ c :: r) = (cur ++ p) :: xca c (m - 1) [] r
 | [], cur, r, _ => by rw [List.nil_append, xm6 _ _ _ _ hm, List.append_nil]
 | x :: p, cur, r, h => by
  rw [List.cons_append, xhb _ _ _ _ _ hm (h x (by simp)), xkv hm p (cur ++ [x]) r (fun y hy => h y (by simp [hy]))]
  simp
theorem xlf (hm : 0 < m) : ∀ (p cur : List UInt8), (∀ x ∈ p, x ≠ c) -> xca c m cur p = [cur ++ p]
 | [], cur, _ => by rw [xms _ _ _ hm, List.append_nil]
 | x :: p, cur, h => by
  rw [xhb _ _ _ _ _ hm (h x (by simp)), xlf hm p (cur ++ [x]) (fun y hy => h y (by simp [hy]))]
  simp
theorem xmg : ∀ (L : List Edg) (m : Nat), L ≠ [] -> (∀ e ∈ L, inE e) -> L.length <= m -> xdt 32 m (xey L) = L.map xd5
 | [], _, h, _, _ => absurd rfl h
 | [e], m, _, h, hm => by
  unfold xdt
  rw [xey, xlf (by simp at hm; omega) _ _ (xfm (h e (by simp)))]
  simp
 | e :: f :: r, m, _, h, hm => by
  have ih := xmg (f :: r) (m - 1) (by simp) (fun x hx => h x (by simp at hx ⊢; exact Or.inr hx)) (by simp at hm ⊢; omega)
  unfold xdt at ih ⊢
  rw [xey, xkv (by simp at hm; omega) _ _ _ (xfm (h e (by simp))), ih]
  simp
theorem xpq : ∀ {L : List Edg} {last : Int × Int}, upR last L -> ∀ e ∈ L, inE e
 | _ :: _, _, h, e, he => by
  rcases List.mem_cons.1 he with rfl | he
  .exact h.1
  .exact xpq h.2.2 e he
theorem x2o : ∀ {L : List Edg} {last : Int × Int}, upR last L -> ∀ j (h : j + 1 < L.length), xhk (L[j]'om) L[j + 1] = true
 | [_], _, _, j, hj => by simp at hj
 | e :: f :: r, _, h, 0, _ => h.2.2.2.1
 | e :: f :: r, _, h, j + 1, hj => x2o (L := f :: r) h.2.2 j (by simpa using hj)
theorem x5f {last : Int × Int} (h : upR last L) : UpE L L.length := fun j hj _ => ⟨xpq h _ (List.getElem_mem hj), fun h0 => by
 obtain ⟨i, rfl⟩ : ∃ i, j = i + 1 := ⟨j - 1, by omega⟩
 exact x2o h i hj⟩
theorem x2m : ∀ {L : List Edg} {last : Int × Int}, (∀ j (h : j < L.length), inE L[j]) -> (∀ j (h : j + 1 < L.length), xhk (L[j]'om) L[j + 1] = true) -> (∀ h : 0 < L.length, xiz last.1 last.2 L[0].fr L[0].tt = true) -> upR last L
 | [], _, _, _, _ => trivial
 | e :: r, last, h1, h2, h3 => ⟨h1 0 (by simp), h3 (by simp), x2m (fun j hj => h1 (j + 1) so) (fun j hj => h2 (j + 1) so) (fun h => h2 0 so)⟩
theorem x27 (h : UpE L L.length) : upR (-1, 0) L := x2m (fun j hj => (h j hj hj).1) (fun j hj => (h (j + 1) hj hj).2 om) (fun h0 => by
 have := xhu (h 0 h0 h0).1
 unfold xiz
 simp only [Bool.or_eq_true, decide_eq_true_eq]
 left
 omega)
theorem xp6 : ∀ {L : List Edg}, (∀ e ∈ L, inE e) -> L.length <= (xey L).length
 | [], _ => by simp
 | [e], h => by
  rw [xey, xth (h e (by simp))]
  simp
 | e :: f :: r, h => by
  have := xp6 (L := f :: r) (fun x hx => h x (by simp at hx ⊢; exact Or.inr hx))
  rw [xey, List.length_append]
  simp at this ⊢
  omega
theorem xrr (h : UpE L L.length) (hne : xey L ≠ []) : xb8 (xey L) = some L := by
 have hu := x27 h
 unfold xb8
 rw [if_neg hne]
 refine xku L _ _ hu (fun e => hne (by rw [e]; rfl)) ?_
 have := xp6 (xpq hu)
 omega
theorem xyt (s : List UInt8) : xvv s = xb8 s := by
 by_cases he : s = []
 .subst he
  unfold xvv xb8
  rw [if_pos rfl, if_pos rfl]
 .cases hr : xb8 s with
  | some L =>
   have hg := hr
   unfold xb8 at hg
   rw [if_neg he] at hg
   obtain ⟨h1, h2, h3⟩ := xja _ _ _ _ hg
   have hl := xru h2 (by decide) (by decide) (by decide)
   have hE : xct s = L := by
    unfold xct
    rw [h1, xmg L 30 h3 (xpq h2) (by simp at hl; omega), List.map_map]
    refine (List.map_congr_left (g := id) (fun e he => xui (xpq h2 e he))).trans (List.map_id _)
   have := xto he (by rw [hE]; exact x5f h2) (by rw [hE, xny L _ (Nat.le_refl _), List.take_length]; exact h1.symm)
   rw [this, hE]
  | none =>
   by_cases hu : UpE (xct s) (xct s).length
   .by_cases ht : xfq (xct s) (xct s).length = s
    .exfalso
     rw [xny _ _ (Nat.le_refl _), List.take_length] at ht
     have := xrr hu (by rw [ht]; exact he)
     rw [ht, hr] at this
     cases this
    .exact xpw he ht
   .exact xss he hu
def xh2 (kind : Int) (n : Nat) : Int := if kind = 1 then (if 1 < n then 2 else 0) else if kind = 2 then (if 3 < n then 2 else 0) else 4
theorem xcy {kind : Int} (h : xh2 kind n = 0) : (kind = 1 /\ n <= 1) \/ (kind = 2 /\ n <= 3) := by
 unfold xh2 at h
 split at h
 .rename_i h1
  split at h
  .omega
  .omega
 .split at h
  .split at h
   .omega
   .omega
  .omega
def xvl (kind : Int) : Int := if kind = 1 then 1 else if kind = 2 then 3 else 0
theorem xjs (kind : Int) (w : World) : Calls Tryz.prog 189 #[.int .i64 kind] w fun e w' => e = .returned (.int .i64 (xvl kind)) /\ w' = w := by
 unfold xvl
 by_cases h1 : kind = 1
 .subst h1
  go_enter Tryz.func189, Tryz.ntmps189
  go_wp2
  all_goals go_ret
  all_goals exact ⟨rfl, rfl⟩
 .by_cases h2 : kind = 2
  .subst h2
   go_enter Tryz.func189, Tryz.ntmps189
   go_wp2
   all_goals go_ret
   all_goals exact ⟨rfl, rfl⟩
  .rw [if_neg h1, if_neg h2]
   have h1' : (kind == 1) = false := by simpa using h1
   have h2' : (kind == 2) = false := by simpa using h2
   go_enter Tryz.func189, Tryz.ntmps189
   go_wp2
   all_goals go_ret
   all_goals exact ⟨rfl, rfl⟩
theorem xcd (kind : Int) (ao : Option Addr) (n cap : Nat) (w : World) (c : Int) (hc : xh2 kind n = c) : Calls Tryz.prog 187 #[.int .i64 kind, .agg #[.slice ao n cap]] w fun e w' => e = .returned (.int .i64 c) /\ Below w.heap.size w w' := by
 subst hc
 unfold xh2
 by_cases h1 : kind = 1
 .subst h1
  go_enter Tryz.func187, Tryz.ntmps187
  go_wp2_with (go_at_call 189; refine (xjs _ _).mono ?_; rintro e w' ⟨rfl, rfl⟩; simp only [xvl])
  all_goals go_ret
  all_goals exact ⟨xax (by simp; try omega), up0⟩
 .by_cases h2 : kind = 2
  .subst h2
   go_enter Tryz.func187, Tryz.ntmps187
   go_wp2_with (go_at_call 189; refine (xjs _ _).mono ?_; rintro e w' ⟨rfl, rfl⟩; simp only [xvl])
   all_goals go_ret
   all_goals exact ⟨xax (by simp; try omega), up0⟩
  .have hr : xvl kind = 0 := by unfold xvl; rw [if_neg h1, if_neg h2]
   rw [if_neg h1, if_neg h2]
   go_enter Tryz.func187, Tryz.ntmps187
   go_wp2_with (go_at_call 189; refine (xjs _ _).mono ?_; rw [hr]; rintro e w' ⟨rfl, rfl⟩)
   all_goals go_ret
   all_goals exact ⟨rfl, up0⟩
structure Cel where
 at_ : Int
 r0 : Int
 r1 : Int
 r2 : Int
 r3 : Int
 m0 : Int
 m1 : Int
 m2 : Int
 m3 : Int
 m4 : Int
 m5 : Int
 m6 : Int
 m7 : Int
 read : Int
 en : Int
def Cel.v (c : Cel) (o : Value) : Value := .agg #[.int .i64 c.at_, .int .i64 c.r0, .int .i64 c.r1, .int .i64 c.r2, .int .i64 c.r3, .int .i64 c.m0, .int .i64 c.m1, .int .i64 c.m2, .int .i64 c.m3, .int .i64 c.m4, .int .i64 c.m5, .int .i64 c.m6, .int .i64 c.m7, .int .i64 c.read, o, .int .i64 c.en]
def Cel.fine (c : Cel) (n : Nat) : Bool := decide (0 <= c.at_) && decide (c.at_ <= 20) && (decide (0 <= c.read) && decide (c.read <= 12)) && (decide (0 <= c.en) && decide (c.en <= 2)) && decide (n <= 16)
def Cel.err (c : Cel) (n : Nat) : Int := if c.fine n then 0 else 1
theorem xbv (c : Cel) (n : Nat) : c.fine n = true ↔ (0 <= c.at_ /\ c.at_ <= 20 /\ 0 <= c.read /\ c.read <= 12 /\ 0 <= c.en /\ c.en <= 2 /\ n <= 16) := by
 unfold Cel.fine; simp only [Bool.and_eq_true, decide_eq_true_eq]; omega
theorem xxf {c : Cel} (h : 0 <= c.at_ /\ c.at_ <= 20 /\ 0 <= c.read /\ c.read <= 12 /\ 0 <= c.en /\ c.en <= 2 /\ n <= 16) : (0 : Int) = c.err n := by
 unfold Cel.err; rw [(xbv c n).2 h]; rfl
theorem xxl {c : Cel} (h : ¬ (0 <= c.at_ /\ c.at_ <= 20 /\ 0 <= c.read /\ c.read <= 12 /\ 0 <= c.en /\ c.en <= 2 /\ n <= 16)) : (1 : Int) = c.err n := by
 unfold Cel.err; rw [if_neg (fun e => h ((xbv c n).1 e))]
theorem xil (c : Cel) (ao : Option Addr) (n cap : Nat) (w : World) : Calls Tryz.prog 183 #[c.v (.slice ao n cap)] w fun e w' => e = .returned (.int .i64 (c.err n)) /\ Below w.heap.size w w' := by
 unfold Cel.v
 go_enter Tryz.func183, Tryz.ntmps183
 go_wp2
 all_goals go_ret
 all_goals refine ⟨xax ?_, up0⟩
 all_goals first
  | (refine xxl ?_; simp_all; omega)
  | (refine xxl ?_; omega)
  | (refine xxf ?_; omega)
  | (refine xxl ?_; simp_all; done)
  | (refine xxf ?_; rename_i h1 h2; simp only [bne_eq_false_iff_eq] at h1; omega)
  | (exfalso; simp_all; done)
theorem x37 (b : Bool) (w : World) : Calls Tryz.prog 157 #[.bool b] w fun e w' => e = .returned (.int .i64 (if b then 1 else 0)) /\ w' = w := by
 cases b
 all_goals
  go_enter Tryz.func157, Tryz.ntmps157
  go_wp2
  go_ret
  exact ⟨rfl, rfl⟩
theorem xyr (b : Bool) (w : World) : Calls Tryz.prog 164 #[.bool b] w fun e w' => e = .returned (.int .i64 (if b then 1 else 0)) /\ w' = w := by
 cases b
 all_goals
  go_enter Tryz.func164, Tryz.ntmps164
  go_wp2
  go_ret
  exact ⟨rfl, rfl⟩
def xsb (k : Int) : Bool := k == 1 || k == 2
theorem xrl (a : Int) (w : World) : Calls Tryz.prog 190 #[.int .i64 a] w fun e w' => e = .returned (.bool (xlb a)) /\ w' = w := by
 by_cases h : 0 <= a
 all_goals
 go_enter Tryz.func190, Tryz.ntmps190
 go_wp2
 all_goals go_ret
 all_goals exact ⟨xaw (by simp [xlb]; try omega), rfl⟩
def xg6 (f : Bool) (k reg flag kind : Int) : Int := if !f then 1 else if (k != 12 && k != 13) || !xsb kind then 4 else if !xlb reg || !xlb flag then 3 else 0
def xl6 (k ch reg flag val : Int) : Value := .agg #[.int .i64 k, .int .i64 ch, .int .i64 reg, .int .i64 flag, .int .i64 val]
theorem xl1 (c : Cel) (ao : Option Addr) (n cap : Nat) (k ch reg flag val kind : Int) (f : Bool) (hf : c.fine n = f) (w : World) :
  Calls Tryz.prog 156 #[c.v (.slice ao n cap), xl6 k ch reg flag val, .int .i64 kind] w fun e w' => e = .returned (.int .i64 (xg6 f k reg flag kind)) /\ Below w.heap.size w w' := by
 have he : c.err n = if f then 0 else 1 := by rw [<- hf]; rfl
 have hcc : ∀ w, Calls Tryz.prog 183 #[c.v (.slice ao n cap)] w fun e w' => e = .returned (.int .i64 (if f then 0 else 1)) /\ Below w.heap.size w w' := fun w => he ▸ xil c ao n cap w
 have HC := hd hcc
 clear he hf hcc
 unfold Cel.v at HC
 unfold Cel.v xl6
 cases f
 .go_enter Tryz.func156, Tryz.ntmps156
  go_wp2_with fail
  refine (HC.out _).mono ?_
  rintro e w1 ⟨rfl, b1⟩
  go_wp2
  go_ret
  refine ⟨rfl, Below.trans ?_ (b1.mono so)⟩
  exact up0
 .go_enter Tryz.func156, Tryz.ntmps156
  go_wp2_with fail
  refine (HC.out _).mono ?_
  rintro e w1 ⟨rfl, b1⟩
  have a0 : w1.cell? ⟨w.heap.size + 1, 0, none⟩ = some (.int .i64 k) := bcl b1 (by simp) (by simp)
  have a2 : w1.cell? ⟨w.heap.size + 1, 2, none⟩ = some (.int .i64 reg) := bcl b1 (by simp) (by simp)
  have a3 : w1.cell? ⟨w.heap.size + 1, 3, none⟩ = some (.int .i64 flag) := bcl b1 (by simp) (by simp)
  have u1 : Below w.heap.size w w1 := by
   refine Below.trans ?_ (b1.mono so)
   exact up0
  clear b1 HC
  go_wp2_with (go_at_call 190; refine (xrl _ _).mono ?_; rintro e w' ⟨rfl, rfl⟩)
  all_goals go_ret
  all_goals refine ⟨xax ?_, u1⟩
  all_goals (simp_all [xg6, xsb]; done)
def xr1 (d : Int) (i : Nat) (f : Bool) (r : Int) : Int := if d != 0 then d else if 12 < i then 2 else if !f then 1 else if (i : Int) < r then 1 else 0
def xrb (v u : Value) : Value := .agg #[v, u]
theorem xng (l : List Ins) (v : Value) (iao : Option Addr) (i icap : Nat) (c : Cel) (ao : Option Addr) (n cap : Nat) (d : Int) (hd : xd3 l = d) (f : Bool) (hf : c.fine n = f) (w : World) (he : Env w) (hS : Sl w 4 v l.length (xck l)) :
  Calls Tryz.prog 151 #[xrb v (.slice iao i icap), c.v (.slice ao n cap)] w fun e w' => e = .returned (.int .i64 (xr1 d i f c.read)) /\ Below w.heap.size w w' := by
 have hE : c.err n = if f then 0 else 1 := by rw [<- hf]; rfl
 have hcc : ∀ w, Calls Tryz.prog 183 #[c.v (.slice ao n cap)] w fun e w' => e = .returned (.int .i64 (if f then 0 else 1)) /\ Below w.heap.size w w' := fun w => hE ▸ xil c ao n cap w
 have hkk : ∀ w, Env w -> Sl w 4 v l.length (xck l) -> Calls Tryz.prog 77 #[v] w fun e w' => e = .returned (.int .i64 d) /\ Below w.heap.size w w' := fun w he hS => hd ▸ xfc l v w he hS
 have HC := Lib.hid hcc
 have HK := Lib.hid hkk
 have HS := Lib.hid hS
 clear hE hf hcc hkk hS hd
 unfold Cel.v at HC
 unfold Cel.v xrb
 go_enter Tryz.func151, Tryz.ntmps151
 go_wp2_with fail
 refine (HK.out _ (he.up up0) (HS.out.up up0)).mono ?_
 rintro e w1 ⟨rfl, b1⟩
 have k0 : w1.cell? ⟨w.heap.size + 1, 0, none⟩ = some (.int .i64 c.at_) := bcl b1 (by simp) (by simp)
 have k1 : w1.cell? ⟨w.heap.size + 1, 1, none⟩ = some (.int .i64 c.r0) := bcl b1 (by simp) (by simp)
 have k2 : w1.cell? ⟨w.heap.size + 1, 2, none⟩ = some (.int .i64 c.r1) := bcl b1 (by simp) (by simp)
 have k3 : w1.cell? ⟨w.heap.size + 1, 3, none⟩ = some (.int .i64 c.r2) := bcl b1 (by simp) (by simp)
 have k4 : w1.cell? ⟨w.heap.size + 1, 4, none⟩ = some (.int .i64 c.r3) := bcl b1 (by simp) (by simp)
 have k5 : w1.cell? ⟨w.heap.size + 1, 5, none⟩ = some (.int .i64 c.m0) := bcl b1 (by simp) (by simp)
 have k6 : w1.cell? ⟨w.heap.size + 1, 6, none⟩ = some (.int .i64 c.m1) := bcl b1 (by simp) (by simp)
 have k7 : w1.cell? ⟨w.heap.size + 1, 7, none⟩ = some (.int .i64 c.m2) := bcl b1 (by simp) (by simp)
 have k8 : w1.cell? ⟨w.heap.size + 1, 8, none⟩ = some (.int .i64 c.m3) := bcl b1 (by simp) (by simp)
 have k9 : w1.cell? ⟨w.heap.size + 1, 9, none⟩ = some (.int .i64 c.m4) := bcl b1 (by simp) (by simp)
 have k10 : w1.cell? ⟨w.heap.size + 1, 10, none⟩ = some (.int .i64 c.m5) := bcl b1 (by simp) (by simp)
 have k11 : w1.cell? ⟨w.heap.size + 1, 11, none⟩ = some (.int .i64 c.m6) := bcl b1 (by simp) (by simp)
 have k12 : w1.cell? ⟨w.heap.size + 1, 12, none⟩ = some (.int .i64 c.m7) := bcl b1 (by simp) (by simp)
 have k13 : w1.cell? ⟨w.heap.size + 1, 13, none⟩ = some (.int .i64 c.read) := bcl b1 (by simp) (by simp)
 have k14 : w1.cell? ⟨w.heap.size + 1, 14, none⟩ = some (.slice ao n cap) := bcl b1 (by simp) (by simp)
 have k15 : w1.cell? ⟨w.heap.size + 1, 15, none⟩ = some (.int .i64 c.en) := bcl b1 (by simp) (by simp)
 have p1 : w1.cell? ⟨w.heap.size, 1, none⟩ = some (.slice iao i icap) := bcl b1 so (xai _ (by simp) (by simp))
 have hz1 : w.heap.size + 1 < w1.heap.size := by have := b1.size; simp at this; omega
 have u1 : Below w.heap.size w w1 := by
  refine Below.trans ?_ (b1.mono so)
  exact up0
 clear b1 HK
 by_cases h0 : d = 0
 .subst h0
  by_cases h1 : 12 < i
  .have h1' : (12 : Int) < i := by omega
   go_wp2
   go_ret
   exact ⟨xax (by simp [xr1, h1]), u1⟩
  .have h1' : ¬ (12 : Int) < i := by omega
   go_wp2_with fail
   refine (HC.out _).mono ?_
   rintro e w2 ⟨rfl, b2⟩
   have k13 := bcl b2 hz1 k13
   have p1 := bcl b2 (Nat.lt_of_succ_lt hz1) p1
   have u2 := u1.trans (b2.mono u1.size)
   clear b2 HC k0 k1 k2 k3 k4 k5 k6 k7 k8 k9 k10 k11 k12 k14 k15
   cases f
   all_goals go_wp2
   all_goals go_ret
   all_goals refine ⟨xax ?_, u2⟩
   all_goals first
    | (simp_all [xr1]; done)
    | (unfold xr1; rw [if_neg (by simp), if_neg h1, if_neg (by simp), if_neg om])
 .have h0' : (d != 0) = true := by simpa using h0
  go_wp2
  go_ret
  exact ⟨xax (by simp [xr1, h0]), u1⟩
def Cel.cs (c : Cel) (o : Value) : Array Value := #[.int .i64 c.at_, .int .i64 c.r0, .int .i64 c.r1, .int .i64 c.r2, .int .i64 c.r3, .int .i64 c.m0, .int .i64 c.m1, .int .i64 c.m2, .int .i64 c.m3, .int .i64 c.m4, .int .i64 c.m5, .int .i64 c.m6, .int .i64 c.m7, .int .i64 c.read, o, .int .i64 c.en]
theorem Cel.v_cs (c : Cel) (o : Value) : c.v o = .agg (c.cs o) := rfl
theorem Cel.cs_one (c : Cel) (o : Value) (h : o.oneCell' = true) : (c.cs o).all (·.oneCell') = true := by
 simp [Cel.cs, h]
 simp [Value.oneCell']
def xc6 : Cel := ⟨0, 0, 0, 0, 0, 0, 0, 0, 0, 0, 0, 0, 0, 0, 0⟩
theorem xiw : (Tryz.prog.info? 3).map (fun i => (i.zero, i.size, i.bytes)) = some (some (.int .i64 0), 1, 8) := by kernel_rfl
theorem xac : (Tryz.prog.info? 77).map (·.size) = some 16 := by kernel_rfl
theorem xis (c : Cel) (xs : List Int) (hx : xs.length <= 1000) (v : Value) (w : World) (hS : Sl w 1 v xs.length (xar xs)) :
  Calls Tryz.prog 152 #[c.v v] w fun e w' => ∃ v', e = .returned (c.v v') /\ w'.ownsRow w.heap.size 3 1 v' xs.length (xar xs) /\ Below w.heap.size w w' := by
 obtain ⟨i0, hi, hz0, hz1, hz2⟩ := xaj xiw
 rw [Cel.v_cs]
 have h14 : (c.cs v)[14]? = some v := rfl
 have HS := hd hS
 clear hS
 go_enter Tryz.func152, Tryz.ntmps152
 go_wp2_with (at_builtin; refine xfb rfl (.const (.slice none 0 0)) (.tmp 4) 41 rfl 3 i0 _ 1 8 Tryz.underlying41 hi hz0 hz1 hz2 rfl (by decide) rfl v xs.length (xar xs) rfl (HS.out.up up0) (xcg xs) (by unfold maxLen; omega) om ?_)
 intro v' W ho hb
 have z2 : w.heap.size + 2 <= W.heap.size := by have := hb.size; simp at this; omega
 have D : Below w.heap.size w W := by
  refine Below.trans ?_ (hb.mono o3)
  exact up0
 have r1 : Rw W w.heap.size 77 (c.cs v) := Rw.up ((Rw.new w _ _ rfl).alloc _) hb o3
 have r2 : Rw W (w.heap.size + 1) 77 (xc6.cs (.slice none 0 0)) := (Rw.new _ 77 _ (by simp)).up hb o3
 have k1 := r1.cell h14
 have k2 := r1.fr 14
 have hv := xab ho
 obtain ⟨ao, cap, rfl⟩ := xaq ho
 have R1 := hd (r1.set 14 (.slice ao xs.length cap))
 have R2 := hd (r2.set_other (a := ⟨w.heap.size, 14, none⟩) (.slice ao xs.length cap) (by simp))
 have DD := hd (D.setCell (p := ⟨w.heap.size, 14, none⟩) (Nat.le_refl _) (.slice ao xs.length cap))
 have HO := hd (xa2 (a := ⟨w.heap.size, 14, none⟩) ho (.slice ao xs.length cap) (fun e => by have := hv _ e; simp at this; omega))
 clear r1 r2 D hb ho HS h14
 go_wp2_with (first | (refine wpList_load_row rfl 77 (.tmp 1) rfl w.heap.size rfl 77 (c.cs (.slice ao xs.length cap)) (0, 0) _ R1.out Tryz.underlying77 rfl xac ?_) | (refine wpList_store_row rfl 77 (.tmp 2) (.tmp 7) rfl (w.heap.size + 1) (c.cs (.slice ao xs.length cap)) rfl rfl 77 _ R2.out xac rfl (c.cs_one _ rfl) ?_))
 refine bodyPost_ret (results_cell_row Tryz.results152 _ _ (w.heap.size + 1) 77 (c.cs (.slice ao xs.length cap)) (0, 0) _ rfl (R2.out.row _) Tryz.underlying77 rfl xac) rfl ⟨_, rfl, ?_, xaa DD.out om _⟩
 exact xau (xan HO.out _ (fun e => by have := hv _ e; omega)) om
theorem xha (c : Cel) (xs : List Int) (hx : xs.length <= 1000) (v : Value) (w : World) (hS : Sl w 1 v xs.length (xar xs)) :
  Calls Tryz.prog 161 #[c.v v] w fun e w' => ∃ v', e = .returned (c.v v') /\ w'.ownsRow w.heap.size 3 1 v' xs.length (xar xs) /\ Below w.heap.size w w' := by
 obtain ⟨i0, hi, hz0, hz1, hz2⟩ := xaj xiw
 rw [Cel.v_cs]
 have h14 : (c.cs v)[14]? = some v := rfl
 have HS := hd hS
 clear hS
 go_enter Tryz.func161, Tryz.ntmps161
 go_wp2_with (at_builtin; refine xiy rfl (.tmp 3) (.tmp 5) 41 rfl (w.heap.size + 2) 3 i0 _ 1 8 Tryz.underlying41 hi hz0 hz1 hz2 rfl (by decide) (w.heap.size + 2) rfl (Rw.new _ 3 _ (by simp)) (Nat.le_refl _) v xs.length (xar xs) rfl (HS.out.up up0) (xcg xs) (by unfold maxLen; omega) om ?_)
 intro v' W ho hb _
 have z2 : w.heap.size + 2 <= W.heap.size := by have := hb.size; simp at this; omega
 have D : Below w.heap.size w W := by
  refine Below.trans ?_ (hb.mono o3)
  exact up0
 have r1 : Rw W w.heap.size 77 (c.cs v) := Rw.up (((Rw.new w _ _ rfl).alloc _).alloc _) hb o3
 have r2 : Rw W (w.heap.size + 1) 77 (xc6.cs (.slice none 0 0)) := Rw.up ((Rw.new _ 77 _ (by simp)).alloc _) hb o3
 have k1 := r1.cell h14
 have k2 := r1.fr 14
 have hv := xab ho
 obtain ⟨ao, cap, rfl⟩ := xaq ho
 have R1 := hd (r1.set 14 (.slice ao xs.length cap))
 have R2 := hd (r2.set_other (a := ⟨w.heap.size, 14, none⟩) (.slice ao xs.length cap) (by simp))
 have DD := hd (D.setCell (p := ⟨w.heap.size, 14, none⟩) (Nat.le_refl _) (.slice ao xs.length cap))
 have HO := hd (xa2 (a := ⟨w.heap.size, 14, none⟩) ho (.slice ao xs.length cap) (fun e => by have := hv _ e; simp at this; omega))
 clear r1 r2 D hb ho HS h14
 go_wp2_with (first | (refine wpList_load_row rfl 77 (.tmp 1) rfl w.heap.size rfl 77 (c.cs (.slice ao xs.length cap)) (0, 0) _ R1.out Tryz.underlying77 rfl xac ?_) | (refine wpList_store_row rfl 77 (.tmp 2) (.tmp 8) rfl (w.heap.size + 1) (c.cs (.slice ao xs.length cap)) rfl rfl 77 _ R2.out xac rfl (c.cs_one _ rfl) ?_))
 refine bodyPost_ret (results_cell_row Tryz.results161 _ _ (w.heap.size + 1) 77 (c.cs (.slice ao xs.length cap)) (0, 0) _ rfl (R2.out.row _) Tryz.underlying77 rfl xac) rfl ⟨_, rfl, ?_, xaa DD.out om _⟩
 exact xau (xan HO.out _ (fun e => by have := hv _ e; omega)) om
structure CelD where
 c : Cel
 out : List Int
structure WldD where
 tick : Int
 cells : List CelD
 lines : List (List Int)
def xml (p : Cel × Value) : List Value := (p.1.cs p.2).toList
theorem xfl (p : Cel × Value) : (xml p).length = 16 := rfl
def CellsR (w : World) (v : Value) (ds : List CelD) : Prop :=
 ∃ ps : List (Cel × Value), ps.length = ds.length /\ Sl w 16 v ds.length (xbe xml ps) /\ ∀ k (hk : k < ds.length) (hk' : k < ps.length), ps[k].1 = ds[k].c /\ Sl w 1 ps[k].2 ds[k].out.length (xar ds[k].out)
theorem CellsR.up {v : Value} {ds : List CelD} (h : CellsR w v ds) (hb : Below w.heap.size w w') : CellsR w' v ds := by
 obtain ⟨ps, h1, h2, h3⟩ := h
 exact ⟨ps, h1, h2.up hb, fun k hk hk' => ⟨(h3 k hk hk').1, (h3 k hk hk').2.up hb⟩⟩
theorem CellsR.form {v : Value} {ds : List CelD} (h : CellsR w v ds) : ∃ ao cap, v = .slice ao ds.length cap := by
 obtain ⟨ps, h1, h2, h3⟩ := h
 exact h2.form
theorem CellsR.open {v : Value} {ds : List CelD} (h : CellsR w v ds) (hn : 0 < ds.length) :
  ∃ b off cap, v = .slice (some ⟨b, off, none⟩) ds.length cap /\ ds.length <= cap /\ b < w.heap.size /\ ∀ k (hk : k < ds.length), ∃ ao oc, w.rangeAt b (off + k * 16) (ds[k].c.cs (.slice ao ds[k].out.length oc)).toList /\ Sl w 1 (.slice ao ds[k].out.length oc) ds[k].out.length (xar ds[k].out) := by
 obtain ⟨ps, h1, h2, h3⟩ := h
 obtain ⟨b, off, cap, e, hcap, hb, hc⟩ := h2.open hn
 refine ⟨b, off, cap, e, hcap, hb, fun k hk => ?_⟩
 have hk' : k < ps.length := by omega
 obtain ⟨e1, s1⟩ := h3 k hk hk'
 obtain ⟨ao, oc, e2⟩ := s1.form
 refine ⟨ao, oc, fun j u hj => ?_, e2 ▸ s1⟩
 have hj16 : j < 16 := by have := (List.getElem?_eq_some_iff.1 hj).1; simpa [Cel.cs] using this
 rw [Nat.add_assoc]
 refine hc (k * 16 + j) u ?_
 rw [xcn (s := 16) (f := xml) xfl ps k j hk' hj16, xml, e1, e2]
 exact hj
def LinesR (w : World) (v : Value) (ls : List (List Int)) : Prop :=
 ∃ vs : List Value, vs.length = ls.length /\ Sl w 1 v ls.length vs /\ ∀ k (hk : k < ls.length) (hk' : k < vs.length), Sl w 1 vs[k] ls[k].length (xar ls[k])
theorem LinesR.up {v : Value} (h : LinesR w v ls) (hb : Below w.heap.size w w') : LinesR w' v ls := by
 obtain ⟨vs, h1, h2, h3⟩ := h
 exact ⟨vs, h1, h2.up hb, fun k hk hk' => (h3 k hk hk').up hb⟩
theorem LinesR.form {v : Value} (h : LinesR w v ls) : ∃ ao cap, v = .slice ao ls.length cap := by
 obtain ⟨vs, h1, h2, h3⟩ := h
 exact h2.form
theorem LinesR.open {v : Value} (h : LinesR w v ls) (hn : 0 < ls.length) :
  ∃ b off cap, v = .slice (some ⟨b, off, none⟩) ls.length cap /\ ls.length <= cap /\ b < w.heap.size /\ ∀ k (hk : k < ls.length), ∃ ao oc, w.cell? ⟨b, off + k, none⟩ = some (.slice ao ls[k].length oc) /\ Sl w 1 (.slice ao ls[k].length oc) ls[k].length (xar ls[k]) := by
 obtain ⟨vs, h1, h2, h3⟩ := h
 obtain ⟨b, off, cap, e, hcap, hb, hc⟩ := h2.open hn
 refine ⟨b, off, cap, e, hcap, hb, fun k hk => ?_⟩
 have hk' : k < vs.length := by omega
 have s1 := h3 k hk hk'
 obtain ⟨ao, oc, e2⟩ := s1.form
 exact ⟨ao, oc, hc k _ (by rw [List.getElem?_eq_getElem hk', e2]), e2 ▸ s1⟩
structure Wld (w : World) (vc vl : Value) (D : WldD) : Prop where
 c : CellsR w vc D.cells
 l : LinesR w vl D.lines
theorem Wld.up {vc vl : Value} {D : WldD} (h : Wld w vc vl D) (hb : Below w.heap.size w w') : Wld w' vc vl D := ⟨h.c.up hb, h.l.up hb⟩
def xqg (p : Prt) (d : CelD) : Bool := d.c.fine d.out.length && decide (d.c.read <= p.inn.length)
def xep : List Prt -> List CelD -> Bool
 | [], [] => true
 | p :: ps, d :: ds => xqg p d && xep ps ds
 | _, _ => false
theorem xdi : ∀ {ps : List Prt} {ds : List CelD}, xep ps ds = true -> ds.length = ps.length
 | [], [], _ => rfl
 | p :: ps, d :: ds, h => by simp [xep] at h; simp [xdi h.2]
 | [], _ :: _, h => by simp [xep] at h
 | _ :: _, [], h => by simp [xep] at h
theorem xi9 : ∀ {ps : List Prt} {ds : List CelD}, ds.length = ps.length -> (∀ k (h : k < ps.length) (h' : k < ds.length), xqg ps[k] ds[k] = true) -> xep ps ds = true
 | [], [], _, _ => rfl
 | p :: ps, d :: ds, h, ha => by
  rw [xep, show xqg p d = true from ha 0 (by simp) (by simp), xi9 (by simpa using h) (fun k h1 h2 => ha (k + 1) (by simpa using h1) (by simpa using h2))]
  rfl
 | [], _ :: _, h, _ => by simp at h
 | _ :: _, [], h, _ => by simp at h
theorem xef : ∀ {ps : List Prt} {ds : List CelD}, xep ps ds = true -> ∀ k (h : k < ps.length) (h' : k < ds.length), xqg ps[k] ds[k] = true
 | p :: ps, d :: ds, h, 0, _, _ => by simp [xep] at h; exact h.1
 | p :: ps, d :: ds, h, k + 1, h1, h2 => by simp [xep] at h; exact xef h.2 k (by simpa using h1) (by simpa using h2)
def xeh : List Chn -> List (List Int) -> Bool
 | [], [] => true
 | c :: cs, l :: ls => decide (xh2 c.kd l.length = 0) && xeh cs ls
 | _, _ => false
theorem xe0 : ∀ {cs : List Chn} {ls : List (List Int)}, xeh cs ls = true -> ls.length = cs.length
 | [], [], _ => rfl
 | p :: ps, d :: ds, h => by simp [xeh] at h; simp [xe0 h.2]
 | [], _ :: _, h => by simp [xeh] at h
 | _ :: _, [], h => by simp [xeh] at h
theorem xi5 : ∀ {cs : List Chn} {ls : List (List Int)}, ls.length = cs.length -> (∀ k (h : k < cs.length) (h' : k < ls.length), xh2 cs[k].kd ls[k].length = 0) -> xeh cs ls = true
 | [], [], _, _ => rfl
 | p :: ps, d :: ds, h, ha => by
  rw [xeh, show xh2 p.kd d.length = 0 from ha 0 (by simp) (by simp), xi5 (by simpa using h) (fun k h1 h2 => ha (k + 1) (by simpa using h1) (by simpa using h2))]
  rfl
 | [], _ :: _, h, _ => by simp at h
 | _ :: _, [], h, _ => by simp at h
theorem xgb : ∀ {cs : List Chn} {ls : List (List Int)}, xeh cs ls = true -> ∀ k (h : k < cs.length) (h' : k < ls.length), xh2 cs[k].kd ls[k].length = 0
 | p :: ps, d :: ds, h, 0, _, _ => by simp [xeh] at h; exact h.1
 | p :: ps, d :: ds, h, k + 1, h1, h2 => by simp [xeh] at h; exact xgb h.2 k (by simpa using h1) (by simpa using h2)
theorem xda {B : Nat} {b o : Nat} {cs : List Value} (h : w.rangeAt b o cs) (hb : Below B w w') (hlt : b < B) : w'.rangeAt b o cs := fun j v hj => bcl hb hlt (h j v hj)
theorem xdz {P : Program} {ops : Array Oper} {rest : List Oper} {op : Oper} {a : Act} {Q : Exit -> Act -> World -> Prop} (hgd : op.guard = none) (ty : TypeId) (x : Operand) (ho : op.op = .load ty x)
  (b o : Nat) (hx : a.eval x = .pointer (some ⟨b, o, none⟩)) (cs : Array Value) (d : TypeDesc) (hc : w.rangeAt b o cs.toList)
  (hu : P.underlying ty = some d) (hd : d.isRow = true) (hi : (P.info? ty).map (·.size) = some cs.size)
  (h : wpList P ops Q rest (a.put op.dst (.agg cs)) w) : wpList P ops Q (op :: rest) a w :=
 wpList_load_mid hgd ty x ho b o hx cs.toList d hc hu hd (by simpa using hi) (by simpa using h)
theorem xyq (n : Int) (w : World) : Calls Tryz.prog 51 #[.int .i64 n] w fun e w' => e = .returned (.bool (xaf n 0 300)) /\ w' = w := by
 by_cases h : 0 <= n
 all_goals
  go_enter Tryz.func51, Tryz.ntmps51
  go_wp2
  go_ret
  exact ⟨xaw (by simp [xaf]; try omega), rfl⟩
def xc7 (d : CelD) : List UInt8 := xib (xgj d.c.en) d.out
def xdx (sound : Bool) (leak : List Int) : List UInt8 := if sound then xib [115, 111, 117, 110, 100] [] else xib [108, 101, 97, 107] leak
def xeu (sound : Bool) (leak : List Int) (cs : List CelD) : List UInt8 := xdx sound leak ++ cs.flatMap xc7
theorem xoi {s : List UInt8} {ns : List Int} (h : ∀ n ∈ ns, xb6 n) : (xib s ns).length <= s.length + 22 * ns.length + 1 := by
 have := xgw ns h
 simp [xib] at this ⊢
 omega
structure TellOK (leak : List Int) (cs : List CelD) : Prop where
 ll : leak.length <= 16
 l64 : ∀ n ∈ leak, xb6 n
 cl : cs.length <= 4
 ol : ∀ d ∈ cs, d.out.length <= 16
 o64 : ∀ d ∈ cs, ∀ n ∈ d.out, xb6 n
theorem xii {d : CelD} (h : d.out.length <= 16) (h' : ∀ n ∈ d.out, xb6 n) : (xc7 d).length <= 400 := by
 have := xoi (s := xgj d.c.en) h'
 have := xf0 d.c.en
 unfold xc7
 omega
theorem xh6 {sound : Bool} {leak : List Int} (h : leak.length <= 16) (h' : ∀ n ∈ leak, xb6 n) : (xdx sound leak).length <= 400 := by
 unfold xdx
 cases sound
 .have := xoi (s := [108, 101, 97, 107]) h'
  simp at this ⊢
  omega
 .show (xib [115, 111, 117, 110, 100] []).length <= 400
  decide
theorem xs8 (sound : Bool) (leak : List Int) : xdx sound leak ≠ [] := by
 unfold xdx xib
 cases sound <;> simp
theorem xqp (sound : Bool) (leak : List Int) (cs : List CelD) (tk : Int) (vL uc ul : Value) (w : World) (he : Env w) (hT : TellOK leak cs) (hL : Sl w 1 vL leak.length (xar leak)) (hC : CellsR w uc cs) :
  Calls Tryz.prog 18 #[.bool sound, vL, .agg #[.int .i64 tk, uc, ul]] w fun e w' => e = .returned (.string ⟨(xeu sound leak cs).toArray⟩) /\ Below w.heap.size w w' := by
 obtain ⟨la, lc, rfl⟩ := hL.form
 obtain ⟨ca, cc, rfl⟩ := hC.form
 have HT := Lib.hid hT
 have hcl := hT.cl
 obtain ⟨X, HX⟩ : ∃ X, Hid (w.alloc (.cells #[.int .i64 tk, .slice ca cs.length cc, ul] 61) = X) := ⟨_, Lib.hid rfl⟩
 obtain ⟨g, HG⟩ : ∃ g, Hid (w.heap.size + 1 = g) := ⟨_, Lib.hid rfl⟩
 have HXs : Hid (g = X.heap.size) := Lib.hid (by rw [<- HX.out, <- HG.out]; simp)
 have bX : Below w.heap.size w X := by rw [<- HX.out]; exact (Below.refl _ _).alloc (Nat.le_refl _) _
 have RX : Hid (Rw X w.heap.size 61 #[.int .i64 tk, .slice ca cs.length cc, ul]) := Lib.hid (by rw [<- HX.out]; exact Rw.new w 61 _ rfl)
 have HEX := Lib.hid (he.up bX)
 have HL := Lib.hid (hL.up bX)
 have HC := Lib.hid (hC.up bX)
 have BX := Lib.hid bX
 have P0 : Hid (Dap g g [] (X.alloc (.cells #[.pointer none, .slice none 0 0] 116))) := Lib.hid ⟨by rw [HXs.out]; exact Lib.fresh_isBuilder _ _ _, by rw [HXs.out]; simp⟩
 have B0 : Hid (Below g X (X.alloc (.cells #[.pointer none, .slice none 0 0] 116))) := Lib.hid ((Below.refl _ _).alloc (by rw [HXs.out]; exact Nat.le_refl _) _)
 have hb0 : g < (X.alloc (.cells #[.pointer none, .slice none 0 0] 116)).heap.size := by rw [HXs.out]; simp
 clear he hT hL hC bX
 go_enter Tryz.func18, Tryz.ntmps18
 cases sound
 .go_wp2_with fail
  rw [HX.out, HG.out]
  refine (xif g g [] [108, 101, 97, 107] leak _ X _ HEX.out HXs.out B0.out HL.out P0.out (by decide) (by decide) (by have := HT.out.ll; omega) HT.out.l64 hb0).mono ?_
  rintro e w1 ⟨rfl, p1, b1⟩
  have P1 : Hid (Dap g g (xdx false leak) w1) := Lib.hid p1
  have W1 := Lib.hid (B0.out.trans b1.b)
  have hz1 : g < w1.heap.size := Nat.lt_of_lt_of_le hb0 b1.size
  clear p1 b1 P0 B0 hb0
  have k1 : w1.cell? ⟨w.heap.size, 1, none⟩ = some (.slice ca cs.length cc) := bcl (by rw [<- HXs.out]; exact W1.out) RX.out.lt (RX.out.cell (j := 1) (v := .slice ca cs.length cc) rfl)
  go_wp2
  go_loopw [17] (fun i wr => ∃ k : Nat, i = .int .i64 k /\ k <= cs.length /\ Hid (Dap g g (xdx false leak ++ (cs.take k).flatMap xc7) wr) /\ Hid (Below g X wr) /\ g < wr.heap.size) (fun i _ => cs.length - (intOf i).toNat)
  case atStart => exact ⟨0, rfl, Nat.zero_le _, by rw [List.take_zero, List.flatMap_nil, List.append_nil]; exact P1, W1, hz1⟩
  case round =>
   obtain ⟨k, rfl, hk, HP, WD, hgz⟩ := hrel
   clear k1 P1 W1 hz1
   by_cases hlt : k < cs.length
   .have hli : (k : Int) < cs.length := by omega
    obtain ⟨b, off, cap, e1, hcap, hbw, hc⟩ := HC.out.open om
    cases e1
    obtain ⟨ao, oc, hra, hso⟩ := hc k hlt
    have hWX : Below X.heap.size X wr := by rw [<- HXs.out]; exact WD.out
    have RA := Lib.hid (xda hra hWX hbw)
    have HO16 := Lib.hid (HT.out.ol cs[k] (List.getElem_mem hlt))
    have HO64 := Lib.hid (HT.out.o64 cs[k] (List.getElem_mem hlt))
    have HSO := Lib.hid hso
    have HTK := Lib.hid (xbo xc7 cs k hlt)
    have hfl : ((cs.take k).flatMap xc7).length <= 400 * (cs.take k).length := xb0 (fun x hx => xii (HT.out.ol x (xcw hx)) (HT.out.o64 x (xcw hx)))
    have HFL : Hid ((xdx false leak ++ (cs.take k).flatMap xc7).length <= 4000) := Lib.hid (by have := xh6 (sound := false) HT.out.ll HT.out.l64; rw [List.length_take] at hfl; rw [List.length_append]; omega)
    obtain ⟨y, HY⟩ : ∃ y, Hid (xdx false leak ++ (cs.take k).flatMap xc7 = y) := ⟨_, Lib.hid rfl⟩
    rw [HY.out] at HP HFL
    generalize hd : cs[k] = d at RA HSO HTK HO16 HO64
    obtain ⟨c, out⟩ := d
    simp only at RA HSO HO16 HO64
    clear hra hso hc hd hfl hWX
    go_wp2_with (first | (refine xdz rfl 77 (.tmp 19) rfl b (off + k * 16) rfl (c.cs (.slice ao out.length oc)) _ RA.out Tryz.underlying77 rfl xac ?_) | (refine xae rfl 77 (.tmp 9) (.tmp 20) rfl wr.heap.size (c.cs (.slice ao out.length oc)) rfl rfl 77 (xc6.cs (.slice none 0 0)) rn0 xac rfl (Cel.cs_one _ _ rfl) ?_))
    intro W HW
    have RW : Hid (Rw W wr.heap.size 77 (c.cs (.slice ao out.length oc))) := by
     show Rw _ _ _ _
     rw [HW.out]
     exact Rw.row (cs := xc6.cs (.slice none 0 0)) rn0 _
    have b0 : Below wr.heap.size wr W := by
     rw [HW.out]
     exact xaa ((Below.refl _ _).alloc (Nat.le_refl _) _) (Nat.le_refl _) _
    have HPW := Lib.hid (HP.out.up b0)
    have WDW := Lib.hid (WD.out.trans (b0.mono om))
    have hgW : g < W.heap.size := Nat.lt_of_lt_of_le hgz b0.size
    have q14 := RW.out.cell (j := 14) (v := .slice ao out.length oc) rfl
    have q15 := RW.out.cell (j := 15) (v := .int .i64 c.en) rfl
    clear HW RA b0 HP WD hgz
    go_wp2
    go_region_with (first
     | (go_at_call 54; refine (xo8 c.en _).mono ?_; rintro e w3 ⟨rfl, rfl⟩)
     | (go_at_call 53; refine (xif g g y (xgj c.en) out _ X _ HEX.out HXs.out (WDW.out.trans (by exact Below.drew (Below.refl _ _))) HSO.out (HPW.out.up (Below.drew (Below.refl _ _))) (by have := HFL.out; omega) (by have := xf0 c.en; omega) (by have := HO16.out; omega) HO64.out hgW).mono ?_; rintro e w4 ⟨rfl, p4, b4⟩; have P4 := Lib.hid p4; have B4 := Lib.hid ((WDW.out.trans (Below.drew (Below.refl _ _))).trans b4.b); have hg4 : g < w4.heap.size := Nat.lt_of_lt_of_le hgW b4.size; clear b4 p4))
    all_goals
     go_wp2
     go_roundw
     case rel => exact ⟨k + 1, by go_num, by omega, by rw [HTK.out, <- List.append_assoc, HY.out]; exact P4, B4, hg4⟩
     case measure => simp [intOf]; omega
   .obtain rfl : k = cs.length := by omega
    have hli : ¬ ((cs.length : Int) < cs.length) := by omega
    have P2 : Dap g g (xdx false leak ++ (cs.take cs.length).flatMap xc7) wr := HP.out
    rw [List.take_length] at P2
    have HP2 := Lib.hid P2
    have HNE : Hid (xdx false leak ++ cs.flatMap xc7 ≠ []) := Lib.hid (by have := xs8 false leak; simp [this])
    have HBW := Lib.hid (BX.out.trans (WD.out.mono (by have := HG.out; omega)))
    clear P2 HP
    go_wp2_with fail
    refine (xfj _ g g _ _ HP2.out.1 HNE.out).mono ?_
    rintro e w5 ⟨rfl, b5⟩
    go_wp2
    go_ret
    exact ⟨rfl, HBW.out.trans (b5.mono (by have := HG.out; omega))⟩
 .go_wp2_with fail
  rw [HX.out, HG.out]
  refine (xif g g [] [115, 111, 117, 110, 100] [] _ X _ HEX.out HXs.out B0.out ⟨rfl, none, 0, rfl, Nat.le_refl _, fun h => absurd h (by decide)⟩ P0.out (by decide) (by decide) (by decide) (fun n hn => nomatch hn) hb0).mono ?_
  rintro e w1 ⟨rfl, p1, b1⟩
  have P1 : Hid (Dap g g (xdx true leak) w1) := Lib.hid p1
  have W1 := Lib.hid (B0.out.trans b1.b)
  have hz1 : g < w1.heap.size := Nat.lt_of_lt_of_le hb0 b1.size
  clear p1 b1 P0 B0 hb0
  have k1 : w1.cell? ⟨w.heap.size, 1, none⟩ = some (.slice ca cs.length cc) := bcl (by rw [<- HXs.out]; exact W1.out) RX.out.lt (RX.out.cell (j := 1) (v := .slice ca cs.length cc) rfl)
  go_wp2
  go_loopw [17] (fun i wr => ∃ k : Nat, i = .int .i64 k /\ k <= cs.length /\ Hid (Dap g g (xdx true leak ++ (cs.take k).flatMap xc7) wr) /\ Hid (Below g X wr) /\ g < wr.heap.size) (fun i _ => cs.length - (intOf i).toNat)
  case atStart => exact ⟨0, rfl, Nat.zero_le _, by rw [List.take_zero, List.flatMap_nil, List.append_nil]; exact P1, W1, hz1⟩
  case round =>
   obtain ⟨k, rfl, hk, HP, WD, hgz⟩ := hrel
   clear k1 P1 W1 hz1
   by_cases hlt : k < cs.length
   .have hli : (k : Int) < cs.length := by omega
    obtain ⟨b, off, cap, e1, hcap, hbw, hc⟩ := HC.out.open om
    cases e1
    obtain ⟨ao, oc, hra, hso⟩ := hc k hlt
    have hWX : Below X.heap.size X wr := by rw [<- HXs.out]; exact WD.out
    have RA := Lib.hid (xda hra hWX hbw)
    have HO16 := Lib.hid (HT.out.ol cs[k] (List.getElem_mem hlt))
    have HO64 := Lib.hid (HT.out.o64 cs[k] (List.getElem_mem hlt))
    have HSO := Lib.hid hso
    have HTK := Lib.hid (xbo xc7 cs k hlt)
    have hfl : ((cs.take k).flatMap xc7).length <= 400 * (cs.take k).length := xb0 (fun x hx => xii (HT.out.ol x (xcw hx)) (HT.out.o64 x (xcw hx)))
    have HFL : Hid ((xdx true leak ++ (cs.take k).flatMap xc7).length <= 4000) := Lib.hid (by have := xh6 (sound := true) HT.out.ll HT.out.l64; rw [List.length_take] at hfl; rw [List.length_append]; omega)
    obtain ⟨y, HY⟩ : ∃ y, Hid (xdx true leak ++ (cs.take k).flatMap xc7 = y) := ⟨_, Lib.hid rfl⟩
    rw [HY.out] at HP HFL
    generalize hd : cs[k] = d at RA HSO HTK HO16 HO64
    obtain ⟨c, out⟩ := d
    simp only at RA HSO HO16 HO64
    clear hra hso hc hd hfl hWX
    go_wp2_with (first | (refine xdz rfl 77 (.tmp 19) rfl b (off + k * 16) rfl (c.cs (.slice ao out.length oc)) _ RA.out Tryz.underlying77 rfl xac ?_) | (refine xae rfl 77 (.tmp 9) (.tmp 20) rfl wr.heap.size (c.cs (.slice ao out.length oc)) rfl rfl 77 (xc6.cs (.slice none 0 0)) rn0 xac rfl (Cel.cs_one _ _ rfl) ?_))
    intro W HW
    have RW : Hid (Rw W wr.heap.size 77 (c.cs (.slice ao out.length oc))) := by
     show Rw _ _ _ _
     rw [HW.out]
     exact Rw.row (cs := xc6.cs (.slice none 0 0)) rn0 _
    have b0 : Below wr.heap.size wr W := by
     rw [HW.out]
     exact xaa ((Below.refl _ _).alloc (Nat.le_refl _) _) (Nat.le_refl _) _
    have HPW := Lib.hid (HP.out.up b0)
    have WDW := Lib.hid (WD.out.trans (b0.mono om))
    have hgW : g < W.heap.size := Nat.lt_of_lt_of_le hgz b0.size
    have q14 := RW.out.cell (j := 14) (v := .slice ao out.length oc) rfl
    have q15 := RW.out.cell (j := 15) (v := .int .i64 c.en) rfl
    clear HW RA b0 HP WD hgz
    go_wp2
    go_region_with (first
     | (go_at_call 54; refine (xo8 c.en _).mono ?_; rintro e w3 ⟨rfl, rfl⟩)
     | (go_at_call 53; refine (xif g g y (xgj c.en) out _ X _ HEX.out HXs.out (WDW.out.trans (by exact Below.drew (Below.refl _ _))) HSO.out (HPW.out.up (Below.drew (Below.refl _ _))) (by have := HFL.out; omega) (by have := xf0 c.en; omega) (by have := HO16.out; omega) HO64.out hgW).mono ?_; rintro e w4 ⟨rfl, p4, b4⟩; have P4 := Lib.hid p4; have B4 := Lib.hid ((WDW.out.trans (Below.drew (Below.refl _ _))).trans b4.b); have hg4 : g < w4.heap.size := Nat.lt_of_lt_of_le hgW b4.size; clear b4 p4))
    all_goals
     go_wp2
     go_roundw
     case rel => exact ⟨k + 1, by go_num, by omega, by rw [HTK.out, <- List.append_assoc, HY.out]; exact P4, B4, hg4⟩
     case measure => simp [intOf]; omega
   .obtain rfl : k = cs.length := by omega
    have hli : ¬ ((cs.length : Int) < cs.length) := by omega
    have P2 : Dap g g (xdx true leak ++ (cs.take cs.length).flatMap xc7) wr := HP.out
    rw [List.take_length] at P2
    have HP2 := Lib.hid P2
    have HNE : Hid (xdx true leak ++ cs.flatMap xc7 ≠ []) := Lib.hid (by have := xs8 true leak; simp [this])
    have HBW := Lib.hid (BX.out.trans (WD.out.mono (by have := HG.out; omega)))
    clear P2 HP
    go_wp2_with fail
    refine (xfj _ g g _ _ HP2.out.1 HNE.out).mono ?_
    rintro e w5 ⟨rfl, b5⟩
    go_wp2
    go_ret
    exact ⟨rfl, HBW.out.trans (b5.mono (by have := HG.out; omega))⟩
end Go.Proofs.YtbkdoohhdkahiaaGreatDoor

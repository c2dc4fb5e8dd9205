/- The way forwards is the least walk. -/
import Derived.Test.YtbkdoohhdkahiaaGreatDoorJ8
import Derived.Test.YtbkdoohhdkahiaaGreatDoorJ6
import Derived.Test.YtbkdoohhdkahiaaGreatDoorJ0
import Derived.Deep.OwnRows
import Derived.Test.YtbkdoohhdkahiaaGreatDoorJ3
namespace Go.Proofs.YtbkdoohhdkahiaaGreatDoor
set_option linter.unusedSimpArgs false
set_option linter.unusedVariables false
set_option maxRecDepth 100000
set_option maxHeartbeats 8000000
open Go.RowKit Go.Sort Go.Shelf Go.Lib Go.Maps
variable {a b x : Int} {B c g k m n n0 size : Nat} {S : SysD} {zs : List Int} {w w' : World} {v vc vp vs : Value} {xs : List Value}
theorem xgf (S : SysD) : xpt (xcq S) S.parts.length := fun e he => by
 obtain ⟨a, b, ha, hb, rfl, _⟩ := xjq.1 (show e ∈ x1k S S.parts.length S.parts.length from he)
 simp
 omega
theorem xpm (S : SysD) (h7 : S.parts.length <= 7) (b : Int) : ∀ (n : Nat) (x : Int), 0 <= x /\ x < S.parts.length -> xaz S n x b = true -> (∀ m, m < n -> xaz S m x b = false) ->
  ∃ p, fwd S b n x = (b :: p).reverse /\ WalkR (xcq S) x (b :: p) /\ p.length = n /\ ∀ r, WalkR (xcq S) x (b :: r) -> r.length = n -> code (b :: p) <= code (b :: r)
 | 0, x, hx, hr, _ => by
  simp only [xaz, beq_iff_eq] at hr
  subst hr
  refine ⟨[], rfl, .one, rfl, fun r _ hl => ?_⟩
  have : r = [] := List.eq_nil_of_length_eq_zero hl
  subst this
  exact Int.le_refl _
 | n + 1, x, hx, hr, hmin => by
  have hne : x ≠ b := fun e => by
   have := hmin 0 om
   simp [xaz, e] at this
  obtain ⟨c, hc, hcl, hle, hrc, hleast⟩ := xls hx hr hne
  have hci : 0 <= (c : Int) /\ (c : Int) < S.parts.length := by omega
  have hup : ∀ m, xaz S m c b = true -> xaz S (m + 1) x b = true := fun m hm => by
   simp only [xaz, Bool.or_eq_true, List.any_eq_true, List.mem_range, Bool.and_eq_true]
   exact .inr ⟨c, hcl, hle, hm⟩
  obtain ⟨p, e1, e2, e3, e4⟩ := xpm S h7 b n c hci hrc (fun m hm => by
   cases h : xaz S m c b with
   | false => rfl
   | true =>
    have := hmin (m + 1) om
    rw [hup m h] at this
    cases this)
  have he : (⟨x, c⟩ : Edg) ∈ xcq S := xez.2 ⟨hx, hci, hle⟩
  refine ⟨p ++ [x], ?_, xm2 he e2, by simp [e3], fun r hr hl => ?_⟩
  .simp only [fwd, hc]
   rw [e1]
   simp
  .rcases xjz hr with e | ⟨d, r0, hd, e, hw⟩
   .cases e; exact absurd rfl hne
   .have : ∃ r1, r0 = b :: r1 := by
     cases hw with
     | one => simp at e; exact ⟨[], by rw [e.1]⟩
     | step _ _ => simp at e; exact ⟨_, by rw [e.1]⟩
    obtain ⟨r1, rfl⟩ := this
    simp at e
    subst e
    have hl1 : r1.length = n := by simpa using hl
    obtain ⟨_, hdi, hdl⟩ := xez.1 hd
    have hrd : xaz S n d b = true := (xdl S n d b hdi).2 ⟨r1, hw, by omega⟩
    have hcd : (c : Int) <= d := by
     by_cases h : (c : Int) <= d
     .exact h
     .have := hleast d.toNat om
      rw [Int.toNat_of_nonneg hdi.1] at this
      exact absurd ⟨hdl, hrd⟩ this
    have hcode : code (b :: p) <= code (b :: r1) := by
     by_cases e : (c : Int) = d
     .rw [<- e] at hw
      exact e4 r1 hw hl1
     .have := xx8 h7 (xgf S) hci hdi e2 hw (by simp [e3, hl1]) om
      omega
    have s1 : code (b :: (p ++ [x])) = code (b :: p) + (x + 1) * 8 ^ (b :: p).length := xe9 x (b :: p)
    have s2 : code (b :: (r1 ++ [x])) = code (b :: r1) + (x + 1) * 8 ^ (b :: r1).length := xe9 x (b :: r1)
    have hll : (b :: p).length = (b :: r1).length := by simp [e3, hl1]
    rw [s1, s2, hll]
    omega
theorem xk1 (S : SysD) : (xcq S).Pairwise ltE := xk3 S _ _
theorem x3y {E : List Edg} (hn : n <= 7) (hE : xpt E n) (ha : 0 <= a /\ a < n) {r : List Int} (h : WalkR E a r) : ∃ r0, r = r0 ++ [a] /\ 8 ^ r0.length <= code r := by
 have ir := xix hE ha h
 obtain ⟨r0, rfl⟩ := xko h
 refine ⟨r0, rfl, ?_⟩
 have b := (xhe (r := r0) (fun x hx => by have := ir x (by simp [hx]); omega)).1
 rw [xe9]
 have hpos : (0 : Int) < 8 ^ r0.length := Int.pow_pos (by decide)
 have : 1 * (8 : Int) ^ r0.length <= (a + 1) * 8 ^ r0.length := Int.mul_le_mul_of_nonneg_right om om
 omega
theorem xza (P : Nat -> Bool) : ∀ n, P n = true -> ∃ m, m <= n /\ P m = true /\ ∀ j, j < m -> P j = false := fun n => by
 induction n using Nat.strongRecOn with
 | _ n ih =>
  intro hn
  by_cases h : ∃ j, j < n /\ P j = true
  .obtain ⟨j, hj, hp⟩ := h
   obtain ⟨m, h1, h2, h3⟩ := ih j hj hp
   exact ⟨m, by omega, h2, h3⟩
  .exact ⟨n, Nat.le_refl _, hn, fun j hj => by
    cases hp : P j with
    | false => rfl
    | true => exact absurd ⟨j, hj, hp⟩ h⟩
theorem xw7 (h7 : S.parts.length <= 7) {a b : Int} (ha : 0 <= a /\ a < S.parts.length) {l : List Int} (h : xdj (xcq S) a b l true) :
  ∃ n, n < S.parts.length /\ xaz S n a b = true /\ (∀ m, m < n -> xaz S m a b = false) /\ l = fwd S b n a := by
 have hE := xgf S
 obtain ⟨p, rfl, hw, hlen, hmin⟩ := xqd (xk1 S) (fun e he => by have := hE e he; omega) ha.1 hE ha.2 h
 obtain ⟨n, hn, hr, hless⟩ := xza (fun n => xaz S n a b) p.length ((xdl S _ a b ha).2 ⟨p, hw, Nat.le_refl _⟩)
 obtain ⟨p', e1, e2, e3, e4⟩ := xpm S h7 b n a ha hr hless
 have hle := hmin p' e2
 have hpn : p.length = n := by
  by_cases hc : p.length = n
  .exact hc
  .obtain ⟨r0, er, hge⟩ := x3y h7 hE ha hw
   have hl0 : p.length = r0.length := by have := congrArg List.length er; simp at this; exact this
   have i2 := xix hE ha e2
   have hlt := (xhe (r := b :: p') (fun x hx => by have := i2 x hx; omega)).2
   have hpow : (8 : Int) ^ (b :: p').length <= 8 ^ r0.length := by
    have : (b :: p').length <= r0.length := by simp [e3]; omega
    exact_mod_cast Nat.pow_le_pow_right (by decide : 0 < 8) this
   omega
 have hge := e4 p hw hpn
 have i1 := xix hE ha hw
 have i2 := xix hE ha e2
 have heq : b :: p = b :: p' := xti (fun x hx => by have := i1 x hx; omega) (fun x hx => by have := i2 x hx; omega) om
 simp at hlen
 exact ⟨n, by omega, hr, hless, by rw [e1, heq]⟩
theorem xpr (h7 : S.parts.length <= 7) {a b : Int} (ha : 0 <= a /\ a < S.parts.length) {l : List Int} (h : xdj (xcq S) a b l false) : l = [] /\ ∀ n, xaz S n a b = false := by
 have hE := xgf S
 obtain ⟨h1, h2⟩ := xq8 (xk1 S) (fun e he => by have := hE e he; omega) ha.1 h
 refine ⟨h1, fun n => ?_⟩
 cases hr : xaz S n a b with
 | false => rfl
 | true =>
  obtain ⟨r, hw, _⟩ := (xdl S n a b ha).1 hr
  exact absurd hw (h2 r)
def xbf (S : SysD) (a b : Int) : Bool := xaz S S.parts.length a b
def xkh (S : SysD) (a b : Int) : Option Nat := (List.range S.parts.length).find? fun n => xaz S n a b
def xes (S : SysD) (a b : Int) : List Int := match xkh S a b with
 | some n => fwd S b n a
 | none => []
def xne (S : SysD) (a b : Int) : Bool := (xkh S a b).isSome
theorem xrw (ha : 0 <= a /\ a < S.parts.length) {m n : Nat} (hm : m <= n) (h : xaz S m a b = true) : xaz S n a b = true := by
 obtain ⟨r, hw, hl⟩ := (xdl S m a b ha).1 h
 exact (xdl S n a b ha).2 ⟨r, hw, by omega⟩
theorem xof (h7 : S.parts.length <= 7) {a b : Int} (ha : 0 <= a /\ a < S.parts.length) {l : List Int} {r : Bool} (h : xdj (xcq S) a b l r) : r = xbf S a b := by
 unfold xbf
 cases r with
 | true =>
  obtain ⟨n, hn, hr, _⟩ := xw7 h7 ha h
  exact (xrw ha om hr).symm
 | false => exact ((xpr h7 ha h).2 _).symm
theorem xqy (h7 : S.parts.length <= 7) {a b : Int} (ha : 0 <= a /\ a < S.parts.length) {l : List Int} {r : Bool} (h : xdj (xcq S) a b l r) : l = xes S a b /\ r = xne S a b := by
 unfold xes xne
 cases r with
 | true =>
  obtain ⟨n, hn, hr, hless, rfl⟩ := xw7 h7 ha h
  have : xkh S a b = some n := by
   unfold xkh
   rw [List.find?_range_eq_some]
   exact ⟨hr, List.mem_range.2 hn, fun j hj => by simp [hless j hj]⟩
  rw [this]
  exact ⟨rfl, rfl⟩
 | false =>
  obtain ⟨rfl, h0⟩ := xpr h7 ha h
  have : xkh S a b = none := by
   unfold xkh
   rw [List.find?_eq_none]
   intro n _
   simp [h0 n]
  rw [this]
  exact ⟨rfl, rfl⟩
theorem xgv (h : xb3 S = 0) : S.parts.length <= 4 /\ 1 <= S.parts.length /\ S.chans.length <= 6 /\ x2e S := by
 unfold xb3 at h
 split at h
 .omega
 .rename_i h1
  split at h
  .rename_i h2; exact absurd h h2
  .split at h
   .omega
   .split at h
    .omega
    .rename_i h4
     obtain ⟨hc, -⟩ := xe2 (S := S) (by simpa using h1)
     refine ⟨hc.2.1, hc.1, hc.2.2.1, fun c hcm => ?_⟩
     have h5 : xby S = true := by simpa using h4
     unfold xby at h5
     rw [Bool.and_eq_true, Bool.not_eq_true', Bool.not_eq_true', List.any_eq_false, List.any_eq_false] at h5
     have h6 := h5.1 c hcm
     unfold xb5 xaf at h6
     simp only [Bool.or_eq_true, Bool.not_eq_true', Bool.and_eq_false_iff, decide_eq_false_iff_not, beq_iff_eq, not_or] at h6
     omega
theorem xle (S : SysD) (a : Int) : ∀ m, xaz S m a a = true
 | 0 => by simp [xaz]
 | m + 1 => by simp [xaz]
theorem xm8 (hk : k < S.parts.length) (h1 : xbx S a k = true) (h2 : xaz S m k b = true) : xaz S (m + 1) a b = true := by
 simp only [xaz, Bool.or_eq_true, List.any_eq_true, List.mem_range, Bool.and_eq_true]
 exact .inr ⟨k, hk, h1, h2⟩
theorem xx6 (hne : a ≠ b) (h : ∀ k : Nat, k < S.parts.length -> (xbx S a k && xaz S m k b) = false) : xaz S (m + 1) a b = false := by
 simp only [xaz, Bool.or_eq_false_iff, List.any_eq_false, List.mem_range]
 exact ⟨by simpa using hne, fun k hk => by rw [h k hk]; decide⟩
theorem xfp (S : SysD) (hp : S.parts.length <= 4) (hl : S.chans.length <= 6) (b : Int) : ∀ (n : Nat), n <= 100 -> ∀ (a : Int) (vp vc vs : Value) (w : World), Sys w vp vc vs S ->
  Calls Tryz.prog 107 #[.agg #[vp, vc, vs], .int .i64 a, .int .i64 b, .int .i64 n] w fun e w' => e = .returned (.bool (xaz S n a b)) /\ Below w.heap.size w w' := by
 intro n
 induction n with
 | zero =>
  intro _ a vp vc vs w hS
  obtain ⟨pa, pc, rfl⟩ := hS.p.form
  obtain ⟨ca, cc, rfl⟩ := hS.c.form
  obtain ⟨sa, sc, rfl⟩ := hS.s.form
  by_cases hab : a = b
  .subst hab
   rw [xle]
   clear hS
   go_enter Tryz.func107, Tryz.ntmps107
   go_wp2
   go_ret
   exact ⟨rfl, up0⟩
  .have hab' : (a == b) = false := by simpa using hab
   have hr : xaz S 0 a b = false := by simpa [xaz] using hab
   rw [hr]
   clear hr
   have HS := hd hS
   clear hS
   go_enter Tryz.func107, Tryz.ntmps107
   go_wp2
   go_loopw [9] (fun i wr => i = .int .i64 0 /\ Hid (Box wr w.heap.size (.slice pa S.parts.length pc) (.slice ca S.chans.length cc) (.slice sa S.slots.length sc)) /\ Hid (Below w.heap.size w wr)) (fun _ _ => 0)
   case atStart => exact ⟨rfl, xci w _ _ _ _ _ rfl, up0⟩
   case round =>
    obtain ⟨rfl, HB, HT⟩ := hrel
    have k0 := HB.out.p
    by_cases h0 : (0 : Int) < S.parts.length
    .go_wp2
     go_ret
     exact ⟨rfl, HT.out⟩
    .go_wp2
     go_ret
     exact ⟨rfl, HT.out⟩
 | succ n ih =>
  intro hn a vp vc vs w hS
  obtain ⟨pa, pc, rfl⟩ := hS.p.form
  obtain ⟨ca, cc, rfl⟩ := hS.c.form
  obtain ⟨sa, sc, rfl⟩ := hS.s.form
  have HS := hd hS
  have IH := hd (ih om)
  clear hS ih
  by_cases hab : a = b
  .subst hab
   rw [xle]
   go_enter Tryz.func107, Tryz.ntmps107
   go_wp2
   go_ret
   exact ⟨rfl, up0⟩
  .have hab' : (a == b) = false := by simpa using hab
   generalize hr : xaz S (n + 1) a b = r
   have HR := hd hr
   clear hr
   generalize hN : ((n + 1 : Nat) : Int) = N
   have hN0 : 0 < N := by omega
   have hN1 : IntKind.i64.wrap (N - 1) = (n : Int) := by
    simp [IntKind.wrap, IntKind.bits, IntKind.signed]; omega
   go_enter Tryz.func107, Tryz.ntmps107
   go_wp2
   go_loopw [9] (fun i wr => ∃ k : Nat, i = .int .i64 k /\ k <= S.parts.length /\ Hid (∀ j : Nat, j < k -> (xbx S a j && xaz S n j b) = false) /\ Hid (Box wr w.heap.size (.slice pa S.parts.length pc) (.slice ca S.chans.length cc) (.slice sa S.slots.length sc)) /\ Hid (Below w.heap.size w wr)) (fun i _ => S.parts.length - (intOf i).toNat)
   case atStart => exact ⟨0, rfl, Nat.zero_le _, fun j h => by omega, xci w _ _ _ _ _ rfl, up0⟩
   case round =>
    obtain ⟨k, rfl, hk, HNO, HB, HT⟩ := hrel
    have k0 := HB.out.p
    have k1 := HB.out.c
    have k2 := HB.out.s
    by_cases hlt : k < S.parts.length
    .have hli : (k : Int) < S.parts.length := by omega
     go_wp2_with fail
     refine (xot S hl _ _ _ _ _ _ (HS.out.up HT.out)).mono ?_
     rintro e w2 ⟨rfl, hb2⟩
     have HB2 := hd (HB.out.up hb2)
     have HT2 := hd (HT.out.trans (hb2.mono HT.out.size))
     clear HB HT hb2 k0 k1 k2
     have k0 := HB2.out.p
     have k1 := HB2.out.c
     have k2 := HB2.out.s
     cases hle : xbx S a k with
     | true =>
      go_wp2_with fail
      refine (IH.out _ _ _ _ _ (HS.out.up HT2.out)).mono ?_
      rintro e w3 ⟨rfl, hb3⟩
      have HB3 := hd (HB2.out.up hb3)
      have HT3 := hd (HT2.out.trans (hb3.mono HT2.out.size))
      clear HB2 HT2 hb3 k0 k1 k2
      cases hre : xaz S n k b with
      | true =>
       have hyes := HR.out.symm.trans (xm8 hlt hle hre)
       subst hyes
       go_wp2
       go_ret
       exact ⟨rfl, HT3.out⟩
      | false =>
       have HN2 : Hid (∀ j : Nat, j < k + 1 -> (xbx S a j && xaz S n j b) = false) := hd (fun j hj => by
        by_cases e : j = k
        .subst e; rw [hre, Bool.and_false]
        .exact HNO.out j om)
       clear HNO
       go_wp2
       go_roundw
       case rel => exact ⟨k + 1, by go_num, by omega, HN2, HB3, HT3⟩
       case measure => simp [intOf]; omega
     | false =>
      have HN2 : Hid (∀ j : Nat, j < k + 1 -> (xbx S a j && xaz S n j b) = false) := hd (fun j hj => by
       by_cases e : j = k
       .subst e; rw [hle, Bool.false_and]
       .exact HNO.out j om)
      clear HNO
      go_wp2
      go_roundw
      case rel => exact ⟨k + 1, by go_num, by omega, HN2, HB2, HT2⟩
      case measure => simp [intOf]; omega
    .have hli : ¬ (k : Int) < S.parts.length := by omega
     have hno := HR.out.symm.trans (xx6 hab (fun j hj => HNO.out j om))
     subst hno
     go_wp2
     go_ret
     exact ⟨rfl, HT.out⟩
theorem xkk (S : SysD) (hp : S.parts.length <= 4) (hl : S.chans.length <= 6) (a b : Int) (vp vc vs : Value) (w : World) (hS : Sys w vp vc vs S) :
  Calls Tryz.prog 59 #[.agg #[vp, vc, vs], .int .i64 a, .int .i64 b] w fun e w' => e = .returned (.bool (xbf S a b)) /\ Below w.heap.size w w' := by
 obtain ⟨pa, pc, rfl⟩ := hS.p.form
 obtain ⟨ca, cc, rfl⟩ := hS.c.form
 obtain ⟨sa, sc, rfl⟩ := hS.s.form
 have HS := hd hS
 clear hS
 go_enter Tryz.func59, Tryz.ntmps59
 go_wp2_with fail
 refine (xfp S hp hl b S.parts.length om a _ _ _ _ (HS.out.up up0)).mono ?_
 rintro e w1 ⟨rfl, bb⟩
 have D := hd (Below.trans (show Below w.heap.size w _ from up0) (bb.mono (by simp)))
 clear bb
 go_wp2
 go_ret
 exact ⟨rfl, D.out⟩
structure OnWay (S : SysD) (a b : Int) (n0 m : Nat) (x : Int) (zs : List Int) : Prop where
 xin : 0 <= x /\ x < S.parts.length
 yes : xaz S m x b = true
 less : ∀ j, j < m -> xaz S j x b = false
 out : fwd S b n0 a = zs ++ fwd S b m x
theorem OnWay.none (h : OnWay S a b n0 m x zs) (e : x = b) : fwd S b n0 a = zs ++ [x] := by
 subst e
 have : m = 0 := by
  cases m with
  | zero => rfl
  | succ m => have := h.less 0 om; rw [xle] at this; cases this
 subst this
 exact h.out
theorem OnWay.pos (h : OnWay S a b n0 m x zs) (e : x ≠ b) : ∃ k, m = k + 1 := by
 cases m with
 | zero => have := h.yes; simp [xaz] at this; exact absurd this e
 | succ m => exact ⟨m, rfl⟩
theorem OnWay.next (h : OnWay S a b n0 (m + 1) x zs) (e : x ≠ b) {c : Nat} (hc : c < S.parts.length) (h1 : xbx S x c = true) (h2 : xaz S m c b = true) (h3 : ∀ d : Nat, d < c -> (xbx S x d && xaz S m d b) = false) : OnWay S a b n0 m c (zs ++ [x]) := by
 obtain ⟨c', e1, e2, e3, e4, e5⟩ := xls h.xin h.yes e
 have : c' = c := by
  rcases Nat.lt_trichotomy c' c with hlt | he | hlt
  .have := h3 c' hlt; rw [e3, e4] at this; cases this
  .exact he
  .exact absurd ⟨h1, h2⟩ (e5 c hlt)
 subst this
 refine ⟨by omega, h2, fun j hj => ?_, ?_⟩
 .cases hr : xaz S j c' b with
  | false => rfl
  | true =>
   have := h.less (j + 1) om
   rw [xm8 hc h1 hr] at this
   cases this
 .rw [h.out, fwd, e1]
  simp
theorem OnWay.some (h : OnWay S a b n0 (m + 1) x zs) (e : x ≠ b) (h3 : ∀ d : Nat, d < S.parts.length -> (xbx S x d && xaz S m d b) = false) : False := by
 obtain ⟨c', e1, e2, e3, e4, e5⟩ := xls h.xin h.yes e
 have := h3 c' e2
 rw [e3, e4] at this
 cases this
theorem xro (ha : 0 <= a /\ a < S.parts.length) (h : xaz S n a b = true) (hl : ∀ j, j < n -> xaz S j a b = false) : OnWay S a b n n a [] := ⟨ha, h, hl, rfl⟩
theorem x2r (hn : n < S.parts.length) (h : xaz S n a b = true) (hl : ∀ j, j < n -> xaz S j a b = false) : xes S a b = fwd S b n a /\ xne S a b = true := by
 have : xkh S a b = some n := by
  unfold xkh
  rw [List.find?_range_eq_some]
  exact ⟨h, List.mem_range.2 hn, fun j hj => by simp [hl j hj]⟩
 unfold xes xne
 rw [this]
 exact ⟨rfl, rfl⟩
theorem x4b (hl : ∀ j, j < S.parts.length -> xaz S j a b = false) : xes S a b = [] /\ xne S a b = false := by
 have : xkh S a b = none := by
  unfold xkh
  rw [List.find?_eq_none]
  intro n hn
  simp [hl n (List.mem_range.1 hn)]
 unfold xes xne
 rw [this]
 exact ⟨rfl, rfl⟩
theorem OnWay.len (h : OnWay S a b n0 m x zs) (hz : zs.length + m = n0) (hn : n0 <= 100) : (zs ++ [x]).length <= 101 := by simp; omega
def xek (S : SysD) (p : Int) : Int := if xb3 S = 0 then (if xaf p 0 ((S.parts.length : Int) - 1) then 0 else 5) else xb3 S
def xfn (S : SysD) (a b : Int) : Int := if xek S a = 0 then xek S b else xek S a
def xpk (S : SysD) (a b : Int) : List Int := if xfn S a b = 0 then xes S a b else []
def xvc (S : SysD) (a b : Int) : Bool := if xfn S a b = 0 then xne S a b else false
theorem xys (h : xb3 S ≠ 0) : xfn S a b = xb3 S := by
 have e : ∀ p, xek S p = xb3 S := fun p => by unfold xek; rw [if_neg h]
 unfold xfn
 rw [e, e, if_neg h]
theorem x3f (h : xb3 S = 0) (ha : xaf a 0 ((S.parts.length : Int) - 1) = false) : xfn S a b = 5 := by
 have e : xek S a = 5 := by unfold xek; rw [if_pos h, ha]; rfl
 unfold xfn
 rw [e]
 rfl
theorem x4c (h : xb3 S = 0) (ha : xaf a 0 ((S.parts.length : Int) - 1) = true) (hb : xaf b 0 ((S.parts.length : Int) - 1) = false) : xfn S a b = 5 := by
 have e : xek S a = 0 := by unfold xek; rw [if_pos h, ha]; rfl
 have e2 : xek S b = 5 := by unfold xek; rw [if_pos h, hb]; rfl
 unfold xfn
 rw [e, e2]
 rfl
theorem xsm (h : xb3 S = 0) (ha : xaf a 0 ((S.parts.length : Int) - 1) = true) (hb : xaf b 0 ((S.parts.length : Int) - 1) = true) : xfn S a b = 0 := by
 have e : xek S a = 0 := by unfold xek; rw [if_pos h, ha]; rfl
 have e2 : xek S b = 0 := by unfold xek; rw [if_pos h, hb]; rfl
 unfold xfn
 rw [e, e2]
 rfl
theorem xk2 (h : xfn S a b ≠ 0) : xpk S a b = [] /\ xvc S a b = false := by
 unfold xpk xvc
 rw [if_neg h, if_neg h]
 exact ⟨rfl, rfl⟩
theorem xt3 (h : xfn S a b = 0) : xpk S a b = xes S a b /\ xvc S a b = xne S a b := by
 unfold xpk xvc
 rw [if_pos h, if_pos h]
 exact ⟨rfl, rfl⟩
theorem xjc (S : SysD) (n : Int) (vp vc vs : Value) (w : World) (hp : ∃ pa pc, vp = .slice pa S.parts.length pc) :
  Calls Tryz.prog 72 #[.agg #[vp, vc, vs], .int .i64 n] w fun e w' => e = .returned (.bool (xaf n 0 ((S.parts.length : Int) - 1))) /\ Below w.heap.size w w' := by
 obtain ⟨pa, pc, rfl⟩ := hp
 by_cases h0 : 0 <= n
 .by_cases h1 : n < S.parts.length
  .have e : xaf n 0 ((S.parts.length : Int) - 1) = true := by unfold xaf; simp; omega
   rw [e]
   clear e
   go_enter Tryz.func72, Tryz.ntmps72
   go_wp2
   go_ret
   exact ⟨rfl, up0⟩
  .have e : xaf n 0 ((S.parts.length : Int) - 1) = false := by unfold xaf; simp; omega
   rw [e]
   clear e
   go_enter Tryz.func72, Tryz.ntmps72
   go_wp2
   go_ret
   exact ⟨rfl, up0⟩
 .have e : xaf n 0 ((S.parts.length : Int) - 1) = false := by unfold xaf; simp; omega
  rw [e]
  clear e
  go_enter Tryz.func72, Tryz.ntmps72
  go_wp2
  go_ret
  exact ⟨rfl, up0⟩
theorem xwk : xav 73 := xa8 Tryz.func73 kr kr
theorem xv7 : xav 71 := xa8 Tryz.func71 kr kr
theorem xws (x b : Int) (g : Nat) (w : World) (hg : w.cell? ⟨g, 0, none⟩ = some (.int .i64 b)) : Calls Tryz.prog 73 #[.int .i64 x, .pointer (some ⟨g, 0, none⟩)] w fun e w' => e = .returned (.bool (x == b)) /\ w' = w := by
 go_enter Tryz.func73, Tryz.ntmps73
 go_wp2
 go_ret
 exact ⟨rfl, rfl⟩
theorem xvp (x b : Int) (g : Nat) (w : World) (hg : w.cell? ⟨g, 0, none⟩ = some (.int .i64 b)) : Calls Tryz.prog 71 #[.int .i64 x, .pointer (some ⟨g, 0, none⟩)] w fun e w' => e = .returned (.bool (x == b)) /\ w' = w := by
 go_enter Tryz.func71, Tryz.ntmps71
 go_wp2
 go_ret
 exact ⟨rfl, rfl⟩
theorem xu5 (S : SysD) (a b : Int) (vp vc vs : Value) (w : World) (he : Env w) (hS : Sys w vp vc vs S) :
  Calls Tryz.prog 40 #[.agg #[vp, vc, vs], .int .i64 a, .int .i64 b] w fun e w' => ∃ v, e = .returned (.tuple #[v, .bool (xvc S a b), .int .i64 (xfn S a b)]) /\ Sl w' 1 v (xpk S a b).length (xar (xpk S a b)) /\ Below w.heap.size w w' /\ Hid (xfn S a b = 0 -> ∃ l, xdj (xcq S) a b l (xvc S a b) /\ l = xpk S a b) := by
 obtain ⟨pa, pc, rfl⟩ := hS.p.form
 obtain ⟨ca, cc, rfl⟩ := hS.c.form
 obtain ⟨sa, sc, rfl⟩ := hS.s.form
 generalize hr : xb3 S = r
 have HS := hd hS
 have HR := hd hr
 clear hS hr
 go_enter Tryz.func40, Tryz.ntmps40
 go_wp2_with fail
 refine (xcc S _ _ _ _ (he.up up0) (HS.out.up up0)).mono ?_
 rw [HR.out]
 rintro e w1 ⟨rfl, bb⟩
 have HB := hd (((xci w (.slice pa S.parts.length pc) (.slice ca S.chans.length cc) (.slice sa S.slots.length sc) 39 _ rfl).up ((Below.refl _ _).alloc (Nat.le_refl _) (.cells #[.int .i64 b] 3))).up bb)
 have hbb : w1.cell? ⟨w.heap.size + 1, 0, none⟩ = some (.int .i64 b) := bcl bb (by simp) (by simp)
 have D := hd (Below.trans (show Below w.heap.size w _ from up0) (bb.mono so))
 have hsz : w.heap.size + 2 <= w1.heap.size := by have := bb.size; simpa using this
 clear bb
 by_cases h0 : r = 0
 .subst h0
  obtain ⟨h4, _, hl, hE⟩ := xgv HR.out
  have k0 := HB.out.p
  have k1 := HB.out.c
  have k2 := HB.out.s
  go_wp2_with fail
  refine (xjc S a _ _ _ _ ⟨_, _, rfl⟩).mono ?_
  rintro e w2 ⟨rfl, b2⟩
  have HB2 := hd (HB.out.up b2)
  have hbb2 := bcl b2 om hbb
  have D2 := hd (D.out.trans (b2.mono D.out.size))
  have hsz2 : w.heap.size + 2 <= w2.heap.size := by have := b2.size; omega
  clear HB hbb D b2 hsz k0 k1 k2
  have k0 := HB2.out.p
  have k1 := HB2.out.c
  have k2 := HB2.out.s
  cases hwa : xaf a 0 ((S.parts.length : Int) - 1) with
  | false =>
   have HE := hd (x3f (a := a) (b := b) HR.out hwa)
   have HN : Hid (xfn S a b ≠ 0) := hd (by rw [HE.out]; decide)
   have HQ := hd (xk2 HN.out)
   go_wp2
   go_ret3
   exact ⟨.slice none 0 0, by rw [HE.out, HQ.out.2]; rfl, by rw [HQ.out.1]; exact Sl.nil _ _, D2.out, hd (fun h => absurd h HN.out)⟩
  | true =>
   have ha : 0 <= a /\ a < S.parts.length := by unfold xaf at hwa; simp at hwa; omega
   have HA := hd ha
   clear ha
   go_wp2_with fail
   refine (xjc S b _ _ _ _ ⟨_, _, rfl⟩).mono ?_
   rintro e w3 ⟨rfl, b3⟩
   have HB3 := hd (HB2.out.up b3)
   have hbb3 := bcl b3 om hbb2
   have D3 := hd (D2.out.trans (b3.mono D2.out.size))
   have hsz3 : w.heap.size + 2 <= w3.heap.size := by have := b3.size; omega
   clear HB2 hbb2 D2 b3 hsz2 k0 k1 k2
   have k1 := HB3.out.c
   cases hwb : xaf b 0 ((S.parts.length : Int) - 1) with
   | false =>
    have HE := hd (x4c (a := a) (b := b) HR.out hwa hwb)
    have HN : Hid (xfn S a b ≠ 0) := hd (by rw [HE.out]; decide)
    have HQ := hd (xk2 HN.out)
    go_wp2
    go_ret3
    exact ⟨.slice none 0 0, by rw [HE.out, HQ.out.2]; rfl, by rw [HQ.out.1]; exact Sl.nil _ _, D3.out, hd (fun h => absurd h HN.out)⟩
   | true =>
    have HE := hd (xsm (a := a) (b := b) HR.out hwa hwb)
    have HQ := hd (xt3 HE.out)
    go_wp2_with fail
    refine (xod S.chans _ hl _ (HS.out.c.up D3.out)).mono ?_
    rintro e w4 ⟨v, l, rfl, hi, hl12, hs, b4⟩
    have hel := xs7 hE hi
    subst hel
    have HSL := hd hs
    have D4 := hd (D3.out.trans (b4.mono D3.out.size))
    have hbb4 := bcl b4 om hbb3
    have hsz4 : w.heap.size + 2 <= w4.heap.size := by have := b4.size; omega
    clear HB3 hbb3 D3 b4 hsz3 k1 hi hs
    have HF : Hid (∀ x w', Below w4.heap.size w4 w' -> Calls Tryz.prog 73 (#[.int .i64 x] ++ #[.pointer (some ⟨w.heap.size + 1, 0, none⟩)]) w' fun e w'' => e = .returned (.bool (x == b)) /\ w'' = w') := hd (fun x w' hb => xws x b _ w' (bcl hb om hbb4))
    clear hbb4
    go_wp2_with fail
    refine (xmr (xcq S) S.parts.length om (xgf S) om a b HA.out 73 xwk #[.pointer (some ⟨w.heap.size + 1, 0, none⟩)] _ _ HSL.out HF.out).mono ?_
    rintro e w5 ⟨v5, l5, r5, rfl, hsr, hs5, b5⟩
    obtain ⟨e1, e2⟩ := xqy om HA.out hsr
    have HSR := hd hsr
    subst e1
    subst e2
    have HS5 := hd hs5
    have D5 := hd (D4.out.trans (b5.mono D4.out.size))
    clear HF HSL D4 b5 hs5 hsr
    go_wp2
    go_ret3
    exact ⟨v5, by rw [HE.out, HQ.out.2]; rfl, by rw [HQ.out.1]; exact HS5.out, D5.out, hd (fun _ => ⟨_, by rw [HQ.out.2]; exact HSR.out, HQ.out.1.symm⟩)⟩
 .have h0' : (r != 0) = true := by simpa using h0
  have HE : Hid (xfn S a b = r) := hd ((xys (by rw [HR.out]; exact h0)).trans HR.out)
  have HN : Hid (xfn S a b ≠ 0) := hd (by rw [HE.out]; exact h0)
  have HQ := hd (xk2 HN.out)
  clear h0
  go_wp2
  go_ret3
  exact ⟨.slice none 0 0, by rw [HE.out, HQ.out.2]; rfl, by rw [HQ.out.1]; exact Sl.nil _ _, D.out, hd (fun h => absurd h HN.out)⟩
open Go.RowKit Go.Sort
section
variable {P : Program} {ops : Array Oper} {Q : Exit -> Act -> World -> Prop} {md : Region.Mode} {S : World -> Prop}
theorem Still.oneG {z i : Nat} {o : Oper} {rs : List Nat} {done : Array Bool} {a : Act} (ho : ops[i]? = some o) (hw : Region.wanted o (yielded ops a.tmps) = true)
  (h : ∀ K : Act -> World -> Prop, (∀ a' w', (i ≠ z -> S w') -> ((i ≠ z -> S w') -> Still P md ops Q S z n (done.setIfInBounds i true) a' w') -> K a' w') -> Oper.wp P o a w K Q)
  (hs : ∀ j ∈ rs, wpOp P ops Q j (fun a' w' => (j ≠ z -> S w') /\ Still P md ops Q S z n (done.setIfInBounds j true) a' w') a w) :
  ∀ j ∈ i :: rs, wpOp P ops Q j (fun a' w' => (j ≠ z -> S w') /\ Still P md ops Q S z n (done.setIfInBounds j true) a' w') a w := by
 intro j hj
 rcases List.mem_cons.1 hj with rfl | hj
 .unfold wpOp
  simp only [ho, hw, if_true]
  exact .inl (h _ fun a' w' h1 h2 => ⟨h1, h2 h1⟩)
 .exact hs j hj
end
def xkp (f : Nat -> Bool) (n : Nat) : List Value := (List.range n).map fun j => .bool (f j)
def xsj (f : Nat -> Bool) (k n : Nat) : Array Value := ((List.range n).map fun j => Value.bool (if j < k then f j else false)).toArray
theorem xw4 (f : Nat -> Bool) (n : Nat) : madeCells #[.bool false] n = xsj f 0 n := by
 apply Array.ext'
 rw [toList_madeCells_one]
 apply List.ext_getElem
 .simp [xsj]
 .intro j h1 h2
  simp [xsj]
theorem xxk (f : Nat -> Bool) {k n : Nat} : (xsj f k n).setIfInBounds k (.bool (f k)) = xsj f (k + 1) n := by
 apply Array.ext'
 apply List.ext_getElem
 .simp [xsj]
 .intro j h1 h2
  simp only [xsj, List.setIfInBounds_toArray, List.getElem_set, List.getElem_map, List.getElem_range]
  by_cases e : k = j
  .subst e; simp
  .rw [if_neg e]
   have : (j < k + 1) ↔ (j < k) := by omega
   simp [this]
theorem xzi (f : Nat -> Bool) (n : Nat) : (xsj f n n).toList = xkp f n := by
 apply List.ext_getElem
 .simp [xsj, xkp]
 .intro j h1 h2
  simp [xsj, xkp] at h1 h2 ⊢
  intro h
  omega
theorem x2u (f : Nat -> Bool) {k n j : Nat} (hj : j < n) : (xsj f k n)[j]? = some (.bool (if j < k then f j else false)) := by
 simp [xsj, hj]
theorem x1m (f : Nat -> Bool) {n j : Nat} (hj : j < n) : (xkp f n)[j]? = some (.bool (f j)) := by
 simp [xkp, hj]
theorem x3o {t : TypeId} {f : Nat -> Bool} (h : Rw w g t (xsj f n n)) : Sl w 1 (.slice (some ⟨g, 0, none⟩) n n) n (xkp f n) := by
 refine ⟨by simp [xkp], _, _, rfl, Nat.le_refl _, fun _ => ⟨g, 0, rfl, h.lt, fun j u hj => ?_⟩⟩
 rw [Nat.zero_add]
 refine h.cell ?_
 rw [<- Array.getElem?_toList, xzi]
 exact hj
theorem xe7 {row : Option Nat} (h : Sl w size v n xs) (hg : w.grownBy w' row) (hne : ∀ k, v.ownBlock = some k -> row ≠ some k) : Sl w' size v n xs := by
 obtain ⟨h1, ao, cap, rfl, h3, h4⟩ := h
 refine ⟨h1, ao, cap, rfl, h3, fun hn => ?_⟩
 obtain ⟨b, off, rfl, hlt, hc⟩ := h4 hn
 exact ⟨b, off, rfl, Nat.lt_of_lt_of_le hlt hg.size, fun j u hj => (hg.cell_far ⟨b, off + j, none⟩ hlt (fun e => hne b rfl e.symm)).trans (hc j u hj)⟩
def TabR (w : World) (v : Value) (f : Nat -> Nat -> Bool) (k n : Nat) : Prop :=
 ∃ vs : List Value, vs.length = k /\ Sl w 1 v k vs /\ ∀ a (h : a < vs.length), Sl w 1 vs[a] n (xkp (f a) n)
theorem TabR.up {f : Nat -> Nat -> Bool} (h : TabR w v f k n) (hb : Below w.heap.size w w') : TabR w' v f k n := by
 obtain ⟨vs, h1, h2, h3⟩ := h
 exact ⟨vs, h1, h2.up hb, fun a ha => (h3 a ha).up hb⟩
theorem x14 (w : World) (f : Nat -> Nat -> Bool) (n : Nat) : TabR w (.slice none 0 0) f 0 n := ⟨[], rfl, Sl.nil _ _, fun a h => absurd h (Nat.not_lt_zero _)⟩
theorem TabR.form {f : Nat -> Nat -> Bool} (h : TabR w v f k n) : ∃ ao cap, v = .slice ao k cap := let ⟨_, _, h2, _⟩ := h; h2.form
def TabO (w : World) (B : Nat) (v : Value) (f : Nat -> Nat -> Bool) (k n : Nat) : Prop :=
 ∃ vs : List Value, vs.length = k /\ w.ownsRow B 95 1 v k vs /\ ∀ a (h : a < vs.length), Sl w 1 vs[a] n (xkp (f a) n) /\ ∀ b, vs[a].ownBlock = some b -> v.ownBlock ≠ some b /\ b < w.heap.size
theorem TabO.r {f : Nat -> Nat -> Bool} (h : TabO w B v f k n) : TabR w v f k n := by
 obtain ⟨vs, h1, h2, h3⟩ := h
 exact ⟨vs, h1, xa7 h2, fun a ha => (h3 a ha).1⟩
theorem TabO.up {f : Nat -> Nat -> Bool} (h : TabO w B v f k n) (hb : Below w.heap.size w w') : TabO w' B v f k n := by
 obtain ⟨vs, h1, h2, h3⟩ := h
 exact ⟨vs, h1, xf3 h2 hb, fun a ha => ⟨(h3 a ha).1.up hb, fun b e => ⟨((h3 a ha).2 b e).1, Nat.lt_of_lt_of_le ((h3 a ha).2 b e).2 hb.size⟩⟩⟩
theorem TabO.lt {f : Nat -> Nat -> Bool} {b : Nat} (h : TabO w B v f k n) (e : v.ownBlock = some b) : b < w.heap.size := by
 obtain ⟨vs, h1, h2, h3⟩ := h
 exact (h2.lt b e).2
theorem x0h (w : World) (B : Nat) (f : Nat -> Nat -> Bool) (n : Nat) : TabO w B (.slice none 0 0) f 0 n := ⟨[], rfl, World.ownsRow_nil _ _ _ _, fun a h => absurd h (Nat.not_lt_zero _)⟩
theorem TabO.add {f : Nat -> Nat -> Bool} {cap : Nat} {x : Value} {vs : List Value} (h1 : vs.length = k) (h3 : ∀ a (h : a < vs.length), Sl w 1 vs[a] n (xkp (f a) n) /\ ∀ b, vs[a].ownBlock = some b -> v.ownBlock ≠ some b /\ b < w.heap.size)
  (ho : w'.ownsRow B 95 1 (.slice (some ⟨g, 0, none⟩) (k + 1) cap) (k + 1) (vs ++ [x])) (hg : w.grownBy w' v.ownBlock) (hat : v.ownBlock = some g \/ g = w.heap.size) (hx : Sl w 1 x n (xkp (f k) n)) (hxb : ∀ b, x.ownBlock = some b -> v.ownBlock ≠ some b /\ b < w.heap.size) :
  TabO w' B (.slice (some ⟨g, 0, none⟩) (k + 1) cap) f (k + 1) n := by
 have far : ∀ b, v.ownBlock ≠ some b /\ b < w.heap.size -> (Value.slice (some ⟨g, 0, none⟩) (k + 1) cap).ownBlock ≠ some b /\ b < w'.heap.size := fun b ⟨e1, e2⟩ => ⟨fun e => by
  simp [Value.ownBlock] at e
  subst e
  rcases hat with hat | hat
  .exact e1 hat
  .omega, Nat.lt_of_lt_of_le e2 hg.size⟩
 refine ⟨vs ++ [x], by simp [h1], ho, fun a ha => ?_⟩
 by_cases hak : a < vs.length
 .rw [List.getElem_append_left hak]
  exact ⟨xe7 (h3 a hak).1 hg (fun b e => ((h3 a hak).2 b e).1), fun b e => far b ((h3 a hak).2 b e)⟩
 .have : a = k := by simp at ha; omega
  subst this
  rw [List.getElem_append_right om]
  simp only [h1, Nat.sub_self, List.getElem_cons_zero]
  exact ⟨xe7 hx hg (fun b e => (hxb b e).1), fun b e => far b (hxb b e)⟩
theorem xwp : (Tryz.prog.info? 95).map (fun i => (i.zero, i.size, i.bytes)) = some (some (.slice none 0 0), 1, 24) := by kernel_rfl
theorem x1r : (Tryz.prog.info? 4).map (fun i => (i.zero, i.size, i.bytes)) = some (some (.bool false), 1, 1) := by kernel_rfl
theorem xu0 : xav 70 := xa8 Tryz.func70 kr kr
def xg7 (S : SysD) : Nat := if xb3 S = 0 then S.parts.length else 0
theorem xre (S : SysD) (vp vc vs : Value) (w : World) (he : Env w) (hS : Sys w vp vc vs S) :
  Calls Tryz.prog 35 #[.agg #[vp, vc, vs]] w fun e w' => ∃ v, e = .returned (.tuple #[v, .int .i64 (xb3 S)]) /\ TabR w' v (fun a b => xbf S a b) (xg7 S) (xg7 S) /\ Below w.heap.size w w' /\ Hid (∀ a b : Nat, a < xg7 S -> b < xg7 S -> ∃ l, xdj (xcq S) a b l (xbf S a b)) := by
 obtain ⟨i1, hi1, hy0, hy1, hy2⟩ := xaj xwp
 obtain ⟨i2, hi2, hb0, hb1, hb2⟩ := xaj x1r
 obtain ⟨pa, pc, rfl⟩ := hS.p.form
 obtain ⟨ca, cc, rfl⟩ := hS.c.form
 obtain ⟨sa, sc, rfl⟩ := hS.s.form
 generalize hr : xb3 S = r
 have HS := hd hS
 have HR := hd hr
 clear hS hr
 go_enter Tryz.func35, Tryz.ntmps35
 go_wp2_with fail
 refine (xcc S _ _ _ _ (he.up up0) (HS.out.up up0)).mono ?_
 rw [HR.out]
 rintro e w1 ⟨rfl, bb⟩
 have HB := hd ((xci w (.slice pa S.parts.length pc) (.slice ca S.chans.length cc) (.slice sa S.slots.length sc) 39 _ rfl).up bb)
 have D := hd (Below.trans (show Below w.heap.size w _ from up0) (bb.mono (by simp)))
 clear bb
 by_cases h0 : r = 0
 .subst h0
  obtain ⟨h4, _, hl, hE⟩ := xgv HR.out
  have HQN : Hid (xg7 S = S.parts.length) := hd (by unfold xg7; rw [if_pos HR.out])
  have k1 := HB.out.c
  go_wp2_with fail
  refine (xod S.chans _ hl _ (HS.out.c.up D.out)).mono ?_
  rintro e w2 ⟨ve, l, rfl, hi, hl12, hs, b2⟩
  have hel := xs7 hE hi
  subst hel
  have HSL := hd hs
  have D2 := hd (D.out.trans (b2.mono D.out.size))
  have HB2 := hd (HB.out.up b2)
  clear HB D b2 k1 hi hs
  have k0 := HB2.out.p
  go_wp2
  clear k0
  go_loopw [21, 6] (fun i l wo => ∃ k : Nat, i = .int .i64 k /\ k <= S.parts.length /\ Hid (TabO wo w2.heap.size l (fun a b => xbf S a b) k S.parts.length) /\ Hid (Below w2.heap.size w2 wo) /\ Hid (∀ a b : Nat, a < k -> b < S.parts.length -> ∃ l, xdj (xcq S) a b l (xbf S a b))) (fun i _ _ => S.parts.length - (intOf i).toNat)
  case atStart => exact ⟨0, rfl, Nat.zero_le _, hd (x0h _ _ _ _), hd (Below.refl _ _), hd (fun a b h => by omega)⟩
  case round =>
   obtain ⟨k, rfl, hk, HT, H2, HA⟩ := hrel
   obtain ⟨wo, hwo⟩ : ∃ wo, wo = wr := ⟨_, rfl⟩
   subst hwo
   have HB3 := hd (HB2.out.up H2.out)
   have k0 := HB3.out.p
   by_cases hlt : k < S.parts.length
   .have hli : (k : Int) < S.parts.length := by omega
    go_wp2_with (refine wpList_make_row _ rfl _ _ 95 rfl 4 i2 (.bool false) Tryz.underlying95 hi2 hb0 hb1 rfl .i64 .i64 S.parts.length rfl rfl (by rw [hb2]; omega) om ?_)
    clear k0
    go_loopw [30] (fun i wr => ∃ j : Nat, i = .int .i64 j /\ j <= S.parts.length /\ Hid (Rw wr wo.heap.size 4 (xsj (fun b => xbf S k b) j S.parts.length)) /\ Hid (Below wo.heap.size wo wr) /\ Hid (∀ b : Nat, b < j -> ∃ l, xdj (xcq S) k b l (xbf S k b))) (fun i _ => S.parts.length - (intOf i).toNat)
    case atStart => exact ⟨0, rfl, Nat.zero_le _, hd (by rw [<- xw4]; exact Rw.new _ _ _ rfl), up0, hd (fun b h => by omega)⟩
    case round =>
     obtain ⟨j, rfl, hj, HR, HQ, HA2⟩ := hrel
     by_cases hjl : j < S.parts.length
     .have hji : (j : Int) < S.parts.length := by omega
      go_upto_region 13 with fail
      have hc0 : (wr.alloc (.cells #[.int .i64 j] 3)).cell? ⟨wr.heap.size, 0, none⟩ = some (.int .i64 j) := by simp
      have HX : Hid (Below wr.heap.size wr (wr.alloc (.cells #[.int .i64 j] 3))) := hd up0
      have hxs : wr.heap.size < (wr.alloc (.cells #[.int .i64 j] 3)).heap.size := by simp
      generalize wr.alloc (.cells #[.int .i64 j] 3) = X at hc0 HX hxs ⊢
      refine xad (S := fun w' => w'.cell? ⟨wr.heap.size, 0, none⟩ = some (.int .i64 (j : Int))) 10 kr hc0 (fun hHeld => ?_)
      refine Still.t 0 [] hHeld ?_
      refine Still.t 1 [] hHeld ?_
      refine Still.t 2 [] hHeld ?_
      refine Still.t 3 [] hHeld ?_
      refine Still.t 4 [] hHeld ?_
      refine Still.o 5 rfl rfl (fun K hK => ?_)
      refine xap 70 _ _ rfl xu0 #[ve, .int .i64 k, .func (.func 71) #[] #[.pointer (some ⟨wr.heap.size, 0, none⟩)]] ev ((xmr (xcq S) S.parts.length om (xgf S) om k j ⟨by omega, by omega⟩ 71 xv7 #[.pointer (some ⟨wr.heap.size, 0, none⟩)] ve X.drew (HSL.out.up ((H2.out.trans ((HQ.out.trans (HX.out.mono HQ.out.size)).mono H2.out.size)).trans (Below.refl _ _).drew)) (fun x w' hb => xvp x j _ w' (bcl hb hxs hc0))).mono ?_)
      rintro e V1 ⟨v5, l5, r5, rfl, hsr, hs5, b5⟩
      have hc1 := bcl b5 hxs hc0
      have e2 := xof om ⟨by omega, by omega⟩ hsr
      subst e2
      have HSR := hd hsr
      have HV : Hid (Below wr.heap.size wr V1) := hd ((HX.out.trans (Below.refl _ _).drew).trans (b5.mono HX.out.size))
      have hu4 := (HR.out.up HV.out HR.out.lt).cell (x2u (fun b : Nat => xbf S k b) (k := j) hjl)
      have hf4 := (HR.out.up HV.out HR.out.lt).fr j
      refine ⟨_, rfl, hK _ _ (fun _ => hc1) (fun hh => ?_)⟩
      have hHeld := hh (by decide)
      clear hK K hh hsr hs5 b5 HX hxs hc0
      try simp only [Act.put, l1, l2, l3, l4, l5, l6]
      refine Still.t 6 [] hHeld ?_
      refine Still.t 7 [] hHeld ?_
      refine Still.t 8 [] hHeld ?_
      refine Still.t 9 [] hHeld ?_
      refine Still.o 10 rfl rfl (fun K hK => ?_)
      go_simp
      refine hK _ _ ab (fun _ => Still.vv ?_)
      clear hK K
      clear hHeld
      go_wp2
      go_roundw
      case rel =>
       refine ⟨j + 1, by go_num, by omega, hd ?_, hd ?_, hd ?_⟩
       .rw [<- xxk]
        exact (HR.out.up HV.out HR.out.lt).set j _
       .exact (HQ.out.trans (HV.out.mono HQ.out.size)).setCell (by simp) _
       .intro b hb
        by_cases e : b = j
        .subst e; exact ⟨_, HSR.out⟩
        .exact HA2.out b om
      case measure => simp [intOf]; omega
     .have hji : ¬ (j : Int) < S.parts.length := by omega
      have hje : j = S.parts.length := by omega
      subst hje
      obtain ⟨vs, hv1, hv2, hv3⟩ := HT.out.up HQ.out
      have hsq := HQ.out.size
      have hs2 := H2.out.size
      have HO3 := hd (hv2.alloc (.cells #[.slice (some ⟨wo.heap.size, 0, none⟩) S.parts.length S.parts.length] 95))
      have HTT := HT.out
      have HV3 := hd hv3
      have HV1 := hd hv1
      obtain ⟨a3, c3, hform⟩ := xaq HO3.out
      subst hform
      clear hv2 hv3 hv1 HTT
      go_wp2_with (at_builtin; refine wpList_append_lies _ rfl (.tmp 44) (.tmp 46) 88 rfl w2.heap.size 95 i1 _ 1 24 Tryz.underlying88 hi1 hy0 hy1 hy2 rfl (by decide) _ k vs rfl HO3.out ⟨wr.heap.size, 0, none⟩ 1 1 [.slice (some ⟨wo.heap.size, 0, none⟩) S.parts.length S.parts.length] rfl rfl (xbs _ _ _ _ rfl) (by simp [Value.oneCell']) (by decide) (by unfold maxLen; omega) om so _ rfl ?_)
      intro g5 cap5 W5 hown hgrow hat hg5
      have HTB := hd (HR.out.lt)
      have HT5 : Hid (TabO W5 w2.heap.size (.slice (some ⟨g5, 0, none⟩) (k + 1) cap5) (fun a b => xbf S a b) (k + 1) S.parts.length) := hd (TabO.add (w := wr.alloc (.cells #[.slice (some ⟨wo.heap.size, 0, none⟩) S.parts.length S.parts.length] 95)) HV1.out (fun a h => ⟨(HV3.out a h).1.up ((Below.refl _ _).alloc (Nat.le_refl _) _), fun b e => ⟨((HV3.out a h).2 b e).1, by have := ((HV3.out a h).2 b e).2; simp; omega⟩⟩) hown hgrow (by simpa using hat) ((x3o HR.out).up ((Below.refl _ _).alloc (Nat.le_refl _) _)) (fun b e => by
       simp [Value.ownBlock] at e
       subst e
       refine ⟨fun e2 => ?_, by simp; have := HTB.out; omega⟩
       have := HT.out.lt e2
       omega))
      have H5 := hd (((H2.out.trans (HQ.out.mono H2.out.size)).alloc om _).grown hgrow so (fun q e => by have := xab HO3.out q e; omega))
      clear hown hgrow hat HO3 HQ HT
      go_wp2
      go_roundw
      case rel =>
       refine ⟨k + 1, by go_num, by omega, HT5, H5, hd (fun a b h1 h2 => ?_)⟩
       by_cases e : a = k
       .subst e; exact HA2.out b h2
       .exact HA.out a b om h2
      case measure => simp [intOf]; omega
   .have hli : ¬ (k : Int) < S.parts.length := by omega
    have hke : k = S.parts.length := by omega
    subst hke
    go_wp2
    go_ret2
    exact ⟨_, rfl, by rw [HQN.out]; exact HT.out.r, D2.out.trans (H2.out.mono D2.out.size), by rw [HQN.out]; exact HA⟩
 .have h0' : (r != 0) = true := by simpa using h0
  have HQN : Hid (xg7 S = 0) := hd (by unfold xg7; rw [if_neg (by rw [HR.out]; exact h0)])
  clear h0
  go_wp2
  go_ret2
  exact ⟨_, rfl, by rw [HQN.out]; exact x14 _ _ _, D.out, hd (fun a b h => by rw [HQN.out] at h; omega)⟩
def NewB (n : Nat) (v : Value) : Prop := ∀ k, v.ownBlock = some k -> n <= k
theorem NewB.mono (h : NewB n v) (hm : m <= n) : NewB m v := fun k e => Nat.le_trans hm (h k e)
theorem xh9 (n : Nat) (c : Nat) : NewB n (.slice none 0 c) := fun k e => by cases e
theorem xff {o l : Nat} (h : n <= g) : NewB n (.slice (some ⟨g, o, none⟩) l c) := fun k e => by simp [Value.ownBlock] at e; omega
def PartsN (n : Nat) (w : World) (v : Value) (ps : List Prt) : Prop :=
 ∃ vs : List (Value × Value), vs.length = ps.length /\ Sl w 2 v ps.length (xbe prC vs) /\ NewB n v /\ ∀ k (hk : k < ps.length) (hk' : k < vs.length), PrtR w vs[k].1 vs[k].2 ps[k] /\ NewB n vs[k].1 /\ NewB n vs[k].2
structure SysN (n : Nat) (w : World) (vp vc vs : Value) (S : SysD) : Prop where
 p : PartsN n w vp S.parts
 c : Sl w 3 vc S.chans.length (xbe chC S.chans)
 s : Sl w 2 vs S.slots.length (xbe slC S.slots)
 nc : NewB n vc
 ns : NewB n vs
theorem PartsN.r {ps : List Prt} (h : PartsN n w v ps) : PartsR w v ps := by
 obtain ⟨vs, h1, h2, _, h4⟩ := h
 exact ⟨vs, h1, h2, fun k hk hk' => (h4 k hk hk').1⟩
theorem SysN.sys (h : SysN n w vp vc vs S) : Sys w vp vc vs S := ⟨h.p.r, h.c, h.s⟩
theorem Sl.far {j : Nat} (h : Sl w size v m xs) (hn : NewB n v) (hc : c < n) (u : Value) : Sl (w.setCell ⟨c, j, none⟩ u) size v m xs := h.set u (fun e => by have := hn c e; omega)
theorem SysN.set (h : SysN n w vp vc vs S) {c j : Nat} (hc : c < n) (u : Value) : SysN n (w.setCell ⟨c, j, none⟩ u) vp vc vs S := by
 obtain ⟨ps, h1, h2, h3, h4⟩ := h.p
 exact ⟨⟨ps, h1, h2.far h3 hc u, h3, fun k hk hk' => ⟨⟨(h4 k hk hk').1.code.far (h4 k hk hk').2.1 hc u, (h4 k hk hk').1.inn.far (h4 k hk hk').2.2 hc u⟩, (h4 k hk hk').2⟩⟩, h.c.far h.nc hc u, h.s.far h.ns hc u, h.nc, h.ns⟩
theorem SysN.up (h : SysN n w vp vc vs S) (hb : Below w.heap.size w w') : SysN n w' vp vc vs S := by
 obtain ⟨ps, h1, h2, h3, h4⟩ := h.p
 exact ⟨⟨ps, h1, h2.up hb, h3, fun k hk hk' => ⟨(h4 k hk hk').1.up hb, (h4 k hk hk').2⟩⟩, h.c.up hb, h.s.up hb, h.nc, h.ns⟩
theorem xfx (w : World) (xs : List Value) (t : TypeId) (g n size : Nat) (hg : g = w.heap.size) (hl : xs.length = n * size) : Sl (w.alloc (.cells xs.toArray t)) size (.slice (some ⟨g, 0, none⟩) n n) n xs := by
 subst hg
 refine ⟨hl, _, _, rfl, Nat.le_refl _, fun _ => ⟨_, 0, rfl, by simp, fun j u hj => ?_⟩⟩
 rw [Nat.zero_add, World.cell?_alloc_new, <- Array.getElem?_toList]
 exact hj
theorem Sl.up1 (h : Sl w size v n xs) (o : Obj) : Sl (w.alloc o) size v n xs := h.up ((Below.refl _ _).alloc (Nat.le_refl _) _)
def xbm : SysD := ⟨[⟨[⟨10, 0, 0, 0⟩, ⟨12, 0, 0, 0⟩, ⟨15, 0, 0, 0⟩], [6]⟩, ⟨xrq, []⟩, ⟨[⟨13, 0, 1, 1⟩, ⟨9, 1, 0, 0⟩, ⟨11, 0, 0, 0⟩, ⟨15, 0, 0, 0⟩], []⟩, ⟨[⟨11, 0, 0, 0⟩, ⟨8, 0, 0, 0⟩], []⟩], [⟨2, 0, 1⟩, ⟨1, 1, 2⟩], [⟨0, 3⟩, ⟨1, 4⟩, ⟨3, 1⟩, ⟨2, 4⟩]⟩
theorem xgh : xb3 xbm = 0 := by decide +kernel
theorem x0o : xbm.ok := by
 intro p hp j hj
 have h : ∀ p ∈ xbm.parts, ∀ i ∈ p.code, i.ok := by
  intro p hp i hi
  simp only [xbm, List.mem_cons, List.not_mem_nil, or_false] at hp
  rcases hp with rfl | rfl | rfl | rfl
  all_goals simp only [xrq, List.mem_cons, List.not_mem_nil, or_false] at hi
  .rcases hi with rfl | rfl | rfl <;> exact ⟨⟨by decide, by decide⟩, ⟨by decide, by decide⟩, ⟨by decide, by decide⟩, ⟨by decide, by decide⟩⟩
  .rcases hi with rfl | rfl | rfl | rfl | rfl <;> exact ⟨⟨by decide, by decide⟩, ⟨by decide, by decide⟩, ⟨by decide, by decide⟩, ⟨by decide, by decide⟩⟩
  .rcases hi with rfl | rfl | rfl | rfl <;> exact ⟨⟨by decide, by decide⟩, ⟨by decide, by decide⟩, ⟨by decide, by decide⟩, ⟨by decide, by decide⟩⟩
  .rcases hi with rfl | rfl <;> exact ⟨⟨by decide, by decide⟩, ⟨by decide, by decide⟩, ⟨by decide, by decide⟩, ⟨by decide, by decide⟩⟩
 exact h p hp _ (List.getElem_mem hj)
theorem xqr (w : World) : Calls Tryz.prog 67 #[] w fun e w' => e = .returned (.slice (some ⟨w.heap.size, 0, none⟩) 5 5) /\ w' = w.alloc (.cells (xck xrq).toArray 124) := by
 go_enter Tryz.func67, Tryz.ntmps67
 go_wp2
 go_ret
 exact ⟨rfl, rfl⟩
theorem xzp (w : World) : Calls Tryz.prog 32 #[] w fun e w' => ∃ vp vc vs, e = .returned (.agg #[vp, vc, vs]) /\ SysN (w.heap.size + 1) w' vp vc vs xbm /\ Below w.heap.size w w' := by
 go_enter Tryz.func32, Tryz.ntmps32
 go_wp2_with (go_at_call 67; refine (xqr _).mono ?_; rintro e w1 ⟨rfl, rfl⟩)
 refine bodyPost_ret (v := .agg #[.slice (some ⟨w.heap.size + 1 + 1 + 1 + 1 + 1 + 1, 0, none⟩) 4 4, .slice (some ⟨w.heap.size + 1 + 1 + 1 + 1 + 1 + 1 + 1, 0, none⟩) 2 2, .slice (some ⟨w.heap.size + 1 + 1 + 1 + 1 + 1 + 1 + 1 + 1, 0, none⟩) 4 4]) (by simp [results, Tryz.f32, go_sem]) rfl ⟨_, _, _, rfl, ?_, up0⟩
 refine ⟨⟨[(.slice (some ⟨w.heap.size + 1, 0, none⟩) 3 3, .slice (some ⟨w.heap.size + 1 + 1, 0, none⟩) 1 1), (.slice (some ⟨w.heap.size + 1 + 1 + 1, 0, none⟩) 5 5, .slice none 0 0), (.slice (some ⟨w.heap.size + 1 + 1 + 1 + 1, 0, none⟩) 4 4, .slice none 0 0), (.slice (some ⟨w.heap.size + 1 + 1 + 1 + 1 + 1, 0, none⟩) 2 2, .slice none 0 0)], rfl, ?_, xff om, ?_⟩, ?_, ?_, xff om, xff om⟩
 .exact (by repeat (first | exact xfx _ _ _ _ _ _ (by simp) rfl | refine Sl.up1 ?_ _))
 .intro k hk hk'
  have hk4 : k = 0 \/ k = 1 \/ k = 2 \/ k = 3 := by have : k < 4 := hk; omega
  rcases hk4 with rfl | rfl | rfl | rfl
  .exact ⟨⟨(by repeat (first | exact xfx _ _ _ _ _ _ (by simp) rfl | refine Sl.up1 ?_ _)), (by repeat (first | exact xfx _ _ _ _ _ _ (by simp) rfl | refine Sl.up1 ?_ _))⟩, xff om, xff om⟩
  .exact ⟨⟨(by repeat (first | exact xfx _ _ _ _ _ _ (by simp) rfl | refine Sl.up1 ?_ _)), Sl.nil _ _⟩, xff om, xh9 _ _⟩
  .exact ⟨⟨(by repeat (first | exact xfx _ _ _ _ _ _ (by simp) rfl | refine Sl.up1 ?_ _)), Sl.nil _ _⟩, xff om, xh9 _ _⟩
  .exact ⟨⟨(by repeat (first | exact xfx _ _ _ _ _ _ (by simp) rfl | refine Sl.up1 ?_ _)), Sl.nil _ _⟩, xff om, xh9 _ _⟩
 .exact (by repeat (first | exact xfx _ _ _ _ _ _ (by simp) rfl | refine Sl.up1 ?_ _))
 .exact (by repeat (first | exact xfx _ _ _ _ _ _ (by simp) rfl | refine Sl.up1 ?_ _))
theorem TabR.row {f : Nat -> Nat -> Bool} (h : TabR w v f k n) (hk : 0 < k) (hn : 0 < n) : ∃ b off cap, v = .slice (some ⟨b, off, none⟩) k cap /\ k <= cap /\ b < w.heap.size /\ ∀ a, a < k -> ∃ rb ro rc, w.cell? ⟨b, off + a, none⟩ = some (.slice (some ⟨rb, ro, none⟩) n rc) /\ n <= rc /\ rb < w.heap.size /\ ∀ c, c < n -> w.cell? ⟨rb, ro + c, none⟩ = some (.bool (f a c)) := by
 obtain ⟨vs, h1, h2, h3⟩ := h
 obtain ⟨b, off, cap, rfl, hcap, hb, hc⟩ := h2.open hk
 refine ⟨b, off, cap, rfl, hcap, hb, fun a ha => ?_⟩
 obtain ⟨rb, ro, rc, e, hrc, hrb, hcc⟩ := (h3 a om).open hn
 refine ⟨rb, ro, rc, ?_, hrc, hrb, fun c hcn => hcc c _ (x1m _ hcn)⟩
 exact hc a _ (by rw [List.getElem?_eq_getElem om, e])
end Go.Proofs.YtbkdoohhdkahiaaGreatDoor

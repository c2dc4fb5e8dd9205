/- A set of edges: a map with edges as its keys. -/
import Derived.Test.YtbkdoohhdkahiaaGreatDoorJ9
import Derived.Maps.OwnOps
import Derived.Maps.OwnSet
import Derived.DeepKeys4
import Derived.Test.YtbkdoohhdkahiaaGreatDoorJ4
import Derived.Test.YtbkdoohhdkahiaaGreatDoorJ5
import Derived.Deep.RegionWith
namespace Go.Proofs.YtbkdoohhdkahiaaGreatDoor
set_option linter.unusedSimpArgs false
set_option linter.unusedVariables false
set_option maxRecDepth 100000
set_option maxHeartbeats 8000000
open Go.RowKit Go.Sort Go.Shelf Go.Lib Go.Maps Go.WideMaps
variable {b k n : Nat} {e : Edg} {w w' : World} {L V : List Edg}
theorem x5k : laidOutB Tryz.prog = true := by kernel_rfl
theorem x5n : (53 : TypeId) < Tryz.prog.types.size := of_decide_eq_true kr
theorem x46 : (match Tryz.prog.underlying 53 with | some (.array _ _) | some (.struct _) => true | _ => false) = true := by rw [Tryz.underlying53]
theorem x5w : KeyLaw Tryz.prog 53 := deep_law_laid x5k (m := 2) om x5n kr x46
theorem x5t : Keyed Tryz.prog 53 := Keyed.of_law x5w
def Edg.v (e : Edg) : Value := .agg #[.int .i64 e.fr, .int .i64 e.tt]
def Edg.wf (e : Edg) : Prop := wfI e.fr /\ wfI e.tt
theorem x5a : Tryz.prog.keyType 53 = true := by kernel_rfl
theorem x36 : Tryz.prog.cellsOf 53 = 2 := by kernel_rfl
theorem x04 : Tryz.prog.cellsOf 3 = 1 := by kernel_rfl
theorem x0s (h : 0 < n) : ∃ m, n = m + 1 := ⟨n - 1, by omega⟩
theorem x4u : ∃ m, Tryz.prog.types.size = m + 1 := x0s (Nat.lt_of_le_of_lt (Nat.zero_le _) x5n)
theorem xwj {P : Program} {k e : TypeId} {f0 f1 : Field} {q : IntKind} (hu : P.underlying k = some (.struct #[f0, f1])) (he : P.underlying e = some (.int q)) (ht0 : f0.type = e) (ht1 : f1.type = e) (ho0 : f0.offset = 0) (ho1 : f1.offset = 1) (hn0 : (f0.name != "_") = true) (hn1 : (f1.name != "_") = true)
  (hkt : P.keyType k = true) (hc : P.cellsOf k = 2) (hce : P.cellsOf e = 1) (hsz : ∃ m, P.types.size = m + 1) {a b : Int} (wa : (Lit.int q a).wf = true) (wb : (Lit.int q b).wf = true) :
  keyOf P k (.agg #[.int q a, .int q b]) = some (.string (keyBytes [.int q a, .int q b])) := by
 obtain ⟨m, hm⟩ := hsz
 unfold keyOf
 simp only [hu]
 rw [if_pos (by simp [hkt, Value.formed, hu, hc]), hm]
 unfold Program.keyLits
 simp only [hu, Value.cells]
 rw [if_pos (by simp [hc, hn0, hn1])]
 simp [ht0, ht1, ho0, ho1, hce, Program.keyLits, he, wa, wb]
theorem xs4 (h : e.wf) : ∃ l, keyOf Tryz.prog 53 e.v = some l :=
 ⟨_, xwj Tryz.underlying53 Tryz.underlying3 rfl rfl rfl rfl (by decide) (by decide) x5a x36 x04 x4u h.1 h.2⟩
theorem xxd {e' : Edg} (h : e.v = e'.v) : e = e' := by
 obtain ⟨a, b⟩ := e
 obtain ⟨c, d⟩ := e'
 simp [Edg.v] at h
 rw [h.1, h.2]
def SaysM (w : World) (b n : Nat) (L : List Edg) : Prop :=
 ∃ D : DataW Unit, w.ownsMap Tryz.prog 53 unitElem b n D /\ ∀ e : Edg, ∀ l, keyOf Tryz.prog 53 e.v = some l -> Maps.has D l = decide (e ∈ L)
theorem xw8 (w : World) : SaysM (w.alloc (.map #[] 0)) w.heap.size 0 [] := ⟨.map [], World.ownsMap_made _ _ _ _, fun e l _ => by simp [Maps.has]⟩
theorem SaysM.lt (h : SaysM w b n V) : b < w.heap.size := let ⟨_, h, _⟩ := h; h.lt
theorem SaysM.kept {row : Option Nat} (h : SaysM w b n V) (hg : w.grownBy w' row) (hne : some b ≠ row) : SaysM w' b n V := let ⟨D, h, r⟩ := h; ⟨D, h.kept hg hne, r⟩
theorem SaysM.alloc (h : SaysM w b n V) (o : Obj) : SaysM (w.alloc o) b n V := let ⟨D, h, r⟩ := h; ⟨D, h.alloc o, r⟩
theorem SaysM.up (h : SaysM w b n V) (hb : Below w.heap.size w w') : SaysM w' b n V := by
 have hl := h.lt
 obtain ⟨D, ⟨es, clock, h1, h2⟩, r⟩ := h
 exact ⟨D, ⟨es, clock, by rw [hb.block _ hl]; exact h1, h2⟩, r⟩
theorem x6d (w : World) : (zeroValue 141).run Tryz.prog w = .ok (.agg #[]) w := by kernel_rfl
section
variable {w : World} {ops : Array Oper} {rest : List Oper} {o : Oper} {a : Act} {Q : Exit -> Act -> World -> Prop}
theorem xf5 (hg : o.guard = none) (m x v : Operand) (hop : o.op = Op.mapUpdate 92 m x v) (b n : Nat) (V : List Edg) (hm : a.eval m = .map (some b)) (hown : SaysM w b n V) (hn : n < 1000)
  (e : Edg) (hx : a.eval x = e.v) (hv : a.eval v = .agg #[]) (we : e.wf)
  (hK : ∀ w', SaysM w' b (n + 1) (V ++ [e]) -> w.grownBy w' (some b) -> wpList Tryz.prog ops Q rest (a.put o.dst undef) w') : wpList Tryz.prog ops Q (o :: rest) a w := by
 obtain ⟨D, h1, h2⟩ := hown
 obtain ⟨kl, hkl⟩ := xs4 we
 refine wpList_plain hg fun K' hK' => ?_
 obtain ⟨w', hrun, r1, r2⟩ := h1.update x5t Tryz.underlying92 (by unfold maxLen; omega) hkl unitElem_mk
 have hfin := hK w' ⟨_, r1, fun e' l' hl' => by
  by_cases he : e' = e
  .subst he
   rw [hkl] at hl'
   injection hl' with hl'
   subst hl'
   rw [Maps.has_put_same h1.isMap (x5t.key hkl)]
   simp
  .have hne : l' ≠ kl := fun h => he (xxd (x5t.inj hl' (h ▸ hkl)))
   rw [Maps.has_put_other hne, h2 e' l' hl']
   simp [he]⟩ r2
 unfold Oper.wp
 simp [execOp, hop, hm, hx, hv, hrun, Result.andThen]
 exact hK' _ _ hfin
theorem xla (hg : o.guard = none) (m x : Operand) (hop : o.op = Op.lookup 92 m x true) (b n : Nat) (V : List Edg) (hm : a.eval m = .map (some b)) (hown : SaysM w b n V)
  (e : Edg) (hx : a.eval x = e.v) (we : e.wf)
  (hK : wpList Tryz.prog ops Q rest (a.put o.dst (.tuple #[.agg #[], .bool (decide (e ∈ V))])) w) : wpList Tryz.prog ops Q (o :: rest) a w := by
 obtain ⟨D, h1, h2⟩ := hown
 obtain ⟨kl, hkl⟩ := xs4 we
 refine wpList_lookup_own_unit _ hg m x _ hop 53 141 x5t Tryz.underlying92 (x6d _) b n D hm h1 _ kl hx hkl ?_
 rw [h2 e kl hkl]
 exact hK
end
open Go.RowKit Go.Sort Go.Shelf Go.Lib Go.Maps
def xhk (a b : Edg) : Bool := decide (a.fr < b.fr) || (a.fr == b.fr && decide (a.tt < b.tt))
def x5i (n : Nat) (e : Edg) : Prop := xaf e.fr 0 ((n : Int) - 1) = true /\ xaf e.tt 0 ((n : Int) - 1) = true /\ e.fr ≠ e.tt
def xio (n : Nat) (L : List Edg) (k : Nat) : Prop := ∀ j (h : j < L.length), j < k -> x5i n L[j] /\ (∀ h0 : 0 < j, xhk (L[j - 1]'om) L[j] = true)
noncomputable def xsy (n : Nat) (L : List Edg) : Bool := @decide (xio n L L.length) (Classical.propDecidable _)
theorem xkl (h : xio n L L.length) : xsy n L = true := by unfold xsy; simpa using h
theorem x23 (h : xsy n L = true) : xio n L L.length := by unfold xsy at h; simpa using h
theorem xmn (h : ¬ xio n L L.length) : xsy n L = false := by unfold xsy; simpa using h
theorem xm1 (n : Nat) (L : List Edg) : xio n L 0 := fun j _ h => by omega
theorem xmu (h : xio n L k) (hk : k < L.length) (h1 : x5i n L[k]) (h2 : ∀ h0 : 0 < k, xhk (L[k - 1]'om) L[k] = true) : xio n L (k + 1) := fun j hj hjk => by
 by_cases e : j = k
 .subst e; exact ⟨h1, h2⟩
 .exact h j hj om
theorem xmi (hk : k < L.length) (h1 : ¬ x5i n L[k]) : xsy n L = false := xmn (fun h => h1 (h k hk hk).1)
theorem xmy (hk : k < L.length) (h0 : 0 < k) (h2 : xhk (L[k - 1]'om) L[k] = false) : xsy n L = false := xmn (fun h => by have := (h k hk hk).2 h0; rw [h2] at this; cases this)
theorem xpe (h : xio n L k) (hk : ¬ k < L.length) : xsy n L = true := xkl (fun j hj _ => h j hj om)
theorem xhq (hn : n <= 4) {L : List Edg} {k : Nat} (h : xio n L k) (hk : k <= L.length) : k <= 16 := by
 have key : ∀ j (hj : j < L.length), j < k -> (j : Int) <= L[j].fr * 4 + L[j].tt := by
  intro j
  induction j with
  | zero =>
   intro hj hjk
   obtain ⟨⟨h1, h2, _⟩, _⟩ := h 0 hj hjk
   unfold xaf at h1 h2
   simp at h1 h2
   omega
  | succ j ih =>
   intro hj hjk
   have a := ih om om
   obtain ⟨⟨h1, h2, _⟩, h3⟩ := h (j + 1) hj hjk
   obtain ⟨⟨g1, g2, _⟩, _⟩ := h j om om
   have h4 := h3 om
   unfold xaf at h1 h2 g1 g2
   unfold xhk at h4
   simp at h1 h2 g1 g2 h4
   omega
 rcases Nat.eq_zero_or_pos k with e | e
 .omega
 .have a := key (k - 1) om om
  obtain ⟨⟨h1, h2, _⟩, _⟩ := h (k - 1) om om
  unfold xaf at h1 h2
  simp at h1 h2
  omega
theorem x05 (hn : n <= 4) {L : List Edg} (h : xio n L L.length) {e : Edg} (he : e ∈ L) : e.wf := by
 obtain ⟨j, hj, rfl⟩ := List.getElem_of_mem he
 obtain ⟨⟨h1, h2, _⟩, _⟩ := h j hj hj
 unfold xaf at h1 h2
 simp at h1 h2
 exact ⟨xdo om om, xdo om om⟩
theorem xc5 (n : Nat) (x : Int) (w : World) : Calls Tryz.prog 117 #[.int .i64 (n : Int), .int .i64 x] w fun e w' => e = .returned (.bool (xaf x 0 ((n : Int) - 1))) /\ w' = w := by
 by_cases h0 : 0 <= x
 .by_cases h1 : x < n
  .have e : xaf x 0 ((n : Int) - 1) = true := by unfold xaf; simp; omega
   rw [e]
   clear e
   go_enter Tryz.func117, Tryz.ntmps117
   go_wp2
   go_ret
   exact ⟨rfl, rfl⟩
  .have e : xaf x 0 ((n : Int) - 1) = false := by unfold xaf; simp; omega
   rw [e]
   clear e
   go_enter Tryz.func117, Tryz.ntmps117
   go_wp2
   go_ret
   exact ⟨rfl, rfl⟩
 .have e : xaf x 0 ((n : Int) - 1) = false := by unfold xaf; simp; omega
  rw [e]
  clear e
  go_enter Tryz.func117, Tryz.ntmps117
  go_wp2
  go_ret
  exact ⟨rfl, rfl⟩
theorem xtd (a b : Edg) (w : World) : Calls Tryz.prog 118 #[a.v, b.v] w fun e w' => e = .returned (.bool (xhk a b)) /\ Below w.heap.size w w' := by
 obtain ⟨p, q⟩ := a
 obtain ⟨x, y⟩ := b
 unfold Edg.v
 by_cases h0 : p < x
 .have e : xhk ⟨p, q⟩ ⟨x, y⟩ = true := by unfold xhk; simp [h0]
  rw [e]
  clear e
  go_enter Tryz.func118, Tryz.ntmps118
  go_wp2
  go_ret
  exact ⟨rfl, up0⟩
 .by_cases h1 : p = x
  .subst h1
   by_cases h2 : q < y
   .have e : xhk ⟨p, q⟩ ⟨p, y⟩ = true := by unfold xhk; simp [h2]
    rw [e]
    clear e
    go_enter Tryz.func118, Tryz.ntmps118
    go_wp2
    go_ret
    exact ⟨rfl, up0⟩
   .have e : xhk ⟨p, q⟩ ⟨p, y⟩ = false := by unfold xhk; simp [h2]
    rw [e]
    clear e
    go_enter Tryz.func118, Tryz.ntmps118
    go_wp2
    go_ret
    exact ⟨rfl, up0⟩
  .have e : xhk ⟨p, q⟩ ⟨x, y⟩ = false := by unfold xhk; simp [h0, h1]
   have h1' : (p == x) = false := by simpa using h1
   rw [e]
   clear e
   go_enter Tryz.func118, Tryz.ntmps118
   go_wp2
   go_ret
   exact ⟨rfl, up0⟩
theorem xg0 (b a : Edg) (w : World) : Calls Tryz.prog 30 #[b.v, a.v] w fun e w' => e = .returned (.bool (xhk a b)) /\ Below w.heap.size w w' := by
 obtain ⟨p, q⟩ := a
 obtain ⟨x, y⟩ := b
 unfold Edg.v
 by_cases h0 : p < x
 .have e : xhk ⟨p, q⟩ ⟨x, y⟩ = true := by unfold xhk; simp [h0]
  rw [e]
  clear e
  go_enter Tryz.func30, Tryz.ntmps30
  go_wp2
  go_ret
  exact ⟨rfl, up0⟩
 .by_cases h1 : x = p
  .subst h1
   by_cases h2 : q < y
   .have e : xhk ⟨x, q⟩ ⟨x, y⟩ = true := by unfold xhk; simp [h2]
    rw [e]
    clear e
    go_enter Tryz.func30, Tryz.ntmps30
    go_wp2
    go_ret
    exact ⟨rfl, up0⟩
   .have e : xhk ⟨x, q⟩ ⟨x, y⟩ = false := by unfold xhk; simp [h2]
    rw [e]
    clear e
    go_enter Tryz.func30, Tryz.ntmps30
    go_wp2
    go_ret
    exact ⟨rfl, up0⟩
  .have e : xhk ⟨p, q⟩ ⟨x, y⟩ = false := by unfold xhk; simp [h0, Ne.symm h1]
   have h1' : (x == p) = false := by simpa using h1
   rw [e]
   clear e
   go_enter Tryz.func30, Tryz.ntmps30
   go_wp2
   go_ret
   exact ⟨rfl, up0⟩
open Go.RowKit Go.Sort
theorem xi4 (xs : List Int) (v : Value) (w : World) (hS : Sl w 1 v xs.length (xar xs)) (hx : xs.length <= 1000) (h64 : ∀ n ∈ xs, xb6 n) :
  Calls Tryz.prog 23 #[v] w fun e w' => e = .returned (.string ⟨(xs.flatMap xj4).toArray⟩) /\ Below w.heap.size w w' := by
 obtain ⟨ao, cap, rfl⟩ := hS.form
 have HS := hd hS
 have HX := hd h64
 clear hS h64
 go_enter Tryz.func23, Tryz.ntmps23
 go_wp2
 go_loopw [3, 4] (fun s i wr => ∃ k : Nat, i = .int .i64 k /\ k <= xs.length /\ s = .string ⟨((xs.take k).flatMap xj4).toArray⟩ /\ Hid (Below w.heap.size w wr)) (fun _ i _ => xs.length - (intOf i).toNat)
 case atStart => exact ⟨0, rfl, Nat.zero_le _, rfl, hd (Below.refl _ _)⟩
 case round =>
  obtain ⟨k, rfl, hk, rfl, WD⟩ := hrel
  by_cases hlt : k < xs.length
  .have hli : (k : Int) < xs.length := by omega
   obtain ⟨sb, off, cap', e1, hcap, hbw, hc⟩ := HS.out.open om
   cases e1
   have c0 := hc k _ (xgg xs k hlt)
   have c0 := bcl WD.out hbw c0
   have hfl : ((xs.take k).flatMap xj4).length <= 22 * (xs.take k).length := xgw _ (fun n hn => HX.out n (xcw hn))
   have hyl : ((xs.take k).flatMap xj4).length <= 30000 := by rw [List.length_take] at hfl; omega
   have HT := hd (xbo xj4 xs k hlt)
   have H64 := hd (HX.out xs[k] (List.getElem_mem hlt))
   have hil : (Lib.itoa xs[k]).length <= 21 := Lib.itoa_length_le _ H64.out.1 H64.out.2
   obtain ⟨y, HY⟩ : ∃ y, Hid ((xs.take k).flatMap xj4 = y) := ⟨_, hd rfl⟩
   rw [HY.out] at hyl HT
   rw [HY.out]
   obtain ⟨n, HN⟩ : ∃ n, Hid (xs[k] = n) := ⟨_, hd rfl⟩
   rw [HN.out] at c0 HT H64 hil
   clear hc hfl
   go_wp2_with fail
   refine (xe6 n H64.out _).mono ?_
   rintro e w2 ⟨rfl, b2⟩
   have B2 := hd (WD.out.trans (b2.mono WD.out.size))
   clear b2 c0
   go_wp2
   go_roundw
   case rel => exact ⟨k + 1, by go_num, by omega, by rw [HT.out]; simp [xj4, xfu, xew], B2⟩
   case measure => simp [intOf]; omega
  .obtain rfl : k = xs.length := by omega
   have hli : ¬ ((xs.length : Int) < xs.length) := by omega
   rw [List.take_length]
   go_wp2
   go_ret
   exact ⟨rfl, WD.out⟩
theorem xgx : xav 62 := xa8 Tryz.func62 kr kr
def xd5 (e : Edg) : List UInt8 := Lib.itoa e.fr ++ (62 :: Lib.itoa e.tt)
def xfq (L : List Edg) : Nat -> List UInt8
 | 0 => []
 | k + 1 => match L[k]? with
  | some e => (xfq L k ++ (if k = 0 then [] else [32])) ++ xd5 e
  | none => xfq L k
def xso (e : Edg) : Prop := xb6 e.fr /\ xb6 e.tt
theorem xmv (h : k < L.length) : xfq L (k + 1) = (xfq L k ++ (if k = 0 then [] else [32])) ++ xd5 L[k] := by
 rw [xfq, List.getElem?_eq_getElem h]
theorem xx9 (h : xso e) : (xd5 e).length <= 43 := by
 have h1 := Lib.itoa_length_le e.fr h.1.1 h.1.2
 have h2 := Lib.itoa_length_le e.tt h.2.1 h.2.2
 simp [xd5]
 omega
theorem xpv (h : ∀ e ∈ L, xso e) : ∀ k, (xfq L k).length <= 44 * k
 | 0 => by simp [xfq]
 | k + 1 => by
  have := xpv h k
  rw [xfq]
  cases hk : L[k]? with
  | none => simp only; omega
  | some e =>
   have := xx9 (h e (List.mem_of_getElem? hk))
   simp only [List.length_append]
   split <;> simp <;> omega
theorem xl0 (L : List Edg) (v : Value) (w : World) (hL : Sl w 2 v L.length (xbe Edg.cells L)) (hl : L.length <= 1000) (h64 : ∀ e ∈ L, xso e) :
  Calls Tryz.prog 31 #[.agg #[v]] w fun e w' => e = .returned (.string ⟨(xfq L L.length).toArray⟩) /\ Below w.heap.size w w' := by
 obtain ⟨la, lc, rfl⟩ := hL.form
 have HL := hd hL
 have HX := hd h64
 have B0 : Hid (Below w.heap.size w (w.alloc (.cells #[.slice la L.length lc] 27))) := hd ((Below.refl _ _).alloc (Nat.le_refl _) _)
 clear hL h64
 go_enter Tryz.func31, Tryz.ntmps31
 go_wp2
 go_loopw [3, 4] (fun s i wr => ∃ k : Nat, i = .int .i64 k /\ k <= L.length /\ s = .string ⟨(xfq L k).toArray⟩ /\ wr.cell? ⟨w.heap.size, 0, none⟩ = some (.slice la L.length lc) /\ w.heap.size < wr.heap.size /\ Hid (Below w.heap.size w wr)) (fun _ i _ => L.length - (intOf i).toNat)
 case atStart => exact ⟨0, rfl, Nat.zero_le _, rfl, by simp, by simp, B0⟩
 case round =>
  obtain ⟨k, rfl, hk, rfl, hb1, hwz, WD⟩ := hrel
  by_cases hlt : k < L.length
  .have hli : (k : Int) < L.length := by omega
   obtain ⟨pb, po, pc', e1, hpc, hpb, hpx⟩ := HL.out.open om
   cases e1
   obtain ⟨c0, c1⟩ := xbq hpx k hlt
   have c0 := bcl WD.out hpb c0
   have c1 := bcl WD.out hpb c1
   have hpw : pb < wr.heap.size := Nat.lt_of_lt_of_le hpb WD.out.size
   have HT := hd (xmv hlt)
   have h64 := HX.out L[k] (List.getElem_mem hlt)
   have hyl := xpv HX.out k
   generalize L[k] = ed at c0 c1 HT h64
   obtain ⟨ef, et⟩ := ed
   have H1 := hd h64.1
   have H2 := hd h64.2
   have hf1 := Lib.itoa_length_le ef h64.1.1 h64.1.2
   have hf2 := Lib.itoa_length_le et h64.2.1 h64.2.2
   simp only at c0 c1 H1 H2
   obtain ⟨y, HY⟩ : ∃ y, Hid (xfq L k = y) := ⟨_, hd rfl⟩
   rw [HY.out] at hyl HT
   rw [HY.out]
   clear hpx h64 hpb
   rcases Nat.eq_zero_or_pos k with e0 | h0
   .subst e0
    simp only [Nat.zero_mul, Nat.add_zero, Nat.zero_add] at c0 c1
    go_wp2
    refine xad (S := fun w' => w'.cell? ⟨w.heap.size, 0, none⟩ = some (.slice (some ⟨pb, po, none⟩) L.length lc) /\ w'.cell? ⟨pb, po, none⟩ = some (.int .i64 ef) /\ w'.cell? ⟨pb, po + 1, none⟩ = some (.int .i64 et)) 18 kr ⟨hb1, c0, c1⟩ (fun hHeld => ?_)
    refine Still.t 0 [] hHeld ?_
    refine Still.t 1 [] hHeld ?_
    refine Still.t 2 [] hHeld ?_
    refine Still.t 3 [] hHeld ?_
    refine Still.t 4 [] hHeld ?_
    refine Still.t 5 [] hHeld ?_
    refine Still.t 6 [] hHeld ?_
    refine Still.t 10 [] hHeld ?_
    refine Still.t 11 [] hHeld ?_
    refine Still.t 12 [] hHeld ?_
    refine Still.t 13 [] hHeld ?_
    refine Still.t 14 [] hHeld ?_
    refine Still.t 15 [] hHeld ?_
    refine Still.o 7 rfl rfl (fun K hK => ?_)
    refine xap 62 _ _ rfl xgx #[.int .i64 ef] ev ((xe6 ef (by first | exact H1.out | exact H2.out) _).mono ?_)
    rintro e V1 ⟨rfl, bb1⟩
    have BV1 : Hid (Below wr.heap.size wr V1) := hd ((Below.refl _ _).drew.trans bb1)
    refine ⟨_, rfl, hK _ _ (fun _ => ⟨bcl BV1.out (by show w.heap.size < wr.heap.size; omega) hb1, bcl BV1.out (by show pb < wr.heap.size; omega) c0, bcl BV1.out (by show pb < wr.heap.size; omega) c1⟩) (fun hh => ?_)⟩
    have hHeld := hh (by decide)
    clear hK K hh
    try simp only [Act.put, l1, l2, l3, l4, l5, l6]
    refine Still.t 8 [] hHeld ?_
    refine Still.t 9 [] hHeld ?_
    refine Still.o 16 rfl rfl (fun K hK => ?_)
    refine xap 62 _ _ rfl xgx #[.int .i64 et] ev ((xe6 et (by first | exact H1.out | exact H2.out) _).mono ?_)
    rintro e V2 ⟨rfl, bb2⟩
    have BV2 : Hid (Below wr.heap.size wr V2) := hd (BV1.out.trans (bb2.mono BV1.out.size))
    refine ⟨_, rfl, hK _ _ (fun _ => ⟨bcl BV2.out (by show w.heap.size < wr.heap.size; omega) hb1, bcl BV2.out (by show pb < wr.heap.size; omega) c0, bcl BV2.out (by show pb < wr.heap.size; omega) c1⟩) (fun hh => ?_)⟩
    have hHeld := hh (by decide)
    clear hK K hh
    try simp only [Act.put, l1, l2, l3, l4, l5, l6]
    refine Still.t 17 [] hHeld ?_
    refine Still.o 18 rfl rfl (fun K hK => ?_)
    go_simp
    refine hK _ _ ab (fun _ => Still.vv ?_)
    clear hK K
    clear hHeld
    go_wp2
    go_roundw
    case rel => exact ⟨1, by go_num, by omega, by rw [HT.out]; simp [xd5, xfu, xew], bcl BV2.out hwz hb1, Nat.lt_of_lt_of_le hwz BV2.out.size, hd (WD.out.trans (BV2.out.mono WD.out.size))⟩
    case measure => simp [intOf]; omega
   .have hk0 : (0 : Int) < k := by omega
    have HK0 : Hid (¬ k = 0) := hd om
    go_wp2
    refine xad (S := fun w' => w'.cell? ⟨w.heap.size, 0, none⟩ = some (.slice (some ⟨pb, po, none⟩) L.length lc) /\ w'.cell? ⟨pb, po + k * 2, none⟩ = some (.int .i64 ef) /\ w'.cell? ⟨pb, po + k * 2 + 1, none⟩ = some (.int .i64 et)) 18 kr ⟨hb1, c0, c1⟩ (fun hHeld => ?_)
    refine Still.t 0 [] hHeld ?_
    refine Still.t 1 [] hHeld ?_
    refine Still.t 2 [] hHeld ?_
    refine Still.t 3 [] hHeld ?_
    refine Still.t 4 [] hHeld ?_
    refine Still.t 5 [] hHeld ?_
    refine Still.t 6 [] hHeld ?_
    refine Still.t 10 [] hHeld ?_
    refine Still.t 11 [] hHeld ?_
    refine Still.t 12 [] hHeld ?_
    refine Still.t 13 [] hHeld ?_
    refine Still.t 14 [] hHeld ?_
    refine Still.t 15 [] hHeld ?_
    refine Still.o 7 rfl rfl (fun K hK => ?_)
    refine xap 62 _ _ rfl xgx #[.int .i64 ef] ev ((xe6 ef (by first | exact H1.out | exact H2.out) _).mono ?_)
    rintro e V1 ⟨rfl, bb1⟩
    have BV1 : Hid (Below wr.heap.size wr V1) := hd ((Below.refl _ _).drew.trans bb1)
    refine ⟨_, rfl, hK _ _ (fun _ => ⟨bcl BV1.out (by show w.heap.size < wr.heap.size; omega) hb1, bcl BV1.out (by show pb < wr.heap.size; omega) c0, bcl BV1.out (by show pb < wr.heap.size; omega) c1⟩) (fun hh => ?_)⟩
    have hHeld := hh (by decide)
    clear hK K hh
    try simp only [Act.put, l1, l2, l3, l4, l5, l6]
    refine Still.t 8 [] hHeld ?_
    refine Still.t 9 [] hHeld ?_
    refine Still.o 16 rfl rfl (fun K hK => ?_)
    refine xap 62 _ _ rfl xgx #[.int .i64 et] ev ((xe6 et (by first | exact H1.out | exact H2.out) _).mono ?_)
    rintro e V2 ⟨rfl, bb2⟩
    have BV2 : Hid (Below wr.heap.size wr V2) := hd (BV1.out.trans (bb2.mono BV1.out.size))
    refine ⟨_, rfl, hK _ _ (fun _ => ⟨bcl BV2.out (by show w.heap.size < wr.heap.size; omega) hb1, bcl BV2.out (by show pb < wr.heap.size; omega) c0, bcl BV2.out (by show pb < wr.heap.size; omega) c1⟩) (fun hh => ?_)⟩
    have hHeld := hh (by decide)
    clear hK K hh
    try simp only [Act.put, l1, l2, l3, l4, l5, l6]
    refine Still.t 17 [] hHeld ?_
    refine Still.o 18 rfl rfl (fun K hK => ?_)
    go_simp
    refine hK _ _ ab (fun _ => Still.vv ?_)
    clear hK K
    clear hHeld
    go_wp2
    go_roundw
    case rel => exact ⟨k + 1, by go_num, by omega, by rw [HT.out, if_neg HK0.out]; simp [xd5, xfu, xew], bcl BV2.out hwz hb1, Nat.lt_of_lt_of_le hwz BV2.out.size, hd (WD.out.trans (BV2.out.mono WD.out.size))⟩
    case measure => simp [intOf]; omega
  .obtain rfl : k = L.length := by omega
   have hli : ¬ ((L.length : Int) < L.length) := by omega
   go_wp2
   go_ret
   exact ⟨rfl, WD.out⟩
theorem xfw (L : List Edg) (v u : Value) (w : World) (hL : Sl w 2 v L.length (xbe Edg.cells L)) (hM : Sl w 2 u L.length (xbe Edg.cells L)) (hl : L.length <= 1000) :
  Calls Tryz.prog 10 #[.agg #[v], .agg #[u]] w fun e w' => e = .returned (.bool true) /\ Below w.heap.size w w' := by
 obtain ⟨la, lc, rfl⟩ := hL.form
 obtain ⟨ma, mc, rfl⟩ := hM.form
 have HL := hd hL
 have HM := hd hM
 have B0 : Hid (Below w.heap.size w ((w.alloc (.cells #[.slice la L.length lc] 27)).alloc (.cells #[.slice ma L.length mc] 27))) := hd (by exact up0)
 clear hL hM
 go_enter Tryz.func10, Tryz.ntmps10
 go_wp2
 go_loopw [5] (fun i wr => ∃ k : Nat, i = .int .i64 k /\ k <= L.length /\ wr.cell? ⟨w.heap.size, 0, none⟩ = some (.slice la L.length lc) /\ wr.cell? ⟨w.heap.size + 1, 0, none⟩ = some (.slice ma L.length mc) /\ w.heap.size + 1 < wr.heap.size /\ Hid (Below w.heap.size w wr)) (fun i _ => L.length - (intOf i).toNat)
 case atStart => exact ⟨0, rfl, Nat.zero_le _, by simp, by simp, by simp, B0⟩
 case round =>
  obtain ⟨k, rfl, hk, hb1, hb2, hwz, WD⟩ := hrel
  by_cases hlt : k < L.length
  .have hli : (k : Int) < L.length := by omega
   obtain ⟨pb, po, pc', e1, hpc, hpb, hpx⟩ := HL.out.open om
   cases e1
   obtain ⟨qb, qo, qc', e1, hqc, hqb, hqx⟩ := HM.out.open om
   cases e1
   obtain ⟨c0, c1⟩ := xbq hpx k hlt
   have c0 := bcl WD.out hpb c0
   have c1 := bcl WD.out hpb c1
   obtain ⟨d0, d1⟩ := xbq hqx k hlt
   have d0 := bcl WD.out hqb d0
   have d1 := bcl WD.out hqb d1
   generalize L[k] = ed at c0 c1 d0 d1
   obtain ⟨ef, et⟩ := ed
   simp only at c0 c1 d0 d1
   clear hpx hqx hpb hqb
   go_wp2
   refine xad (S := fun w' => w'.cell? ⟨w.heap.size, 0, none⟩ = some (.slice (some ⟨pb, po, none⟩) L.length lc) /\ w'.cell? ⟨pb, po + k * 2, none⟩ = some (.int .i64 ef) /\ w'.cell? ⟨pb, po + k * 2 + 1, none⟩ = some (.int .i64 et) /\ w'.cell? ⟨w.heap.size + 1, 0, none⟩ = some (.slice (some ⟨qb, qo, none⟩) L.length mc) /\ w'.cell? ⟨qb, qo + k * 2, none⟩ = some (.int .i64 ef) /\ w'.cell? ⟨qb, qo + k * 2 + 1, none⟩ = some (.int .i64 et)) 10 kr ⟨hb1, c0, c1, hb2, d0, d1⟩ (fun hHeld => ?_)
   refine Still.t 0 [4, 3, 1] hHeld ?_
   refine Still.t 1 [4, 3] hHeld ?_
   refine Still.t 2 [4, 3] hHeld ?_
   refine Still.t 3 [4] hHeld ?_
   refine Still.t 4 [] hHeld ?_
   refine Still.t 5 [9, 8, 6] hHeld ?_
   refine Still.t 6 [9, 8] hHeld ?_
   refine Still.t 7 [9, 8] hHeld ?_
   refine Still.t 8 [9] hHeld ?_
   refine Still.t 9 [] hHeld ?_
   refine Still.o 10 rfl rfl (fun K hK => ?_)
   go_simp
   refine hK _ _ ab (fun _ => Still.vv ?_)
   clear hK K
   clear hHeld
   go_wp2
   go_roundw
   case rel => exact ⟨k + 1, by go_num, by omega, hb1, hb2, hwz, hd (WD.out.trans (Below.refl _ _).drew)⟩
   case measure => simp [intOf]; omega
  .obtain rfl : k = L.length := by omega
   have hli : ¬ ((L.length : Int) < L.length) := by omega
   go_wp2
   go_ret
   exact ⟨rfl, WD.out⟩
theorem xty : xav 118 := xa8 Tryz.func118 kr kr
theorem xld (n : Nat) (hn : n <= 4) (L : List Edg) (vL : Value) (w : World) (hL : Sl w 2 vL L.length (xbe Edg.cells L)) :
  Calls Tryz.prog 68 #[.int .i64 (n : Int), .agg #[vL]] w fun e w' => e = .returned (.bool (xsy n L)) /\ Below w.heap.size w w' := by
 obtain ⟨pa, pc, rfl⟩ := hL.form
 have HL := hd hL
 clear hL
 go_enter Tryz.func68, Tryz.ntmps68
 go_wp2
 go_loopw [10] (fun i wr => ∃ k : Nat, i = .int .i64 k /\ k <= L.length /\ Hid (xio n L k) /\ wr.cell? ⟨w.heap.size, 0, none⟩ = some (.slice pa L.length pc) /\ w.heap.size < wr.heap.size /\ Hid (Below w.heap.size w wr)) (fun i _ => L.length - (intOf i).toNat)
 case atStart => exact ⟨0, rfl, Nat.zero_le _, hd (xm1 _ _), by simp, by simp, up0⟩
 case round =>
  obtain ⟨k, rfl, hk, HP, hb0, hws, HT⟩ := hrel
  by_cases hlt : k < L.length
  .have hli : (k : Int) < L.length := by omega
   have hk16 := xhq hn HP.out hk
   obtain ⟨pb, po, pc', e1, hpc, hpb, hpx⟩ := (HL.out.up HT.out).open om
   cases e1
   obtain ⟨c0, c1⟩ := xbq hpx k hlt
   have HB1 := hd (xmi (n := n) hlt)
   have HB2 := hd (xmy (n := n) hlt)
   have HST := hd (fun h1 h2 => xmu HP.out hlt h1 h2)
   have HPX := hd hpx
   clear hpx
   generalize hEd : L[k] = ed at c0 c1 HB1 HB2 HST
   obtain ⟨ef, et⟩ := ed
   have HEd := hd hEd
   clear hEd
   simp only at c0 c1
   unfold x5i at HB1 HST
   simp only at HB1 HST
   cases hA : xaf ef 0 ((n : Int) - 1) with
   | false =>
    have HBAD := hd (HB1.out (by rw [hA]; simp))
    clear HB1 HB2 HST
    skip
    go_wp2_with (go_at_call 117; refine (xc5 _ _ _).mono ?_; rintro e w' ⟨rfl, rfl⟩)
    go_ret
    exact ⟨xaw HBAD.out.symm, HT.out.trans (Below.alloc (Below.refl _ _) HT.out.size _)⟩
   | true =>
    cases hB : xaf et 0 ((n : Int) - 1) with
    | false =>
     have HBAD := hd (HB1.out (by rw [hB]; simp))
     clear HB1 HB2 HST
     skip
     go_wp2_with (go_at_call 117; refine (xc5 _ _ _).mono ?_; rintro e w' ⟨rfl, rfl⟩)
     go_ret
     exact ⟨xaw HBAD.out.symm, HT.out.trans (Below.alloc (Below.refl _ _) HT.out.size _)⟩
    | true =>
     by_cases hC : ef = et
     .have HBAD := hd (HB1.out (by simp [hC]))
      subst hC
      clear HB1 HB2 HST
      skip
      go_wp2_with (go_at_call 117; refine (xc5 _ _ _).mono ?_; rintro e w' ⟨rfl, rfl⟩)
      go_ret
      exact ⟨xaw HBAD.out.symm, HT.out.trans (Below.alloc (Below.refl _ _) HT.out.size _)⟩
     .have hC' : (ef == et) = false := by simpa using hC
      rcases Nat.eq_zero_or_pos k with e0 | h0
      .subst e0
       have HS2 := hd (HST.out ⟨hA, hB, hC⟩ (fun h => by omega))
       clear HB1 HB2 HST hC
       simp only [Nat.zero_mul, Nat.add_zero, Nat.zero_add] at c0 c1
       go_upto_region 6 with (go_at_call 117; refine (xc5 _ _ _).mono ?_; rintro e w' ⟨rfl, rfl⟩)
       have HX : Hid (Below wr.heap.size wr (wr.alloc (.cells #[.int .i64 ef, .int .i64 et] 53))) := hd ((Below.refl _ _).alloc (Nat.le_refl _) _)
       have x0 : (wr.alloc (.cells #[.int .i64 ef, .int .i64 et] 53)).cell? ⟨wr.heap.size, 0, none⟩ = some (.int .i64 ef) := by simp
       have x1 : (wr.alloc (.cells #[.int .i64 ef, .int .i64 et] 53)).cell? ⟨wr.heap.size, 1, none⟩ = some (.int .i64 et) := by simp
       have hxs : wr.heap.size < (wr.alloc (.cells #[.int .i64 ef, .int .i64 et] 53)).heap.size := by simp
       have y0 := bcl HX.out om hb0
       generalize wr.alloc (.cells #[.int .i64 ef, .int .i64 et] 53) = X at HX x0 x1 hxs y0 ⊢
       refine xad (S := fun w' => w'.cell? ⟨w.heap.size, 0, none⟩ = some (.slice (some ⟨pb, po, none⟩) L.length pc)) 12 kr y0 (fun hHeld => ?_)
       refine Still.t 0 [2, 1] hHeld ?_
       refine Still.t 1 [2] hHeld ?_
       refine Still.t 2 [] hHeld ?_
       refine Still.y 3 [11, 10, 8, 7, 4] rfl (Or.inr ⟨by rfl, rfl⟩) hHeld ?_
       refine Still.y 4 [11, 10, 8, 7] rfl (Or.inr ⟨by rfl, rfl⟩) hHeld ?_
       refine Still.y 5 [11, 10, 8, 7, 6] rfl (Or.inr ⟨by rfl, rfl⟩) hHeld ?_
       refine Still.y 6 [11, 10, 8, 7] rfl (Or.inr ⟨by rfl, rfl⟩) hHeld ?_
       refine Still.y 7 [11, 10, 8] rfl (Or.inr ⟨by rfl, rfl⟩) hHeld ?_
       refine Still.y 8 [11, 10] rfl (Or.inr ⟨by rfl, rfl⟩) hHeld ?_
       refine Still.y 9 [11, 10] rfl (Or.inr ⟨by rfl, rfl⟩) hHeld ?_
       refine Still.y 10 [11] rfl (Or.inr ⟨by rfl, rfl⟩) hHeld ?_
       refine Still.y 11 [] rfl (Or.inr ⟨by rfl, rfl⟩) hHeld ?_
       refine Still.o 12 rfl rfl (fun K hK => ?_)
       go_simp
       refine hK _ _ ab (fun _ => Still.vv ?_)
       clear hK K
       clear hHeld
       have HV : Hid (Below wr.heap.size wr X.drew) := hd (HX.out.trans (Below.refl _ _).drew)
       go_wp2
       go_roundw
       case rel => exact ⟨1, by go_num, by omega, HS2, bcl HV.out hws hb0, Nat.lt_of_lt_of_le hws HV.out.size, hd (HT.out.trans (HV.out.mono HT.out.size))⟩
       case measure => simp [intOf]; omega
      .have hk0 : (0 : Int) < k := by omega
       obtain ⟨d0, d1⟩ := xbq HPX.out (k - 1) om
       cases hls : xhk (L[k - 1]'om) ⟨ef, et⟩ with
       | true =>
        have HS2 := hd (HST.out ⟨hA, hB, hC⟩ (fun _ => hls))
        clear HB1 HB2 HST hC
        generalize (L[k - 1]'om) = pd at d0 d1 hls
        obtain ⟨pf, pt⟩ := pd
        simp only at d0 d1
        have hwr : IntKind.i64.wrap ((k : Int) - 1) = ((k - 1 : Nat) : Int) := by simp [IntKind.wrap, IntKind.bits, IntKind.signed]; omega
        have hkl : ((k - 1 : Nat) : Int) < L.length := by omega
        generalize k - 1 = j at d0 d1 hwr hkl
        go_upto_region 6 with (go_at_call 117; refine (xc5 _ _ _).mono ?_; rintro e w' ⟨rfl, rfl⟩)
        have HX : Hid (Below wr.heap.size wr (wr.alloc (.cells #[.int .i64 ef, .int .i64 et] 53))) := hd ((Below.refl _ _).alloc (Nat.le_refl _) _)
        have x0 : (wr.alloc (.cells #[.int .i64 ef, .int .i64 et] 53)).cell? ⟨wr.heap.size, 0, none⟩ = some (.int .i64 ef) := by simp
        have x1 : (wr.alloc (.cells #[.int .i64 ef, .int .i64 et] 53)).cell? ⟨wr.heap.size, 1, none⟩ = some (.int .i64 et) := by simp
        have hxs : wr.heap.size < (wr.alloc (.cells #[.int .i64 ef, .int .i64 et] 53)).heap.size := by simp
        have y0 := bcl HX.out om hb0
        have y1 := bcl HX.out om d0
        have y2 := bcl HX.out om d1
        generalize wr.alloc (.cells #[.int .i64 ef, .int .i64 et] 53) = X at HX x0 x1 hxs y0 y1 y2 ⊢
        refine xad (S := fun w' => w'.cell? ⟨wr.heap.size, 0, none⟩ = some (.int .i64 ef) /\ w'.cell? ⟨wr.heap.size, 1, none⟩ = some (.int .i64 et) /\ w'.cell? ⟨w.heap.size, 0, none⟩ = some (.slice (some ⟨pb, po, none⟩) L.length pc) /\ w'.cell? ⟨pb, po + j * 2, none⟩ = some (.int .i64 pf) /\ w'.cell? ⟨pb, po + j * 2 + 1, none⟩ = some (.int .i64 pt)) 12 kr ⟨x0, x1, y0, y1, y2⟩ (fun hHeld => ?_)
        refine Still.t 0 [2, 1] hHeld ?_
        refine Still.t 1 [2] hHeld ?_
        refine Still.t 2 [] hHeld ?_
        refine Still.t 3 [11, 10, 8, 7, 4] hHeld ?_
        refine Still.t 4 [11, 10, 8, 7] hHeld ?_
        refine Still.t 5 [11, 10, 8, 7, 6] hHeld ?_
        refine Still.t 6 [11, 10, 8, 7] hHeld ?_
        refine Still.t 7 [11, 10, 8] hHeld ?_
        refine Still.t 8 [11, 10] hHeld ?_
        refine Still.t 9 [11, 10] hHeld ?_
        refine Still.all (rs := [10]) kr (by simp) (Still.oneG (i := 10) rfl (by rfl) (fun K hK => ?_) (by simp))
        refine xap 118 _ _ rfl xty #[(⟨pf, pt⟩ : Edg).v, (⟨ef, et⟩ : Edg).v] (by first | rfl | simp [Act.eval, Act.put, Edg.v]) ((xtd _ _ _).mono ?_)
        rintro e V1 ⟨rfl, b5⟩
        have HV : Hid (Below wr.heap.size wr V1) := hd ((HX.out.trans (Below.refl _ _).drew).trans (b5.mono HX.out.size))
        refine ⟨_, rfl, hK _ _ (fun _ => ⟨bcl b5 hxs x0, bcl b5 hxs x1, bcl b5 (by show w.heap.size < X.heap.size; omega) y0, bcl b5 (by show pb < X.heap.size; omega) y1, bcl b5 (by show pb < X.heap.size; omega) y2⟩) (fun hh => ?_)⟩
        have hHeld := hh (by decide)
        clear hK K hh b5
        try simp only [Act.put, l1, l2, l3, l4, l5, l6]
        rw [hls]
        refine Still.t 11 [] hHeld ?_
        refine Still.o 12 rfl rfl (fun K hK => ?_)
        go_simp
        refine hK _ _ ab (fun _ => Still.vv ?_)
        clear hK K
        clear hHeld
        go_wp2
        go_roundw
        case rel => exact ⟨k + 1, by go_num, by omega, HS2, bcl HV.out hws hb0, Nat.lt_of_lt_of_le hws HV.out.size, hd (HT.out.trans (HV.out.mono HT.out.size))⟩
        case measure => simp [intOf]; omega
       | false =>
        have HBAD := hd (HB2.out h0 hls)
        clear HB1 HB2 HST hC
        generalize (L[k - 1]'om) = pd at d0 d1 hls
        obtain ⟨pf, pt⟩ := pd
        simp only at d0 d1
        have hwr : IntKind.i64.wrap ((k : Int) - 1) = ((k - 1 : Nat) : Int) := by simp [IntKind.wrap, IntKind.bits, IntKind.signed]; omega
        have hkl : ((k - 1 : Nat) : Int) < L.length := by omega
        generalize k - 1 = j at d0 d1 hwr hkl
        go_upto_region 6 with (go_at_call 117; refine (xc5 _ _ _).mono ?_; rintro e w' ⟨rfl, rfl⟩)
        have HX : Hid (Below wr.heap.size wr (wr.alloc (.cells #[.int .i64 ef, .int .i64 et] 53))) := hd ((Below.refl _ _).alloc (Nat.le_refl _) _)
        have x0 : (wr.alloc (.cells #[.int .i64 ef, .int .i64 et] 53)).cell? ⟨wr.heap.size, 0, none⟩ = some (.int .i64 ef) := by simp
        have x1 : (wr.alloc (.cells #[.int .i64 ef, .int .i64 et] 53)).cell? ⟨wr.heap.size, 1, none⟩ = some (.int .i64 et) := by simp
        have hxs : wr.heap.size < (wr.alloc (.cells #[.int .i64 ef, .int .i64 et] 53)).heap.size := by simp
        have y0 := bcl HX.out om hb0
        have y1 := bcl HX.out om d0
        have y2 := bcl HX.out om d1
        generalize wr.alloc (.cells #[.int .i64 ef, .int .i64 et] 53) = X at HX x0 x1 hxs y0 y1 y2 ⊢
        refine xad (S := fun w' => w'.cell? ⟨wr.heap.size, 0, none⟩ = some (.int .i64 ef) /\ w'.cell? ⟨wr.heap.size, 1, none⟩ = some (.int .i64 et) /\ w'.cell? ⟨w.heap.size, 0, none⟩ = some (.slice (some ⟨pb, po, none⟩) L.length pc) /\ w'.cell? ⟨pb, po + j * 2, none⟩ = some (.int .i64 pf) /\ w'.cell? ⟨pb, po + j * 2 + 1, none⟩ = some (.int .i64 pt)) 12 kr ⟨x0, x1, y0, y1, y2⟩ (fun hHeld => ?_)
        refine Still.t 0 [2, 1] hHeld ?_
        refine Still.t 1 [2] hHeld ?_
        refine Still.t 2 [] hHeld ?_
        refine Still.t 3 [11, 10, 8, 7, 4] hHeld ?_
        refine Still.t 4 [11, 10, 8, 7] hHeld ?_
        refine Still.t 5 [11, 10, 8, 7, 6] hHeld ?_
        refine Still.t 6 [11, 10, 8, 7] hHeld ?_
        refine Still.t 7 [11, 10, 8] hHeld ?_
        refine Still.t 8 [11, 10] hHeld ?_
        refine Still.t 9 [11, 10] hHeld ?_
        refine Still.all (rs := [10]) kr (by simp) (Still.oneG (i := 10) rfl (by rfl) (fun K hK => ?_) (by simp))
        refine xap 118 _ _ rfl xty #[(⟨pf, pt⟩ : Edg).v, (⟨ef, et⟩ : Edg).v] (by first | rfl | simp [Act.eval, Act.put, Edg.v]) ((xtd _ _ _).mono ?_)
        rintro e V1 ⟨rfl, b5⟩
        have HV : Hid (Below wr.heap.size wr V1) := hd ((HX.out.trans (Below.refl _ _).drew).trans (b5.mono HX.out.size))
        refine ⟨_, rfl, hK _ _ (fun _ => ⟨bcl b5 hxs x0, bcl b5 hxs x1, bcl b5 (by show w.heap.size < X.heap.size; omega) y0, bcl b5 (by show pb < X.heap.size; omega) y1, bcl b5 (by show pb < X.heap.size; omega) y2⟩) (fun hh => ?_)⟩
        have hHeld := hh (by decide)
        clear hK K hh b5
        try simp only [Act.put, l1, l2, l3, l4, l5, l6]
        rw [hls]
        refine Still.t 11 [] hHeld ?_
        refine Still.o 12 rfl rfl (fun K hK => ?_)
        go_simp
        refine hK _ _ ab (fun _ => Still.vv ?_)
        clear hK K
        clear hHeld
        go_wp2
        go_ret
        exact ⟨xaw HBAD.out.symm, HT.out.trans (HV.out.mono HT.out.size)⟩
  .have hli : ¬ (k : Int) < L.length := by omega
   have HG := hd (xpe HP.out hlt)
   go_wp2
   go_ret
   exact ⟨xaw HG.out.symm, HT.out⟩
noncomputable def xiq (S : SysD) (L : List Edg) : Int := if xb3 S = 0 then (if xsy S.parts.length L = true then 0 else 1) else xb3 S
theorem xrh (S : SysD) (L : List Edg) (vp vc vs vL : Value) (w : World) (he : Env w) (hS : Sys w vp vc vs S) (hL : Sl w 2 vL L.length (xbe Edg.cells L)) :
  Calls Tryz.prog 34 #[.agg #[vp, vc, vs], .agg #[vL]] w fun e w' => e = .returned (.int .i64 (xiq S L)) /\ Below w.heap.size w w' := by
 generalize hc : xiq S L = c
 obtain ⟨pa, pc, rfl⟩ := hS.p.form
 obtain ⟨ca, cc, rfl⟩ := hS.c.form
 obtain ⟨sa, sc, rfl⟩ := hS.s.form
 obtain ⟨la, lc, rfl⟩ := hL.form
 unfold xiq at hc
 generalize hr : xb3 S = r at hc
 have HS := hd hS
 have HR := hd hr
 have HL := hd hL
 clear hS hr hL
 go_enter Tryz.func34, Tryz.ntmps34
 go_wp2_with fail
 refine (xcc S _ _ _ _ (he.up up0) (HS.out.up up0)).mono ?_
 rw [HR.out]
 rintro e w1 ⟨rfl, bb⟩
 have k0 := (((xci w (.slice pa S.parts.length pc) (.slice ca S.chans.length cc) (.slice sa S.slots.length sc) 39 _ rfl).up ((Below.refl _ _).alloc (Nat.le_refl _) (.cells #[.slice la L.length lc] 27))).up bb).p
 have k1 : w1.cell? ⟨w.heap.size + 1, 0, none⟩ = some (.slice la L.length lc) := bcl bb (by simp) (by simp)
 have D := hd (Below.trans (show Below w.heap.size w _ from up0) (bb.mono so))
 clear bb
 by_cases h0 : r = 0
 .subst h0
  rw [if_pos rfl] at hc
  have sm := (xgv HR.out).1
  go_wp2_with fail
  refine (xld S.parts.length sm L _ _ (HL.out.up D.out)).mono ?_
  rintro e w2 ⟨rfl, b2⟩
  have D2 := hd (D.out.trans (b2.mono D.out.size))
  clear b2 D k0 k1
  cases hw : xsy S.parts.length L
  all_goals
   rw [hw] at hc
   simp at hc
   subst hc
   go_wp2
   go_ret
   exact ⟨rfl, D2.out⟩
 .have h0' : (r != 0) = true := by simpa using h0
  rw [if_neg h0] at hc
  subst hc
  clear h0
  go_wp2
  go_ret
  exact ⟨rfl, D.out⟩
end Go.Proofs.YtbkdoohhdkahiaaGreatDoor

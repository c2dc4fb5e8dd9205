/- code.Puts and Gets; the program that the laws begin with; SameCode of the same. -/
import Derived.Test.YtbkdoohhdkahiaaGreatDoorJ2
import Derived.Deep.AppendLies
import Derived.Deep.LoopGhost
import Derived.Test.YtbkdoohhdkahiaaGreatDoorJ0
import Derived.Shelf.SlSortCmp.NoneTotal
namespace Go.Proofs.YtbkdoohhdkahiaaGreatDoor
set_option linter.unusedSimpArgs false
set_option linter.unusedVariables false
set_option maxRecDepth 100000
set_option maxHeartbeats 8000000
open Go.RowKit Go.Sort
variable {w w' wr : World} {v v' : Value} {o : Oper} {i : Ins} {A b off : Nat} {l : List Ins} {op : Int} {a : Act} {Q : Exit -> Act -> World -> Prop} {ops : Array Oper}
def xxg (l : List Ins) (op : Int) (c : Nat) : Bool := l.any fun i => i.op == op && i.n == (c : Int)
theorem xps (l : List Ins) (i : Ins) (op : Int) (c : Nat) : xxg (l ++ [i]) op c = (xxg l op c || (i.op == op && i.n == (c : Int))) := by simp [xxg]
theorem xvg {α : Type} (l : List α) (k : Nat) (h : k < l.length) : l.take (k + 1) = l.take k ++ [l[k]] := List.take_succ_eq_append_getElem h
def xdw (l : List Ins) (op : Int) (m : Nat) : List Int := ((List.range m).filter (xxg l op)).map fun c : Nat => (c : Int)
theorem xvh (l : List Ins) (op : Int) (m : Nat) : xdw l op (m + 1) = xdw l op m ++ (if xxg l op m then [(m : Int)] else []) := by
 unfold xdw
 rw [List.range_succ, List.filter_append, List.map_append]
 congr 1
 cases h : xxg l op m <;> simp [h]
theorem xoy (l : List Ins) (op : Int) (m : Nat) : (xdw l op m).length <= m := by
 unfold xdw
 rw [List.length_map]
 exact Nat.le_trans (List.length_filter_le _ _) (by simp)
theorem xu8 (cs : Array Value) (c : Nat) (v : Value) (h : cs[c]? = some v) (hc : c < 6) (w : World) : (Instr.index 278 (.agg cs) (.int .i64 c)).run Tryz.prog w = .ok v w := by
 have hc' : (c : Int) < 6 := by omega
 simp [Instr.index, run_underlying Tryz.underlying278, asIntOf, go_sem, hc', h]
 intro h6; omega
theorem x5d (f : Nat -> Bool) (c : Nat) (h : c < 6) : (#[Value.bool (f 0), .bool (f 1), .bool (f 2), .bool (f 3), .bool (f 4), .bool (f 5)])[c]? = some (.bool (f c)) := by
 match c, h with
 | 0, _ => rfl
 | 1, _ => rfl
 | 2, _ => rfl
 | 3, _ => rfl
 | 4, _ => rfl
 | 5, _ => rfl
theorem xrd : (Tryz.prog.info? 3).map (fun i => (i.zero, i.size, i.bytes)) = some (some (.int .i64 0), 1, 8) := by kernel_rfl
theorem xfe (z : Int) : ∀ u ∈ [Value.int .i64 z], u.oneCell' = true := by
 intro u hu; simp at hu; subst hu; rfl
theorem xlm {w1 : World} {zs : List Int} {z : Int} {o : Obj} (hbel : Below w.heap.size w wr) (hown0 : wr.ownsRow w.heap.size 3 1 v zs.length (xar zs))
  (hown1 : w1.ownsRow w.heap.size 3 1 v' (zs.length + 1) (xar zs ++ [.int .i64 z])) (hgrow : (wr.alloc o).grownBy w1 v.ownBlock) :
  w1.ownsRow w.heap.size 3 1 v' (zs ++ [z]).length (xar (zs ++ [z])) /\ Below w.heap.size w w1 := by
 refine ⟨by simpa [xar] using hown1, ?_⟩
 exact (hbel.alloc hbel.size o).grown hgrow (by have := hbel.size; simp; omega) (xab hown0)
theorem xh8 (h : i.chk = 0) (ho : i.op = 12 \/ i.op = 13) : 0 <= i.n /\ i.n < 6 := by
 have hN : xoa i.op.toNat = true := by rcases ho with e | e <;> rw [e] <;> rfl
 have hL : xrz i.op.toNat = 0 := by rcases ho with e | e <;> rw [e] <;> rfl
 have hH : xql i.op.toNat = 5 := by rcases ho with e | e <;> rw [e] <;> rfl
 unfold Ins.chk xob at h
 rw [if_neg om] at h
 unfold xdd at h
 rw [hN, hL, hH] at h
 split at h
 .omega
 .rename_i hc
  simp only [Bool.or_eq_true, Bool.and_eq_true, Bool.true_and, decide_eq_true_eq, not_or] at hc
  omega
structure Marks (w wr : World) (A : Nat) (l : List Ins) (op : Int) : Prop where
 c : ∀ j, j < 6 -> wr.cell? ⟨A, j, none⟩ = some (.bool (xxg l op j))
 f : ∀ j, wr.frozen? ⟨A, j, none⟩ = false
 lt : A < wr.heap.size
 ge : w.heap.size <= A
 up : Below w.heap.size w wr
theorem Marks.go {w2 : World} (h : Marks w wr A l op) (hb : Below wr.heap.size wr w2) : Marks w w2 A l op :=
 ⟨fun j hj => bcl hb h.lt (h.c j hj), fun j => bfr hb h.lt (h.f j), Nat.lt_of_lt_of_le h.lt hb.size, h.ge, h.up.trans (hb.mono h.up.size)⟩
theorem Marks.hit (h : Marks w wr A l op) (hop : (i.op == op) = true) (m : Nat) (hm : i.n = m) (h6 : m < 6) : Marks w (wr.setCell ⟨A, m, none⟩ (.bool true)) A (l ++ [i]) op := by
 refine ⟨fun j hj => ?_, fun j => x5o (h.f j), by rw [xba]; exact h.lt, h.ge, h.up.setCell h.ge _⟩
 rw [xps, hop, hm]
 by_cases e : j = m
 .subst e
  rw [xym (h.c j hj)]; simp
 .rw [xlw (Or.inr e) (h.c j hj)]
  have : ((m : Int) == (j : Int)) = false := by simp; omega
  rw [this]; simp
theorem Marks.miss (h : Marks w wr A l op) (hop : (i.op == op) = false) : Marks w wr A (l ++ [i]) op :=
 ⟨fun j hj => by rw [xps, hop]; simpa using h.c j hj, h.f, h.lt, h.ge, h.up⟩
theorem xji (l : List Ins) (op : Int) (hop : op = 12 \/ op = 13) (v : Value) (w : World) (he : Env w) (hS : Sl w 4 v l.length (xck l)) (hc0 : xd3 l = 0) :
  Calls Tryz.prog 176 #[v, .int .i64 op] w fun e w' => ∃ v', e = .returned (.tuple #[v', .int .i64 0]) /\ w'.ownsRow w.heap.size 3 1 v' (xdw l op 6).length (xar (xdw l op 6)) /\ Below w.heap.size w w' := by
 obtain ⟨hl1, hl20, hz⟩ := xem hc0
 obtain ⟨i0, hi, hz0, hz1, hz2⟩ := xaj xrd
 obtain ⟨b, off, cap, rfl, hcap, hbw, hc⟩ := hS.open om
 have HS := hd hS
 have HC := hd hc
 have HZ := hd hz
 have H0 := hd hc0
 have HO := hd hop
 clear hS hc hz hc0 hop
 go_enter Tryz.func176, Tryz.ntmps176
 go_wp2_with (go_at_call 77; refine (xfc l _ _ he HS.out).mono ?_; rw [H0.out]; rintro e w1 ⟨rfl, hb1⟩; refine Hid.out ?_)
 have hbw1 : b < w1.heap.size := Nat.lt_of_lt_of_le hbw hb1.size
 have HC1 : Hid (∀ j u, (xck l)[j]? = some u -> w1.cell? ⟨b, off + j, none⟩ = some u) := fun j u hj => bcl hb1 hbw (HC.out j u hj)
 have HM : Hid (Marks w (w1.alloc (.cells #[.bool false, .bool false, .bool false, .bool false, .bool false, .bool false] 278)) w1.heap.size [] op) := by
  refine ⟨fun j hj => ?_, fun j => by simp, by simp, hb1.size, hb1.alloc hb1.size _⟩
  rw [World.cell?_alloc_new]
  match j, hj with
  | 0, _ => rfl
  | 1, _ => rfl
  | 2, _ => rfl
  | 3, _ => rfl
  | 4, _ => rfl
  | 5, _ => rfl
 clear hb1
 refine hd ?_
 go_wp2
 go_loopw [20] (fun i wr => ∃ k : Nat, i = .int .i64 k /\ k <= l.length /\ Hid (Marks w wr w1.heap.size (l.take k) op) /\ Hid (Below w1.heap.size w1 wr)) (fun i _ => l.length - (intOf i).toNat)
 case atStart => exact ⟨0, rfl, Nat.zero_le _, HM, Below.alloc (Below.refl _ _) (Nat.le_refl _) _⟩
 case round =>
  obtain ⟨k, rfl, hk, HK, HB⟩ := hrel
  by_cases hlt : k < l.length
  .obtain ⟨c0, c1, c2, c3⟩ := xdm HC1.out k hlt
   have c0 := bcl HB.out hbw1 c0
   have c1 := bcl HB.out hbw1 c1
   have c2 := bcl HB.out hbw1 c2
   have c3 := bcl HB.out hbw1 c3
   have hbr : b < wr.heap.size := Nat.lt_of_lt_of_le hbw1 HB.out.size
   have hAr := HK.out.lt
   have i1 : (k : Int) < l.length := by omega
   have HT := hd (xvg l k hlt)
   generalize hq : (l[k].op == op) = q
   cases q
   .have HM2 := hd ((HK.out.miss hq).go (w2 := wr.alloc (.cells #[.int .i64 l[k].op, .int .i64 l[k].a, .int .i64 l[k].b, .int .i64 l[k].n] 124)) ((Below.refl _ _).alloc (Nat.le_refl _) _))
    go_wp2
    go_roundw
    case rel => exact ⟨k + 1, by go_num, by omega, by rw [HT.out]; exact HM2, HB.out.alloc HB.out.size _⟩
    case measure => simp [intOf]; omega
   .obtain ⟨m, hm, hm6⟩ : ∃ m : Nat, l[k].n = m /\ m < 6 := by
     have e : l[k].op = op := by simpa using hq
     have := xh8 (HZ.out k hlt) (by rw [e]; exact HO.out)
     exact ⟨l[k].n.toNat, by omega, by omega⟩
    have HM2 := hd ((HK.out.hit hq m hm hm6).go (w2 := (wr.setCell ⟨w1.heap.size, m, none⟩ (.bool true)).alloc (.cells #[.int .i64 l[k].op, .int .i64 l[k].a, .int .i64 l[k].b, .int .i64 (m : Int)] 124)) ((Below.refl _ _).alloc (Nat.le_refl _) _))
    rw [hm] at c3
    have fA := HK.out.f m
    have cA := HK.out.c m hm6
    have i2 : (m : Int) < 6 := by omega
    have i3 : (0 : Int) <= m := by omega
    clear hm
    go_wp2
    go_roundw
    case rel => exact ⟨k + 1, by go_num, by omega, by rw [HT.out]; exact HM2, (HB.out.setCell (Nat.le_refl _) _).alloc (by rw [xba]; exact HB.out.size) _⟩
    case measure => simp [intOf]; omega
  .obtain rfl : k = l.length := by omega
   have hm := HK.out
   rw [List.take_length] at hm
   have a0 := hm.c 0 (by decide)
   have a1 := hm.c 1 (by decide)
   have a2 := hm.c 2 (by decide)
   have a3 := hm.c 3 (by decide)
   have a4 := hm.c 4 (by decide)
   have a5 := hm.c 5 (by decide)
   have hup := hm.up
   have HU := hd hup
   clear hm HK HM hup HC1
   have i1 : ¬ ((l.length : Int) < l.length) := by omega
   obtain ⟨wo, rfl⟩ : ∃ wo : World, wo = wr := ⟨_, rfl⟩
   go_wp2
   go_loopw [10, 33] (fun o i wr => ∃ (c : Nat) (zs : List Int), i = .int .i64 c /\ c <= 6 /\ Hid (zs = xdw l op c) /\ zs.length <= c /\ wr.ownsRow w.heap.size 3 1 o zs.length (xar zs) /\ Below w.heap.size w wr) (fun _ i _ => 6 - (intOf i).toNat)
   case atStart => exact ⟨0, [], rfl, by omega, (show [] = xdw l op 0 from rfl), Nat.le_refl _, World.ownsRow_nil _ _ _ _, HU⟩
   case round =>
    obtain ⟨c, zs, rfl, hcc, HZZ, hzl, hown, hbel⟩ := hrel
    obtain ⟨ao, cp, rfl⟩ := xaq hown
    have hbs := hbel.size
    by_cases hlt : c < 6
    .have HC1 := hd (xvh l op c)
     have hix := xu8 _ c _ (x5d (xxg l op) c hlt) hlt
     have hlc : (c : Int) < 6 := by omega
     generalize hqb : xxg l op c = qb at hix
     cases qb
     .have HZ2 : Hid (zs = xdw l op (c + 1)) := by
       show zs = _
       rw [HC1.out, hqb, HZZ.out]; simp
      clear hqb HC1 HZZ a0 a1 a2 a3 a4 a5
      go_wp2
      go_roundw
      case rel => exact ⟨c + 1, zs, by go_num, by omega, HZ2, by omega, hown, hbel⟩
      case measure => simp [intOf]; omega
     .have HZ2 : Hid (zs ++ [(c : Int)] = xdw l op (c + 1)) := by
       show _ = _
       rw [HC1.out, hqb, HZZ.out]; simp
      clear hqb HC1 HZZ a0 a1 a2 a3 a4 a5
      go_wp2_with (at_builtin; refine wpList_append_lies _ rfl (.tmp 38) (.tmp 40) 41 rfl w.heap.size 3 i0 (.int .i64 0) 1 8 Tryz.underlying41 hi hz0 hz1 hz2 rfl (by decide) (.slice ao zs.length cp) zs.length (xar zs) rfl (hown.alloc _) ⟨_, 0, none⟩ 1 1 [.int .i64 c] rfl rfl (xhj _ _ 3) (xfe _) (by decide) (by unfold maxLen; omega) om so _ rfl ?_; intro g cap1 w2 hown1 hgrow hat hglt)
      have R := xlm hbel hown hown1 hgrow
      clear hown1 hgrow hown hat
      go_wp2
      go_roundw
      case rel => exact ⟨c + 1, zs ++ [(c : Int)], by go_num, by omega, HZ2, by simp; omega, R.1, R.2⟩
      case measure => simp [intOf]; omega
    .have hlc : ¬ (c : Int) < 6 := by omega
     obtain rfl : c = 6 := by omega
     go_wp2
     go_ret2
     exact ⟨_, rfl, by rw [<- HZZ.out]; exact hown, hbel⟩
theorem x1p (l : List Ins) (v : Value) (w : World) (he : Env w) (hS : Sl w 4 v l.length (xck l)) (hc0 : xd3 l = 0) :
  Calls Tryz.prog 133 #[v] w fun e w' => ∃ v', e = .returned (.tuple #[v', .int .i64 0]) /\ Sl w' 1 v' (xdw l 12 6).length (xar (xdw l 12 6)) /\ Below w.heap.size w w' := by
 go_enter Tryz.func133, Tryz.ntmps133
 go_wp2_with (go_at_call 176; refine (xji l 12 (Or.inl rfl) v _ he hS hc0).mono ?_; rintro e w1 ⟨v', rfl, hown, hb1⟩)
 go_ret2
 exact ⟨v', rfl, xa7 hown, hb1⟩
theorem x1a (l : List Ins) (v : Value) (w : World) (he : Env w) (hS : Sl w 4 v l.length (xck l)) (hc0 : xd3 l = 0) :
  Calls Tryz.prog 136 #[v] w fun e w' => ∃ v', e = .returned (.tuple #[v', .int .i64 0]) /\ Sl w' 1 v' (xdw l 13 6).length (xar (xdw l 13 6)) /\ Below w.heap.size w w' := by
 go_enter Tryz.func136, Tryz.ntmps136
 go_wp2_with (go_at_call 176; refine (xji l 13 (Or.inr rfl) v _ he hS hc0).mono ?_; rintro e w1 ⟨v', rfl, hown, hb1⟩)
 go_ret2
 exact ⟨v', rfl, xa7 hown, hb1⟩
structure Chn where
 kd : Int
 fr : Int
 tt : Int
structure Slt where
 pt : Int
 tk : Int
structure Prt where
 code : List Ins
 inn : List Int
structure SysD where
 parts : List Prt
 chans : List Chn
 slots : List Slt
def chC (c : Chn) : List Value := [.int .i64 c.kd, .int .i64 c.fr, .int .i64 c.tt]
def slC (c : Slt) : List Value := [.int .i64 c.pt, .int .i64 c.tk]
def prC (p : Value × Value) : List Value := [p.1, p.2]
theorem xbt {l : List Chn} (hc : ∀ j u, (xbe chC l)[j]? = some u -> w.cell? ⟨b, off + j, none⟩ = some u) (k : Nat) (h : k < l.length) :
  w.cell? ⟨b, off + k * 3, none⟩ = some (.int .i64 l[k].kd) /\ w.cell? ⟨b, off + k * 3 + 1, none⟩ = some (.int .i64 l[k].fr) /\ w.cell? ⟨b, off + k * 3 + 2, none⟩ = some (.int .i64 l[k].tt) := by
 refine ⟨?_, ?_, ?_⟩
 .exact hc (k * 3) _ (by have := xcn (s := 3) (f := chC) (fun _ => rfl) l k 0 h (by decide); simpa [chC] using this)
 .exact hc (k * 3 + 1) _ (by rw [xcn (s := 3) (f := chC) (fun _ => rfl) l k 1 h (by decide)]; rfl)
 .exact hc (k * 3 + 2) _ (by rw [xcn (s := 3) (f := chC) (fun _ => rfl) l k 2 h (by decide)]; rfl)
theorem xd9 {l : List Slt} (hc : ∀ j u, (xbe slC l)[j]? = some u -> w.cell? ⟨b, off + j, none⟩ = some u) (k : Nat) (h : k < l.length) :
  w.cell? ⟨b, off + k * 2, none⟩ = some (.int .i64 l[k].pt) /\ w.cell? ⟨b, off + k * 2 + 1, none⟩ = some (.int .i64 l[k].tk) := by
 refine ⟨?_, ?_⟩
 .exact hc (k * 2) _ (by have := xcn (s := 2) (f := slC) (fun _ => rfl) l k 0 h (by decide); simpa [slC] using this)
 .exact hc (k * 2 + 1) _ (by rw [xcn (s := 2) (f := slC) (fun _ => rfl) l k 1 h (by decide)]; rfl)
theorem xup {l : List (Value × Value)} (hc : ∀ j u, (xbe prC l)[j]? = some u -> w.cell? ⟨b, off + j, none⟩ = some u) (k : Nat) (h : k < l.length) :
  w.cell? ⟨b, off + k * 2, none⟩ = some l[k].1 /\ w.cell? ⟨b, off + k * 2 + 1, none⟩ = some l[k].2 := by
 refine ⟨?_, ?_⟩
 .exact hc (k * 2) _ (by have := xcn (s := 2) (f := prC) (fun _ => rfl) l k 0 h (by decide); simpa [prC] using this)
 .exact hc (k * 2 + 1) _ (by rw [xcn (s := 2) (f := prC) (fun _ => rfl) l k 1 h (by decide)]; rfl)
structure PrtR (w : World) (c i : Value) (p : Prt) : Prop where
 code : Sl w 4 c p.code.length (xck p.code)
 inn : Sl w 1 i p.inn.length (xar p.inn)
theorem PrtR.up {c i : Value} {p : Prt} (h : PrtR w c i p) (hb : Below w.heap.size w w') : PrtR w' c i p := ⟨h.code.up hb, h.inn.up hb⟩
def PartsR (w : World) (v : Value) (ps : List Prt) : Prop :=
 ∃ vs : List (Value × Value), vs.length = ps.length /\ Sl w 2 v ps.length (xbe prC vs) /\ ∀ k (hk : k < ps.length) (hk' : k < vs.length), PrtR w vs[k].1 vs[k].2 ps[k]
theorem PartsR.up {ps : List Prt} (h : PartsR w v ps) (hb : Below w.heap.size w w') : PartsR w' v ps := by
 obtain ⟨vs, h1, h2, h3⟩ := h
 exact ⟨vs, h1, h2.up hb, fun k hk hk' => (h3 k hk hk').up hb⟩
theorem PartsR.form {ps : List Prt} (h : PartsR w v ps) : ∃ ao cap, v = .slice ao ps.length cap := by
 obtain ⟨vs, h1, h2, h3⟩ := h
 exact h2.form
theorem PartsR.open {ps : List Prt} (h : PartsR w v ps) (hn : 0 < ps.length) :
  ∃ b off cap, v = .slice (some ⟨b, off, none⟩) ps.length cap /\ ps.length <= cap /\ b < w.heap.size /\ ∀ k (hk : k < ps.length), ∃ c i, w.cell? ⟨b, off + k * 2, none⟩ = some c /\ w.cell? ⟨b, off + k * 2 + 1, none⟩ = some i /\ PrtR w c i ps[k] := by
 obtain ⟨vs, h1, h2, h3⟩ := h
 obtain ⟨b, off, cap, e, hcap, hb, hc⟩ := h2.open hn
 refine ⟨b, off, cap, e, hcap, hb, fun k hk => ?_⟩
 have hk' : k < vs.length := by omega
 obtain ⟨c0, c1⟩ := xup hc k hk'
 exact ⟨_, _, c0, c1, h3 k hk hk'⟩
structure Sys (w : World) (vp vc vs : Value) (S : SysD) : Prop where
 p : PartsR w vp S.parts
 c : Sl w 3 vc S.chans.length (xbe chC S.chans)
 s : Sl w 2 vs S.slots.length (xbe slC S.slots)
theorem Sys.up {vp vc vs : Value} {S : SysD} (h : Sys w vp vc vs S) (hb : Below w.heap.size w w') : Sys w' vp vc vs S := ⟨h.p.up hb, h.c.up hb, h.s.up hb⟩
def SysD.ok (S : SysD) : Prop := ∀ p ∈ S.parts, ∀ j (hj : j < p.code.length), p.code[j].ok
def xbd (S : SysD) : Bool := decide (1 <= S.parts.length /\ S.parts.length <= 4 /\ S.chans.length <= 6 /\ 1 <= S.slots.length /\ S.slots.length <= 6) && !(S.parts.any fun p => decide (12 < p.inn.length))
def xge : List Prt -> Int
 | [] => 0
 | p :: r => if xd3 p.code = 0 then xge r else xd3 p.code
theorem xll : ∀ (l : List Prt) (k : Nat) (h : k < l.length), (∀ j (hj : j < l.length), j < k -> xd3 l[j].code = 0) -> xd3 l[k].code ≠ 0 -> xge l = xd3 l[k].code
 | i :: r, 0, _, _, hne => by rw [xge, if_neg (show ¬ xd3 i.code = 0 from hne)]; rfl
 | i :: r, k + 1, h, hz, hne => by
  rw [xge, if_pos (show xd3 i.code = 0 from hz 0 (by simp) om)]
  exact xll r k (by simpa using h) (fun j hj hlt => hz (j + 1) (by simpa using hj) om) hne
theorem xec : ∀ l : List Prt, (∀ j (hj : j < l.length), xd3 l[j].code = 0) -> xge l = 0
 | [], _ => rfl
 | i :: r, hz => by
  rw [xge, if_pos (show xd3 i.code = 0 from hz 0 (by simp))]
  exact xec r (fun j hj => hz (j + 1) (by simpa using hj))
theorem xhm : ∀ {l : List Prt}, xge l = 0 -> ∀ j (hj : j < l.length), xd3 l[j].code = 0
 | i :: r, h, j, hj => by
  rw [xge] at h
  by_cases hc : xd3 i.code = 0
  .rw [if_pos hc] at h
   cases j with
   | zero => exact hc
   | succ j => exact xhm h j (by simpa using hj)
  .rw [if_neg hc] at h; exact absurd h hc
def xb4 (c : Chn) : Bool := c.kd != 1 && c.kd != 2
def xb5 (n : Nat) (c : Chn) : Bool := !(xaf c.fr 0 (n - 1)) || !(xaf c.tt 0 (n - 1)) || c.fr == c.tt
def xcm (n : Nat) (t : Slt) : Bool := !(xaf t.pt 0 (n - 1)) || !(xaf t.tk 1 8)
def xby (S : SysD) : Bool := !(S.chans.any (xb5 S.parts.length)) && !(S.slots.any (xcm S.parts.length))
def xdf (l : List Chn) (me : Int) (c : Int) : Bool := match l[c.toNat]? with | none => true | some x => x.fr != me
def xdg (l : List Chn) (me : Int) (c : Int) : Bool := match l[c.toNat]? with | none => true | some x => x.tt != me
def xc9 (l : List Chn) (me : Int) (p : Prt) : Bool := (xdw p.code 12 6).any (xdf l me) || (xdw p.code 13 6).any (xdg l me)
def xcx (l : List Chn) : Nat -> List Prt -> Bool
 | _, [] => true
 | k, p :: r => if xc9 l k p then false else xcx l (k + 1) r
def xg3 (S : SysD) : Bool := xcx S.chans 0 S.parts
def xb3 (S : SysD) : Int :=
 if xbd S = false then 2 else if xge S.parts ≠ 0 then xge S.parts else if S.chans.any xb4 = true then 4 else if xby S = false then 3 else if xg3 S = false then 1 else 0
section
variable {P : Program}
theorem xn1 (w : World) (t ty : TypeId) (base : Nat) (e : TypeId) (i : TypeInfo) (z : Value) (size bytes : Nat) (ht : P.underlying t = some (.slice e)) (hi : P.info? e = some i) (hz : i.zero = some z)
  (hsize : i.size = size) (hby : i.bytes = bytes) (hzs : z.cells.size = size) (hsz : 0 < size) (v : Value) (n : Nat) (xs : List Value) (hown : w.ownsRow base e size v n xs)
  (u : Value) (m : Nat) (news : List Value) (hS : Sl w size u m news) (h1 : ∀ u ∈ news, u.oneCell' = true) (h63 : n + m <= maxLen) (hbytes : (n + m) * bytes <= 140737488355328) (hbase : base <= w.heap.size) :
  ∃ v' w', (Builtin.append_ #[t, t] ty #[v, u]).run P w = .ok v' w' /\ w'.ownsRow base e size v' (n + m) (xs ++ news) /\ w.grownBy w' v.ownBlock /\ (v'.ownBlock = v.ownBlock \/ v'.ownBlock = some w.heap.size) := by
 by_cases hm : m = 0
 .subst hm
  have hnn : news = [] := List.eq_nil_of_length_eq_zero (by simpa using hS.1)
  subst hnn
  obtain ⟨ao, cap, rfl⟩ := hS.form
  cases ao with
  | some ad =>
   obtain ⟨v', w', hr, h2, h3, _, h5⟩ := run_append_own_at (P := P) w base t ty e i z size bytes ht hi hz hsize hby hzs hsz v n xs hown ad 0 cap [] (by simp) (by simp) (by simp) h63 hbytes hbase
   exact ⟨v', w', hr, h2, h3, h5⟩
  | none =>
   refine ⟨v, w, ?_, by simpa using hown, ⟨rfl, rfl, rfl, Nat.le_refl _, fun _ _ _ => rfl⟩, .inl rfl⟩
   rcases hown.2 with ⟨rfl, rfl⟩ | ⟨g, cap', cur, rfl, hbg, hg, hnc, hcm, hcs, htake⟩
   .simp [Builtin.append_, run_underlying ht, sizeOf, typeInfo, hi, Builtin.lenOf, Builtin.firstCells, loadCells, loadCellsFrom]
   .simp [Builtin.append_, run_underlying ht, sizeOf, typeInfo, hi, Builtin.lenOf, Builtin.firstCells, loadCells, loadCellsFrom, hnc, storeCells]
 .obtain ⟨b, off, cap, rfl, _, _, hc⟩ := hS.open om
  obtain ⟨v', w', hr, h2, h3, _, h5⟩ := run_append_own_at (P := P) w base t ty e i z size bytes ht hi hz hsize hby hzs hsz v n xs hown ⟨b, off, none⟩ m cap news hS.1 (xjj hc) h1 h63 hbytes hbase
  exact ⟨v', w', hr, h2, h3, h5⟩
theorem xjf {K : Act -> World -> Prop} (s x : Operand) (t : TypeId)
  (ho : o.op = .call { callee := .builtin .append, args := #[s, x], argTypes := #[t, t] })
  (base : Nat) (e : TypeId) (i : TypeInfo) (z : Value) (size bytes : Nat) (ht : P.underlying t = some (.slice e)) (hi : P.info? e = some i) (hz : i.zero = some z)
  (hsize : i.size = size) (hby : i.bytes = bytes) (hzs : z.cells.size = size) (hsz : 0 < size) (v : Value) (n : Nat) (xs : List Value) (hs : a.eval s = v) (hown : w.ownsRow base e size v n xs)
  (u : Value) (m : Nat) (news : List Value) (hx : a.eval x = u) (hS : Sl w size u m news) (h1 : ∀ u ∈ news, u.oneCell' = true) (h63 : n + m <= maxLen) (hbytes : (n + m) * bytes <= 140737488355328) (hbase : base <= w.heap.size)
  (h : ∀ v' w', w'.ownsRow base e size v' (n + m) (xs ++ news) -> w.grownBy w' v.ownBlock -> (v'.ownBlock = v.ownBlock \/ v'.ownBlock = some w.heap.size) -> K (a.put o.dst v') w') : o.wp P a w K Q := by
 obtain ⟨v', w', hr, h2, h3, h5⟩ := xn1 (P := P) w t o.type base e i z size bytes ht hi hz hsize hby hzs hsz v n xs hown u m news hS h1 h63 hbytes hbase
 unfold Oper.wp execOp
 simp only [ho, resolve, invoke, builtin, Sem.run_bind, Sem.run_pure, Result.andThen_ok, List.map_toArray, List.map_cons, List.map_nil, hs, hx, hr]
 exact h v' w' h2 h3 h5
theorem xl7 (w : World) (t ty : TypeId) (base : Nat) (e : TypeId) (i : TypeInfo) (z : Value) (size bytes : Nat) (ht : P.underlying t = some (.slice e)) (hi : P.info? e = some i) (hz : i.zero = some z)
  (hsize : i.size = size) (hby : i.bytes = bytes) (hzs : z.cells.size = size) (hsz : 0 < size) (B : Nat) (hown : w.ownsRow base e size (.slice (some ⟨B, 0, none⟩) 0 0) 0 [])
  (u : Value) (m : Nat) (news : List Value) (hS : Sl w size u m news) (h1 : ∀ u ∈ news, u.oneCell' = true) (h63 : m <= maxLen) (hbytes : m * bytes <= 140737488355328) (hbase : base <= w.heap.size) :
  ∃ v' w', (Builtin.append_ #[t, t] ty #[.slice (some ⟨B, 0, none⟩) 0 0, u]).run P w = .ok v' w' /\ w'.ownsRow base e size v' m news /\ Below w.heap.size w w' /\ (∀ k, v'.ownBlock = some k -> k = B \/ k = w.heap.size) := by
 by_cases hm : m = 0
 .subst hm
  have hnn : news = [] := List.eq_nil_of_length_eq_zero (by simpa using hS.1)
  subst hnn
  obtain ⟨ao, cap, rfl⟩ := hS.form
  refine ⟨_, w, ?_, hown, Below.refl _ _, fun k hk => .inl (by simpa [Value.ownBlock, eq_comm] using hk)⟩
  cases ao with
  | some ad => simp [Builtin.append_, run_underlying ht, sizeOf, typeInfo, hi, Builtin.lenOf, Builtin.firstCells, loadCells, loadCellsFrom, storeCells]
  | none => simp [Builtin.append_, run_underlying ht, sizeOf, typeInfo, hi, Builtin.lenOf, Builtin.firstCells, loadCells, loadCellsFrom, storeCells]
 .obtain ⟨b, off, cap, rfl, _, _, hc⟩ := hS.open om
  obtain ⟨v', w', hr, h2, _, _, _⟩ := run_append_own_at (P := P) w base t ty e i z size bytes ht hi hz hsize hby hzs hsz _ 0 [] hown ⟨b, off, none⟩ m cap news hS.1 (xjj hc) h1 (by simpa using h63) (by simpa using hbytes) hbase
  have hr2 := run_append_grow (P := P) w t ty e i z ht hi hz ⟨B, 0, none⟩ 0 0 [] (by simp) (by simp) ⟨b, off, none⟩ m cap news (by rw [hsize]; exact hS.1) (xjj hc) om (by unfold maxLen at h63; omega) (growslice_fits om (by rw [hby]; simpa using hbytes))
  have hw := hr.symm.trans hr2
  injection hw with hv hw
  refine ⟨v', w', hr, by simpa using h2, ?_, fun k hk => .inr ?_⟩
  .rw [hw]
   exact (Below.refl _ _).drew.alloc (Nat.le_refl _) _
  .rw [hv] at hk
   simpa [Value.ownBlock, eq_comm] using hk
theorem xhs {K : Act -> World -> Prop} (s x : Operand) (t : TypeId)
  (ho : o.op = .call { callee := .builtin .append, args := #[s, x], argTypes := #[t, t] })
  (base : Nat) (e : TypeId) (i : TypeInfo) (z : Value) (size bytes : Nat) (ht : P.underlying t = some (.slice e)) (hi : P.info? e = some i) (hz : i.zero = some z)
  (hsize : i.size = size) (hby : i.bytes = bytes) (hzs : z.cells.size = size) (hsz : 0 < size) (B : Nat) (hs : a.eval s = .slice (some ⟨B, 0, none⟩) 0 0) (hown : w.heap[B]? = some (.cells #[] e (0, 0))) (hB : base <= B)
  (u : Value) (m : Nat) (news : List Value) (hx : a.eval x = u) (hS : Sl w size u m news) (h1 : ∀ u ∈ news, u.oneCell' = true) (h63 : m <= maxLen) (hbytes : m * bytes <= 140737488355328)
  (h : ∀ v' w', w'.ownsRow base e size v' m news -> Below w.heap.size w w' -> (∀ k, v'.ownBlock = some k -> k = B \/ k = w.heap.size) -> K (a.put o.dst v') w') : o.wp P a w K Q := by
 have hBl : B < w.heap.size := by
  rcases Nat.lt_or_ge B w.heap.size with h | h
  .exact h
  .rw [Array.getElem?_eq_none h] at hown; cases hown
 obtain ⟨v', w', hr, h2, h3, h5⟩ := xl7 (P := P) w t o.type base e i z size bytes ht hi hz hsize hby hzs hsz B ⟨by simp, .inr ⟨B, 0, #[], rfl, hB, hown, Nat.le_refl _, Nat.zero_le _, by simp, by simp⟩⟩ u m news hS h1 h63 hbytes om
 unfold Oper.wp execOp
 simp only [ho, resolve, invoke, builtin, Sem.run_bind, Sem.run_pure, Result.andThen_ok, List.map_toArray, List.map_cons, List.map_nil, hs, hx, hr]
 exact h v' w' h2 h3 h5
theorem xdy {rest : List Oper} (hgd : o.guard = none) (s x : Operand) (t : TypeId)
  (ho : o.op = .call { callee := .builtin .append, args := #[s, x], argTypes := #[t, t] })
  (base : Nat) (e : TypeId) (i : TypeInfo) (z : Value) (size bytes : Nat) (ht : P.underlying t = some (.slice e)) (hi : P.info? e = some i) (hz : i.zero = some z)
  (hsize : i.size = size) (hby : i.bytes = bytes) (hzs : z.cells.size = size) (hsz : 0 < size) (v : Value) (n : Nat) (xs : List Value) (hs : a.eval s = v) (hown : w.ownsRow base e size v n xs)
  (u : Value) (m : Nat) (news : List Value) (hx : a.eval x = u) (hS : Sl w size u m news) (h1 : ∀ u ∈ news, u.oneCell' = true) (h63 : n + m <= maxLen) (hbytes : (n + m) * bytes <= 140737488355328) (hbase : base <= w.heap.size)
  (h : ∀ v' w', w'.ownsRow base e size v' (n + m) (xs ++ news) -> w.grownBy w' v.ownBlock -> (v'.ownBlock = v.ownBlock \/ v'.ownBlock = some w.heap.size) -> wpList P ops Q rest (a.put o.dst v') w') : wpList P ops Q (o :: rest) a w :=
 wpList_plain hgd fun _ hK => xjf s x t ho base e i z size bytes ht hi hz hsize hby hzs hsz v n xs hs hown u m news hx hS h1 h63 hbytes hbase fun v' w' h1 h2 h3 => hK _ _ (h v' w' h1 h2 h3)
theorem xfb {rest : List Oper} (hgd : o.guard = none) (s x : Operand) (t : TypeId)
  (ho : o.op = .call { callee := .builtin .append, args := #[s, x], argTypes := #[t, t] })
  (e : TypeId) (i : TypeInfo) (z : Value) (size bytes : Nat) (ht : P.underlying t = some (.slice e)) (hi : P.info? e = some i) (hz : i.zero = some z)
  (hsize : i.size = size) (hby : i.bytes = bytes) (hzs : z.cells.size = size) (hsz : 0 < size) (hs : a.eval s = .slice none 0 0)
  (u : Value) (m : Nat) (news : List Value) (hx : a.eval x = u) (hS : Sl w size u m news) (h1 : ∀ u ∈ news, u.oneCell' = true) (h63 : m <= maxLen) (hbytes : m * bytes <= 140737488355328)
  (h : ∀ v' w', w'.ownsRow w.heap.size e size v' m news -> Below w.heap.size w w' -> wpList P ops Q rest (a.put o.dst v') w') : wpList P ops Q (o :: rest) a w :=
 xdy hgd s x t ho w.heap.size e i z size bytes ht hi hz hsize hby hzs hsz _ 0 [] hs (World.ownsRow_nil _ _ _ _) u m news hx hS h1 (by simpa using h63) (by simpa using hbytes) (Nat.le_refl _)
  fun v' w' g1 g2 _ => h v' w' (by simpa using g1) ((Below.refl _ _).grown g2 (Nat.le_refl _) (fun k hk => by cases hk))
theorem xiy {rest : List Oper} (hgd : o.guard = none) (s x : Operand) (t : TypeId)
  (ho : o.op = .call { callee := .builtin .append, args := #[s, x], argTypes := #[t, t] })
  (base : Nat) (e : TypeId) (i : TypeInfo) (z : Value) (size bytes : Nat) (ht : P.underlying t = some (.slice e)) (hi : P.info? e = some i) (hz : i.zero = some z)
  (hsize : i.size = size) (hby : i.bytes = bytes) (hzs : z.cells.size = size) (hsz : 0 < size) (B : Nat) (hs : a.eval s = .slice (some ⟨B, 0, none⟩) 0 0) (hown : w.heap[B]? = some (.cells #[] e (0, 0))) (hB : base <= B)
  (u : Value) (m : Nat) (news : List Value) (hx : a.eval x = u) (hS : Sl w size u m news) (h1 : ∀ u ∈ news, u.oneCell' = true) (h63 : m <= maxLen) (hbytes : m * bytes <= 140737488355328)
  (h : ∀ v' w', w'.ownsRow base e size v' m news -> Below w.heap.size w w' -> (∀ k, v'.ownBlock = some k -> k = B \/ k = w.heap.size) -> wpList P ops Q rest (a.put o.dst v') w') : wpList P ops Q (o :: rest) a w :=
 wpList_plain hgd fun _ hK => xhs s x t ho base e i z size bytes ht hi hz hsize hby hzs hsz B hs hown hB u m news hx hS h1 h63 hbytes fun v' w' h1 h2 h3 => hK _ _ (h v' w' h1 h2 h3)
end
open Go.RowKit Go.Sort Go.Shelf Go.Lib
def chE (c : Chn) : List Edg := if c.kd = 2 then [⟨c.fr, c.tt⟩, ⟨c.tt, c.fr⟩] else [⟨c.fr, c.tt⟩]
def xk5 : List Chn -> List Edg
 | [] => []
 | c :: r => chE c ++ xk5 r
theorem xsn : ∀ (a b : List Chn), xk5 (a ++ b) = xk5 a ++ xk5 b
 | [], b => rfl
 | c :: r, b => by
  simp only [List.cons_append, xk5, xsn r b, List.append_assoc]
theorem xn7 : ∀ (a : List Chn), (xk5 a).length <= 2 * a.length
 | [] => by simp [xk5]
 | c :: r => by
  have := xn7 r
  simp only [xk5, List.length_append, List.length_cons]
  have h2 : (chE c).length <= 2 := by unfold chE; split <;> simp
  omega
theorem xyx : (Tryz.prog.info? 53).map (fun i => (i.zero, i.size, i.bytes)) = some (some (.agg #[.int .i64 0, .int .i64 0]), 2, 16) := by kernel_rfl
theorem xbs (w : World) (t : TypeId) (cs : Array Value) (g : Nat) (hg : g = w.heap.size) : ∀ j u, cs.toList[j]? = some u -> (w.alloc (.cells cs t)).cell? ((⟨g, 0, none⟩ : Addr).add j) = some u := fun j u hj => by
 rw [Addr.add_mid, Nat.zero_add, hg, World.cell?_alloc_new]
 simpa using hj
theorem xi7 (a b : Int) : ∀ u ∈ [Value.int .i64 a, .int .i64 b], u.oneCell' = true := fun u hu => by
 simp at hu
 rcases hu with rfl | rfl <;> rfl
theorem x3a {base : Nat} {l : List Edg} (h : w.ownsRow base 53 2 v l.length (xbe Edg.cells l)) (h0 : 0 < l.length) : ∃ g cap, v = .slice (some ⟨g, 0, none⟩) l.length cap /\ base <= g /\ l.length <= cap /\ EdM w g 0 l := by
 have hsl := xa7 h
 obtain ⟨b, off, cap, e, hcap, hb, hc⟩ := hsl.open h0
 rcases h.2 with ⟨e0, _⟩ | ⟨g, cap', cur, e0, hg, hh, _⟩
 .rw [e0] at e
  cases e
 .rw [e0] at e
  injection e with e1 _ e2
  injection e1 with e1
  injection e1 with e1 e3
  subst e1 e2 e3
  refine ⟨_, _, e0, hg, hcap, ⟨cur, hh⟩, fun k hk => ⟨?_, ?_⟩⟩
  .exact hc (k * 2) _ (by
    have := xcn (s := 2) (f := Edg.cells) xgl l k 0 hk (by decide)
    rw [Nat.add_zero] at this
    rw [this]
    rfl)
  .have := hc (k * 2 + 1) (.int .i64 l[k].tt) (by
    rw [xcn (s := 2) (f := Edg.cells) xgl l k 1 hk (by decide)]
    rfl)
   rw [<- Nat.add_assoc] at this
   exact this
theorem xpd (w : World) : Calls Tryz.prog 119 #[.slice none 0 0, .func (.func 120) #[] #[]] w fun e w' => e = .returned (.tuple #[]) /\ w' = w := AnyF.slices_SortFunc_none Tryz.sortE none 0 _ w
theorem xri (w : World) : Calls Tryz.prog 123 #[.slice none 0 0] w fun e w' => e = .returned (.slice none 0 0) /\ w' = w := by
 go_enter Tryz.func123, Tryz.ntmps123
 go_wp2
 go_ret
 exact ⟨rfl, rfl⟩
def xzd (cs : List Chn) (l : List Edg) : Prop := ∃ r : List Edg, r.Perm (xk5 cs) /\ xz6 r /\ l = xce r
theorem xtn : ∀ l : List Edg, (xce l).length <= l.length
 | [] => by simp [xce]
 | [a] => by simp [xce]
 | a :: b :: r => by
  have := xtn (b :: r)
  rw [xce]
  split
  .simp at this ⊢
   omega
  .simp at this ⊢
   omega
theorem x4s {g cap : Nat} {l : List Edg} (h : EdM w g 0 l) (hcap : l.length <= cap) : Sl w 2 (.slice (some ⟨g, 0, none⟩) l.length cap) l.length (xbe Edg.cells l) := by
 refine ⟨by rw [xgp xgl], some ⟨g, 0, none⟩, cap, rfl, hcap, fun _ => ⟨g, 0, rfl, h.lt, fun j u hj => ?_⟩⟩
 have hjl : j < l.length * 2 := by
  have := (List.getElem?_eq_some_iff.1 hj).1
  rwa [xgp xgl] at this
 have hk : j / 2 < l.length := by omega
 have hr : j % 2 < 2 := by omega
 have hjk : j = j / 2 * 2 + j % 2 := by omega
 rw [hjk, xcn xgl l (j / 2) (j % 2) hk hr] at hj
 have h2 : j % 2 = 0 \/ j % 2 = 1 := by omega
 rcases h2 with e | e
 .rw [e] at hj
  have := (h.2 (j / 2) hk).1
  rw [show 0 + j = 0 + j / 2 * 2 by omega, this]
  exact hj
 .rw [e] at hj
  have := (h.2 (j / 2) hk).2
  rw [show 0 + j = 0 + j / 2 * 2 + 1 by omega, this]
  exact hj
theorem xgm (L : List Edg) (e : Edg) : xbe Edg.cells (L ++ [e]) = xbe Edg.cells L ++ [.int .i64 e.fr, .int .i64 e.tt] := by
 simp [xbe, Edg.cells]
theorem xqc {W4 : World} {L : List Edg} {e : Edg} (HB : Below w.heap.size w wr) (HO : wr.ownsRow w.heap.size 53 2 v L.length (xbe Edg.cells L)) (hgrow : wr.grownBy W4 v.ownBlock)
  (hown : W4.ownsRow w.heap.size 53 2 v' (L.length + 1) (xbe Edg.cells L ++ [.int .i64 e.fr, .int .i64 e.tt])) :
  W4.ownsRow w.heap.size 53 2 v' (L ++ [e]).length (xbe Edg.cells (L ++ [e])) /\ Below w.heap.size w W4 := by
 refine ⟨?_, HB.grown hgrow HB.size (xab HO)⟩
 rw [xgm, List.length_append]
 exact hown
theorem xod (cs : List Chn) (v : Value) (hl : cs.length <= 6) (w : World) (hC : Sl w 3 v cs.length (xbe chC cs)) :
  Calls Tryz.prog 69 #[v] w fun e w' => ∃ v' l, e = .returned v' /\ xzd cs l /\ l.length <= 12 /\ Sl w' 2 v' l.length (xbe Edg.cells l) /\ Below w.heap.size w w' := by
 obtain ⟨i1, hi1, hy0, hy1, hy2⟩ := xaj xyx
 obtain ⟨va, vcap, rfl⟩ := hC.form
 have HC := hd hC
 clear hC
 go_enter Tryz.func69, Tryz.ntmps69
 go_wp2
 go_loopw [8, 3] (fun i l wr => ∃ (k : Nat), i = .int .i64 k /\ k <= cs.length /\ Hid (wr.ownsRow w.heap.size 53 2 l (xk5 (cs.take k)).length (xbe Edg.cells (xk5 (cs.take k)))) /\ Hid (k = 0 -> l = .slice none 0 0) /\ Hid (Below w.heap.size w wr)) (fun i _ _ => cs.length - (intOf i).toNat)
 case atStart => exact ⟨0, rfl, Nat.zero_le _, hd (World.ownsRow_nil _ _ _ _), hd (fun _ => rfl), hd (Below.refl _ _)⟩
 case round =>
  obtain ⟨k, rfl, hk, HO, HNIL, HB⟩ := hrel
  by_cases hlt : k < cs.length
  .have hli : (k : Int) < cs.length := by omega
   have h0i : (0 : Int) <= k := by omega
   obtain ⟨b, off, cap, e1, hcap, hbw, hc⟩ := HC.out.open om
   cases e1
   obtain ⟨hkd, hfr, htt⟩ := xbt hc k hlt
   have hws := HB.out.size
   have c0 := bcl HB.out hbw hkd
   have c1 := bcl HB.out hbw hfr
   have c2 := bcl HB.out hbw htt
   have hbr : b < wr.heap.size := by omega
   have hbr' : b ≠ wr.heap.size := by omega
   have htk : xk5 (cs.take (k + 1)) = xk5 (cs.take k) ++ chE cs[k] := by
    rw [List.take_succ_eq_append_getElem hlt, xsn]
    simp [xk5]
   have hln := xn7 (cs.take k)
   have hln2 : (cs.take k).length <= 6 := by simp; omega
   generalize hce : cs[k] = ch at c0 c1 c2 htk
   obtain ⟨kd, fr, tt⟩ := ch
   simp only at c0 c1 c2
   have HTK := hd htk
   obtain ⟨a3, c3, hform⟩ := xaq HO.out
   subst hform
   generalize hL : xk5 (cs.take k) = L at HO HTK hln
   have HLN := hd (show L.length <= 12 by omega)
   have hlt' := xbc HO.out
   have hbl' := xab HO.out
   have HLT := hd hlt'
   have HBL := hd hbl'
   clear hkd hfr htt hc htk hln hln2 hce hL hlt' hbl' HNIL
   go_upto_region 5 with fail
   have HO2 := hd ((HO.out.alloc (.cells #[.int .i64 kd, .int .i64 fr, .int .i64 tt] 126)).alloc (.cells #[.int .i64 fr, .int .i64 tt] 53))
   have HB2 := hd ((HB.out.alloc hws (.cells #[.int .i64 kd, .int .i64 fr, .int .i64 tt] 126)).alloc so (.cells #[.int .i64 fr, .int .i64 tt] 53))
   go_upto_region 6 with (at_builtin; refine wpList_append_lies _ rfl (.tmp 12) (.tmp 18) 25 rfl w.heap.size 53 i1 _ 2 16 Tryz.underlying25 hi1 hy0 hy1 hy2 rfl (by decide) _ L.length (xbe Edg.cells L) rfl HO2.out ⟨wr.heap.size+1,0,none⟩ 1 1 [.int .i64 fr, .int .i64 tt] rfl rfl (xbs _ _ _ _ (by simp)) (xi7 _ _) (by decide) (by have := HLN.out; unfold maxLen; omega) (by have := HLN.out; omega) so _ rfl ?_)
   intro g4 cap4 W4 hown hgrow hat hg4
   have hx := xqc (e := ⟨fr, tt⟩) HB2.out HO2.out hgrow hown
   have HO4 := hd hx.1
   have HB4 := hd hx.2
   have hne : ∀ k, k = wr.heap.size -> some k ≠ (Value.slice a3 L.length c3).ownBlock := fun k e e2 => by have := HLT.out k e2.symm; omega
   have d0 : W4.cell? ⟨wr.heap.size, 0, none⟩ = some (.int .i64 kd) := (hgrow.cell_far ⟨wr.heap.size, 0, none⟩ so (hne _ rfl)).trans (by simp)
   have d1 : W4.cell? ⟨wr.heap.size, 1, none⟩ = some (.int .i64 fr) := (hgrow.cell_far ⟨wr.heap.size, 1, none⟩ so (hne _ rfl)).trans (by simp)
   have d2 : W4.cell? ⟨wr.heap.size, 2, none⟩ = some (.int .i64 tt) := (hgrow.cell_far ⟨wr.heap.size, 2, none⟩ so (hne _ rfl)).trans (by simp)
   have hw4 := HB4.out.size
   have hgs := hgrow.size
   simp at hgs
   have hlt4 : wr.heap.size < W4.heap.size := by omega
   have hne4 : wr.heap.size ≠ W4.heap.size := by omega
   clear hown hgrow hat hx hne c0 c1 c2 HO HO2 HB HB2 HLT HBL
   have hlen : (L ++ [(⟨fr, tt⟩ : Edg)]).length = L.length + 1 := by simp
   rw [hlen] at HO4
   clear hlen
   by_cases h2 : kd = 2
   .have htk2 : xk5 (cs.take (k + 1)) = L ++ [⟨fr, tt⟩] ++ [⟨tt, fr⟩] := by
     rw [HTK.out]
     simp [chE, h2]
    have HTK2 := hd htk2
    clear htk2 HTK
    subst h2
    have HO5 := hd (HO4.out.alloc (.cells #[.int .i64 tt, .int .i64 fr] 53))
    have HB5 := hd (HB4.out.alloc hw4 (.cells #[.int .i64 tt, .int .i64 fr] 53))
    clear HO4 HB4
    generalize hL2 : L ++ [(⟨fr, tt⟩ : Edg)] = L2 at HO5 HTK2
    have HL2 : Hid (L2.length = L.length + 1) := by rw [<- hL2]; exact hd (by simp)
    clear hL2
    go_upto_region 8 with (at_builtin; refine wpList_append_lies _ rfl (.tmp 23) (.tmp 29) 25 rfl w.heap.size 53 i1 _ 2 16 Tryz.underlying25 hi1 hy0 hy1 hy2 rfl (by decide) _ (L.length + 1) (xbe Edg.cells L2) rfl HO5.out ⟨W4.heap.size,0,none⟩ 1 1 [.int .i64 tt, .int .i64 fr] rfl rfl (xbs _ _ _ _ rfl) (xi7 _ _) (by decide) (by have := HLN.out; unfold maxLen; omega) (by have := HLN.out; omega) so _ rfl ?_)
    intro g5 cap5 W5 hown hgrow hat hg5
    have hx := xqc (L := L2) (e := ⟨tt, fr⟩) HB5.out (by rw [HL2.out]; exact HO5.out) hgrow (by rw [HL2.out]; exact hown)
    have HO6 := hd hx.1
    have HB6 := hd hx.2
    clear hown hgrow hat hx HO5 HB5 d0 d1 d2
    go_wp2
    go_roundw
    case rel => exact ⟨k + 1, by go_num, by omega, by rw [HTK2.out]; exact HO6, hd (fun e => by omega), HB6⟩
    case measure => simp [intOf]; omega
   .have htk2 : xk5 (cs.take (k + 1)) = L ++ [⟨fr, tt⟩] := by
     rw [HTK.out]
     simp [chE, h2]
    have HTK2 := hd htk2
    clear htk2 HTK
    go_wp2
    go_roundw
    case rel => exact ⟨k + 1, by go_num, by omega, by rw [HTK2.out]; exact (by rw [List.length_append]; exact HO4), hd (fun e => by omega), HB4⟩
    case measure => simp [intOf]; omega
  .have hli : ¬ (k : Int) < cs.length := by omega
   have hkl : k = cs.length := by omega
   have hraw : cs.take k = cs := List.take_of_length_le om
   rw [hraw] at HO
   have hln := xn7 cs
   by_cases h0 : (xk5 cs).length = 0
   .have hn0 : xk5 cs = [] := List.length_eq_zero_iff.1 h0
    have hc0 : cs = [] := by
     cases cs with
     | nil => rfl
     | cons c r => simp [xk5, chE] at hn0; split at hn0 <;> simp at hn0
    have hk0 : k = 0 := by rw [hkl, hc0]; rfl
    have hln0 := HNIL.out hk0
    subst hln0
    clear HO HNIL hraw
    go_wp2_with (first | (go_at_call 119; refine (xpd _).mono ?_; rintro e w2 ⟨rfl, rfl⟩) | (go_at_call 123; refine (xri _).mono ?_; rintro e w2 ⟨rfl, rfl⟩))
    go_ret
    refine ⟨_, [], rfl, ⟨[], by rw [hn0], ?_, rfl⟩, by simp, ?_, HB.out⟩
    .unfold xz6; simp
    .exact ⟨rfl, none, 0, rfl, Nat.le_refl _, fun h => absurd h (by simp)⟩
   .obtain ⟨g, cap, hv, hgw, hcap, hE⟩ := x3a HO.out om
    subst hv
    have HE := hd hE
    clear hE HO HNIL hraw
    go_wp2_with (first | (go_at_call 119; refine (xoo _ _ _ _ _ HE.out om).mono ?_; rintro e w2 ⟨rfl, r, hperm, hrise, hEr, hbel⟩; have hpl := hperm.length_eq; have HER := hd hEr; have HRISE := hd hrise; have HBEL := hd hbel; have HPERM := hd hperm; clear hEr hrise hbel hperm HE) | (rw [<- hpl]; go_at_call 123; refine (xse r _ _ _ om om _ HER.out).mono ?_; rintro e w3 ⟨rfl, hEu, hbel3⟩))
    go_ret
    have hul := xtn r
    refine ⟨_, xce r, rfl, ⟨r, HPERM.out, HRISE.out, rfl⟩, by omega, x4s hEu om, (HB.out.trans (HBEL.out _ hgw)).trans (hbel3 _ hgw)⟩
end Go.Proofs.YtbkdoohhdkahiaaGreatDoor

/- code.Puts and Gets; the program that the laws begin with; SameCode of the same. -/
import Derived.Test.YtehhhiodfcdnmaaGreatDoorR1
import Derived.Deep.AppendLies
import Derived.Deep.LoopGhost
import Derived.Test.YtehhhiodfcdnmaaGreatDoorR0
namespace Go.Proofs.YtehhhiodfcdnmaaGreatDoor
set_option linter.unusedSimpArgs false
set_option linter.unusedVariables false
set_option maxRecDepth 100000
set_option maxHeartbeats 2000000
open Go.RowKit Go.Sort
def hasC (l : List Ins) (op : Int) (c : Nat) : Bool := l.any fun i => i.op == op && i.n == (c : Int)
theorem hasC_snoc (l : List Ins) (i : Ins) (op : Int) (c : Nat) : hasC (l ++ [i]) op c = (hasC l op c || (i.op == op && i.n == (c : Int))) := by simp [hasC]
theorem take_snoc' {α : Type} (l : List α) (k : Nat) (h : k < l.length) : l.take (k + 1) = l.take k ++ [l[k]] := List.take_succ_eq_append_getElem h
def chanL (l : List Ins) (op : Int) (m : Nat) : List Int := ((List.range m).filter (hasC l op)).map fun c : Nat => (c : Int)
theorem chanL_succ (l : List Ins) (op : Int) (m : Nat) : chanL l op (m + 1) = chanL l op m ++ (if hasC l op m then [(m : Int)] else []) := by
 unfold chanL
 rw [List.range_succ, List.filter_append, List.map_append]
 congr 1
 cases h : hasC l op m <;> simp [h]
theorem chanL_len (l : List Ins) (op : Int) (m : Nat) : (chanL l op m).length ≤ m := by
 unfold chanL
 rw [List.length_map]
 exact Nat.le_trans (List.length_filter_le _ _) (by simp)
theorem run_index6 (cs : Array Value) (c : Nat) (v : Value) (h : cs[c]? = some v) (hc : c < 6) (w : World) : (Instr.index 217 (.agg cs) (.int .i64 c)).run Tryz.prog w = .ok v w := by
 have hc' : (c : Int) < 6 := by omega
 simp [Instr.index, run_underlying Tryz.underlying217, asIntOf, go_sem, hc', h]
 intro h6; omega
theorem six_at (f : Nat → Bool) (c : Nat) (h : c < 6) : (#[Value.bool (f 0), .bool (f 1), .bool (f 2), .bool (f 3), .bool (f 4), .bool (f 5)])[c]? = some (.bool (f c)) := by
 match c, h with
 | 0, _ => rfl
 | 1, _ => rfl
 | 2, _ => rfl
 | 3, _ => rfl
 | 4, _ => rfl
 | 5, _ => rfl
theorem info3 : (Tryz.prog.info? 3).map (fun i => (i.zero, i.size, i.bytes)) = some (some (.int .i64 0), 1, 8) := by kernel_rfl
theorem int_cell (z : Int) : ∀ u ∈ [Value.int .i64 z], u.oneCell' = true := by
 intro u hu; simp at hu; subst hu; rfl
theorem ints_step {w wr w1 : World} {v v' : Value} {zs : List Int} {z : Int} {o : Obj} (hbel : Below w.heap.size w wr) (hown0 : wr.ownsRow w.heap.size 3 1 v zs.length (ints zs))
  (hown1 : w1.ownsRow w.heap.size 3 1 v' (zs.length + 1) (ints zs ++ [.int .i64 z])) (hgrow : (wr.alloc o).grownBy w1 v.ownBlock) :
  w1.ownsRow w.heap.size 3 1 v' (zs ++ [z]).length (ints (zs ++ [z])) ∧ Below w.heap.size w w1 := by
 refine ⟨by simpa [ints] using hown1, ?_⟩
 exact (hbel.alloc hbel.size o).grown hgrow (by have := hbel.size; simp; omega) (own_block hown0)
theorem chk_chan {i : Ins} (h : i.chk = 0) (ho : i.op = 12 ∨ i.op = 13) : 0 ≤ i.n ∧ i.n < 6 := by
 have hN : rowN i.op.toNat = true := by rcases ho with e | e <;> rw [e] <;> rfl
 have hL : rowLo i.op.toNat = 0 := by rcases ho with e | e <;> rw [e] <;> rfl
 have hH : rowHi i.op.toNat = 5 := by rcases ho with e | e <;> rw [e] <;> rfl
 unfold Ins.chk chkI at h
 rw [if_neg om] at h
 unfold chkRow at h
 rw [hN, hL, hH] at h
 split at h
 ·omega
 ·rename_i hc
  simp only [Bool.or_eq_true, Bool.and_eq_true, Bool.true_and, decide_eq_true_eq, not_or] at hc
  omega
structure Marks (w wr : World) (A : Nat) (l : List Ins) (op : Int) : Prop where
 c : ∀ j, j < 6 → wr.cell? ⟨A, j, none⟩ = some (.bool (hasC l op j))
 f : ∀ j, wr.frozen? ⟨A, j, none⟩ = false
 lt : A < wr.heap.size
 ge : w.heap.size ≤ A
 up : Below w.heap.size w wr
theorem Marks.go {w wr w2 : World} {A : Nat} {l : List Ins} {op : Int} (h : Marks w wr A l op) (hb : Below wr.heap.size wr w2) : Marks w w2 A l op :=
 ⟨fun j hj => bcl hb h.lt (h.c j hj), fun j => bfr hb h.lt (h.f j), Nat.lt_of_lt_of_le h.lt hb.size, h.ge, h.up.trans (hb.mono h.up.size)⟩
theorem Marks.hit {w wr : World} {A : Nat} {l : List Ins} {op : Int} {i : Ins} (h : Marks w wr A l op) (hop : (i.op == op) = true) (m : Nat) (hm : i.n = m) (h6 : m < 6) : Marks w (wr.setCell ⟨A, m, none⟩ (.bool true)) A (l ++ [i]) op := by
 refine ⟨fun j hj => ?_, fun j => fr_set (h.f j), by rw [size_set]; exact h.lt, h.ge, h.up.setCell h.ge _⟩
 rw [hasC_snoc, hop, hm]
 by_cases e : j = m
 ·subst e
  rw [cl_same (h.c j hj)]; simp
 ·rw [cl_set (Or.inr e) (h.c j hj)]
  have : ((m : Int) == (j : Int)) = false := by simp; omega
  rw [this]; simp
theorem Marks.miss {w wr : World} {A : Nat} {l : List Ins} {op : Int} {i : Ins} (h : Marks w wr A l op) (hop : (i.op == op) = false) : Marks w wr A (l ++ [i]) op :=
 ⟨fun j hj => by rw [hasC_snoc, hop]; simpa using h.c j hj, h.f, h.lt, h.ge, h.up⟩
theorem channels_yes (l : List Ins) (op : Int) (hop : op = 12 ∨ op = 13) (v : Value) (w : World) (he : Env w) (hS : Sl w 4 v l.length (codeC l)) (hc0 : chkC l = 0) :
  Calls Tryz.prog 150 #[v, .int .i64 op] w fun e w' => ∃ v', e = .returned (.tuple #[v', .int .i64 0]) ∧ w'.ownsRow w.heap.size 3 1 v' (chanL l op 6).length (ints (chanL l op 6)) ∧ Below w.heap.size w w' := by
 obtain ⟨hl1, hl20, hz⟩ := chkC_zero hc0
 obtain ⟨i0, hi, hz0, hz1, hz2⟩ := info_parts info3
 obtain ⟨b, off, cap, rfl, hcap, hbw, hc⟩ := hS.open om
 have HS := hd hS
 have HC := hd hc
 have HZ := hd hz
 have H0 := hd hc0
 have HO := hd hop
 clear hS hc hz hc0 hop
 go_enter Tryz.func150, Tryz.ntmps150
 go_wp2_with (go_at_call 89; refine (codeCheck_any l _ _ he HS.out).mono ?_; rw [H0.out]; rintro e w1 ⟨rfl, hb1⟩; refine Hid.out ?_)
 have hbw1 : b < w1.heap.size := Nat.lt_of_lt_of_le hbw hb1.size
 have HC1 : Hid (∀ j u, (codeC l)[j]? = some u → w1.cell? ⟨b, off + j, none⟩ = some u) := fun j u hj => bcl hb1 hbw (HC.out j u hj)
 have HM : Hid (Marks w (w1.alloc (.cells #[.bool false, .bool false, .bool false, .bool false, .bool false, .bool false] 217)) w1.heap.size [] op) := by
  refine ⟨fun j hj => ?_, fun j => by simp, by simp, hb1.size, hb1.alloc hb1.size _⟩
  rw [World.cell?_alloc_new]
  match j, hj with
  | 0, _ => rfl
  | 1, _ => rfl
  | 2, _ => rfl
  | 3, _ => rfl
  | 4, _ => rfl
  | 5, _ => rfl
 clear hb1
 refine hd ?_
 go_wp2
 go_loopw [20] (fun i wr => ∃ k : Nat, i = .int .i64 k ∧ k ≤ l.length ∧ Hid (Marks w wr w1.heap.size (l.take k) op) ∧ Hid (Below w1.heap.size w1 wr)) (fun i _ => l.length - (intOf i).toNat)
 case atStart => exact ⟨0, rfl, Nat.zero_le _, HM, Below.alloc (Below.refl _ _) (Nat.le_refl _) _⟩
 case round =>
  obtain ⟨k, rfl, hk, HK, HB⟩ := hrel
  by_cases hlt : k < l.length
  ·obtain ⟨c0, c1, c2, c3⟩ := code_cells HC1.out k hlt
   have c0 := bcl HB.out hbw1 c0
   have c1 := bcl HB.out hbw1 c1
   have c2 := bcl HB.out hbw1 c2
   have c3 := bcl HB.out hbw1 c3
   have hbr : b < wr.heap.size := Nat.lt_of_lt_of_le hbw1 HB.out.size
   have hAr := HK.out.lt
   have i1 : (k : Int) < l.length := by omega
   have HT := hd (take_snoc' l k hlt)
   generalize hq : (l[k].op == op) = q
   cases q
   ·have HM2 := hd ((HK.out.miss hq).go (w2 := wr.alloc (.cells #[.int .i64 l[k].op, .int .i64 l[k].a, .int .i64 l[k].b, .int .i64 l[k].n] 83)) ((Below.refl _ _).alloc (Nat.le_refl _) _))
    go_wp2
    go_roundw
    case rel => exact ⟨k + 1, by go_num, by omega, by rw [HT.out]; exact HM2, HB.out.alloc HB.out.size _⟩
    case measure => simp [intOf]; omega
   ·obtain ⟨m, hm, hm6⟩ : ∃ m : Nat, l[k].n = m ∧ m < 6 := by
     have e : l[k].op = op := by simpa using hq
     have := chk_chan (HZ.out k hlt) (by rw [e]; exact HO.out)
     exact ⟨l[k].n.toNat, by omega, by omega⟩
    have HM2 := hd ((HK.out.hit hq m hm hm6).go (w2 := (wr.setCell ⟨w1.heap.size, m, none⟩ (.bool true)).alloc (.cells #[.int .i64 l[k].op, .int .i64 l[k].a, .int .i64 l[k].b, .int .i64 (m : Int)] 83)) ((Below.refl _ _).alloc (Nat.le_refl _) _))
    rw [hm] at c3
    have fA := HK.out.f m
    have cA := HK.out.c m hm6
    have i2 : (m : Int) < 6 := by omega
    have i3 : (0 : Int) ≤ m := by omega
    clear hm
    go_wp2
    go_roundw
    case rel => exact ⟨k + 1, by go_num, by omega, by rw [HT.out]; exact HM2, (HB.out.setCell (Nat.le_refl _) _).alloc (by rw [size_set]; exact HB.out.size) _⟩
    case measure => simp [intOf]; omega
  ·obtain rfl : k = l.length := by omega
   have hm := HK.out
   rw [List.take_length] at hm
   have a0 := hm.c 0 (by decide)
   have a1 := hm.c 1 (by decide)
   have a2 := hm.c 2 (by decide)
   have a3 := hm.c 3 (by decide)
   have a4 := hm.c 4 (by decide)
   have a5 := hm.c 5 (by decide)
   have hup := hm.up
   have HU := hd hup
   clear hm HK HM hup HC1
   have i1 : ¬ ((l.length : Int) < l.length) := by omega
   obtain ⟨wo, rfl⟩ : ∃ wo : World, wo = wr := ⟨_, rfl⟩
   go_wp2
   go_loopw [10, 33] (fun o i wr => ∃ (c : Nat) (zs : List Int), i = .int .i64 c ∧ c ≤ 6 ∧ Hid (zs = chanL l op c) ∧ zs.length ≤ c ∧ wr.ownsRow w.heap.size 3 1 o zs.length (ints zs) ∧ Below w.heap.size w wr) (fun _ i _ => 6 - (intOf i).toNat)
   case atStart => exact ⟨0, [], rfl, by omega, (show [] = chanL l op 0 from rfl), Nat.le_refl _, World.ownsRow_nil _ _ _ _, HU⟩
   case round =>
    obtain ⟨c, zs, rfl, hcc, HZZ, hzl, hown, hbel⟩ := hrel
    obtain ⟨ao, cp, rfl⟩ := own_form hown
    have hbs := hbel.size
    by_cases hlt : c < 6
    ·have HC1 := hd (chanL_succ l op c)
     have hix := run_index6 _ c _ (six_at (hasC l op) c hlt) hlt
     have hlc : (c : Int) < 6 := by omega
     generalize hqb : hasC l op c = qb at hix
     cases qb
     ·have HZ2 : Hid (zs = chanL l op (c + 1)) := by
       show zs = _
       rw [HC1.out, hqb, HZZ.out]; simp
      clear hqb HC1 HZZ a0 a1 a2 a3 a4 a5
      go_wp2
      go_roundw
      case rel => exact ⟨c + 1, zs, by go_num, by omega, HZ2, by omega, hown, hbel⟩
      case measure => simp [intOf]; omega
     ·have HZ2 : Hid (zs ++ [(c : Int)] = chanL l op (c + 1)) := by
       show _ = _
       rw [HC1.out, hqb, HZZ.out]; simp
      clear hqb HC1 HZZ a0 a1 a2 a3 a4 a5
      go_wp2_with (at_builtin; refine wpList_append_lies _ rfl (.tmp 38) (.tmp 40) 33 rfl w.heap.size 3 i0 (.int .i64 0) 1 8 Tryz.underlying33 hi hz0 hz1 hz2 rfl (by decide) (.slice ao zs.length cp) zs.length (ints zs) rfl (hown.alloc _) ⟨_, 0, none⟩ 1 1 [.int .i64 c] rfl rfl (one_new _ _ 3) (int_cell _) (by decide) (by unfold maxLen; omega) om so _ rfl ?_; intro g cap1 w2 hown1 hgrow hat hglt)
      have R := ints_step hbel hown hown1 hgrow
      clear hown1 hgrow hown hat
      go_wp2
      go_roundw
      case rel => exact ⟨c + 1, zs ++ [(c : Int)], by go_num, by omega, HZ2, by simp; omega, R.1, R.2⟩
      case measure => simp [intOf]; omega
    ·have hlc : ¬ (c : Int) < 6 := by omega
     obtain rfl : c = 6 := by omega
     go_wp2
     go_ret2
     exact ⟨_, rfl, by rw [← HZZ.out]; exact hown, hbel⟩
theorem puts_yes (l : List Ins) (v : Value) (w : World) (he : Env w) (hS : Sl w 4 v l.length (codeC l)) (hc0 : chkC l = 0) :
  Calls Tryz.prog 125 #[v] w fun e w' => ∃ v', e = .returned (.tuple #[v', .int .i64 0]) ∧ Sl w' 1 v' (chanL l 12 6).length (ints (chanL l 12 6)) ∧ Below w.heap.size w w' := by
 go_enter Tryz.func125, Tryz.ntmps125
 go_wp2_with (go_at_call 150; refine (channels_yes l 12 (Or.inl rfl) v _ he hS hc0).mono ?_; rintro e w1 ⟨v', rfl, hown, hb1⟩)
 go_ret2
 exact ⟨v', rfl, own_sl hown, hb1⟩
theorem gets_yes (l : List Ins) (v : Value) (w : World) (he : Env w) (hS : Sl w 4 v l.length (codeC l)) (hc0 : chkC l = 0) :
  Calls Tryz.prog 128 #[v] w fun e w' => ∃ v', e = .returned (.tuple #[v', .int .i64 0]) ∧ Sl w' 1 v' (chanL l 13 6).length (ints (chanL l 13 6)) ∧ Below w.heap.size w w' := by
 go_enter Tryz.func128, Tryz.ntmps128
 go_wp2_with (go_at_call 150; refine (channels_yes l 13 (Or.inr rfl) v _ he hS hc0).mono ?_; rintro e w1 ⟨v', rfl, hown, hb1⟩)
 go_ret2
 exact ⟨v', rfl, own_sl hown, hb1⟩
def rowC {α : Type} (f : α → List Value) (l : List α) : List Value := l.flatMap f
theorem rowC_len {α : Type} {f : α → List Value} {s : Nat} (hs : ∀ x, (f x).length = s) : ∀ l : List α, (rowC f l).length = l.length * s
 | [] => by simp [rowC]
 | x :: r => by
  have := rowC_len hs r
  unfold rowC at this ⊢
  rw [List.flatMap_cons, List.length_append, this, hs x, List.length_cons, Nat.succ_mul]; omega
theorem rowC_at {α : Type} {f : α → List Value} {s : Nat} (hs : ∀ x, (f x).length = s) : ∀ (l : List α) (k j : Nat) (h : k < l.length), j < s → (rowC f l)[k * s + j]? = (f l[k])[j]?
 | x :: r, 0, j, _, hj => by
  unfold rowC
  rw [List.flatMap_cons, List.getElem?_append_left (by rw [hs]; omega)]; simp
 | x :: r, k + 1, j, h, hj => by
  have := rowC_at hs r k j (by simpa using h) hj
  unfold rowC at this ⊢
  rw [List.flatMap_cons, List.getElem?_append_right (by rw [hs, Nat.succ_mul]; omega)]
  rw [show (k + 1) * s + j - (f x).length = k * s + j by rw [hs, Nat.succ_mul]; omega, this]
  rfl
structure Chn where
 kd : Int
 fr : Int
 tt : Int
structure Slt where
 pt : Int
 tk : Int
structure Prt where
 code : List Ins
 inn : List Int
structure SysD where
 parts : List Prt
 chans : List Chn
 slots : List Slt
def chC (c : Chn) : List Value := [.int .i64 c.kd, .int .i64 c.fr, .int .i64 c.tt]
def slC (c : Slt) : List Value := [.int .i64 c.pt, .int .i64 c.tk]
def prC (p : Value × Value) : List Value := [p.1, p.2]
theorem chan_cells {w : World} {b off : Nat} {l : List Chn} (hc : ∀ j u, (rowC chC l)[j]? = some u → w.cell? ⟨b, off + j, none⟩ = some u) (k : Nat) (h : k < l.length) :
  w.cell? ⟨b, off + k * 3, none⟩ = some (.int .i64 l[k].kd) ∧ w.cell? ⟨b, off + k * 3 + 1, none⟩ = some (.int .i64 l[k].fr) ∧ w.cell? ⟨b, off + k * 3 + 2, none⟩ = some (.int .i64 l[k].tt) := by
 refine ⟨?_, ?_, ?_⟩
 ·exact hc (k * 3) _ (by have := rowC_at (s := 3) (f := chC) (fun _ => rfl) l k 0 h (by decide); simpa [chC] using this)
 ·exact hc (k * 3 + 1) _ (by rw [rowC_at (s := 3) (f := chC) (fun _ => rfl) l k 1 h (by decide)]; rfl)
 ·exact hc (k * 3 + 2) _ (by rw [rowC_at (s := 3) (f := chC) (fun _ => rfl) l k 2 h (by decide)]; rfl)
theorem slot_cells {w : World} {b off : Nat} {l : List Slt} (hc : ∀ j u, (rowC slC l)[j]? = some u → w.cell? ⟨b, off + j, none⟩ = some u) (k : Nat) (h : k < l.length) :
  w.cell? ⟨b, off + k * 2, none⟩ = some (.int .i64 l[k].pt) ∧ w.cell? ⟨b, off + k * 2 + 1, none⟩ = some (.int .i64 l[k].tk) := by
 refine ⟨?_, ?_⟩
 ·exact hc (k * 2) _ (by have := rowC_at (s := 2) (f := slC) (fun _ => rfl) l k 0 h (by decide); simpa [slC] using this)
 ·exact hc (k * 2 + 1) _ (by rw [rowC_at (s := 2) (f := slC) (fun _ => rfl) l k 1 h (by decide)]; rfl)
theorem part_cells {w : World} {b off : Nat} {l : List (Value × Value)} (hc : ∀ j u, (rowC prC l)[j]? = some u → w.cell? ⟨b, off + j, none⟩ = some u) (k : Nat) (h : k < l.length) :
  w.cell? ⟨b, off + k * 2, none⟩ = some l[k].1 ∧ w.cell? ⟨b, off + k * 2 + 1, none⟩ = some l[k].2 := by
 refine ⟨?_, ?_⟩
 ·exact hc (k * 2) _ (by have := rowC_at (s := 2) (f := prC) (fun _ => rfl) l k 0 h (by decide); simpa [prC] using this)
 ·exact hc (k * 2 + 1) _ (by rw [rowC_at (s := 2) (f := prC) (fun _ => rfl) l k 1 h (by decide)]; rfl)
structure PrtR (w : World) (c i : Value) (p : Prt) : Prop where
 code : Sl w 4 c p.code.length (codeC p.code)
 inn : Sl w 1 i p.inn.length (ints p.inn)
theorem PrtR.up {w w' : World} {c i : Value} {p : Prt} (h : PrtR w c i p) (hb : Below w.heap.size w w') : PrtR w' c i p := ⟨h.code.up hb, h.inn.up hb⟩
def PartsR (w : World) (v : Value) (ps : List Prt) : Prop :=
 ∃ vs : List (Value × Value), vs.length = ps.length ∧ Sl w 2 v ps.length (rowC prC vs) ∧ ∀ k (hk : k < ps.length) (hk' : k < vs.length), PrtR w vs[k].1 vs[k].2 ps[k]
theorem PartsR.up {w w' : World} {v : Value} {ps : List Prt} (h : PartsR w v ps) (hb : Below w.heap.size w w') : PartsR w' v ps := by
 obtain ⟨vs, h1, h2, h3⟩ := h
 exact ⟨vs, h1, h2.up hb, fun k hk hk' => (h3 k hk hk').up hb⟩
theorem PartsR.form {w : World} {v : Value} {ps : List Prt} (h : PartsR w v ps) : ∃ ao cap, v = .slice ao ps.length cap := by
 obtain ⟨vs, h1, h2, h3⟩ := h
 exact h2.form
theorem PartsR.open {w : World} {v : Value} {ps : List Prt} (h : PartsR w v ps) (hn : 0 < ps.length) :
  ∃ b off cap, v = .slice (some ⟨b, off, none⟩) ps.length cap ∧ ps.length ≤ cap ∧ b < w.heap.size ∧ ∀ k (hk : k < ps.length), ∃ c i, w.cell? ⟨b, off + k * 2, none⟩ = some c ∧ w.cell? ⟨b, off + k * 2 + 1, none⟩ = some i ∧ PrtR w c i ps[k] := by
 obtain ⟨vs, h1, h2, h3⟩ := h
 obtain ⟨b, off, cap, e, hcap, hb, hc⟩ := h2.open hn
 refine ⟨b, off, cap, e, hcap, hb, fun k hk => ?_⟩
 have hk' : k < vs.length := by omega
 obtain ⟨c0, c1⟩ := part_cells hc k hk'
 exact ⟨_, _, c0, c1, h3 k hk hk'⟩
structure Sys (w : World) (vp vc vs : Value) (S : SysD) : Prop where
 p : PartsR w vp S.parts
 c : Sl w 3 vc S.chans.length (rowC chC S.chans)
 s : Sl w 2 vs S.slots.length (rowC slC S.slots)
theorem Sys.up {w w' : World} {vp vc vs : Value} {S : SysD} (h : Sys w vp vc vs S) (hb : Below w.heap.size w w') : Sys w' vp vc vs S := ⟨h.p.up hb, h.c.up hb, h.s.up hb⟩
def SysD.ok (S : SysD) : Prop := ∀ p ∈ S.parts, ∀ j (hj : j < p.code.length), p.code[j].ok
def countsB (S : SysD) : Bool := decide (1 ≤ S.parts.length ∧ S.parts.length ≤ 4 ∧ S.chans.length ≤ 6 ∧ 1 ≤ S.slots.length ∧ S.slots.length ≤ 6) && !(S.parts.any fun p => decide (12 < p.inn.length))
def firstP : List Prt → Int
 | [] => 0
 | p :: r => if chkC p.code = 0 then firstP r else chkC p.code
theorem firstP_at : ∀ (l : List Prt) (k : Nat) (h : k < l.length), (∀ j (hj : j < l.length), j < k → chkC l[j].code = 0) → chkC l[k].code ≠ 0 → firstP l = chkC l[k].code
 | i :: r, 0, _, _, hne => by rw [firstP, if_neg (show ¬ chkC i.code = 0 from hne)]; rfl
 | i :: r, k + 1, h, hz, hne => by
  rw [firstP, if_pos (show chkC i.code = 0 from hz 0 (by simp) om)]
  exact firstP_at r k (by simpa using h) (fun j hj hlt => hz (j + 1) (by simpa using hj) om) hne
theorem firstP_all : ∀ l : List Prt, (∀ j (hj : j < l.length), chkC l[j].code = 0) → firstP l = 0
 | [], _ => rfl
 | i :: r, hz => by
  rw [firstP, if_pos (show chkC i.code = 0 from hz 0 (by simp))]
  exact firstP_all r (fun j hj => hz (j + 1) (by simpa using hj))
theorem firstP_zero : ∀ {l : List Prt}, firstP l = 0 → ∀ j (hj : j < l.length), chkC l[j].code = 0
 | i :: r, h, j, hj => by
  rw [firstP] at h
  by_cases hc : chkC i.code = 0
  ·rw [if_pos hc] at h
   cases j with
   | zero => exact hc
   | succ j => exact firstP_zero h j (by simpa using hj)
  ·rw [if_neg hc] at h; exact absurd h hc
def kindBad (c : Chn) : Bool := c.kd != 1 && c.kd != 2
def placeBad (n : Nat) (c : Chn) : Bool := !(withinB c.fr 0 (n - 1)) || !(withinB c.tt 0 (n - 1)) || c.fr == c.tt
def slotBad (n : Nat) (t : Slt) : Bool := !(withinB t.pt 0 (n - 1)) || !(withinB t.tk 1 8)
def placesB (S : SysD) : Bool := !(S.chans.any (placeBad S.parts.length)) && !(S.slots.any (slotBad S.parts.length))
def putBad (l : List Chn) (me : Int) (c : Int) : Bool := match l[c.toNat]? with | none => true | some x => x.fr != me
def getBad (l : List Chn) (me : Int) (c : Int) : Bool := match l[c.toNat]? with | none => true | some x => x.tt != me
def nameBad (l : List Chn) (me : Int) (p : Prt) : Bool := (chanL p.code 12 6).any (putBad l me) || (chanL p.code 13 6).any (getBad l me)
def namesFrom (l : List Chn) : Nat → List Prt → Bool
 | _, [] => true
 | k, p :: r => if nameBad l k p then false else namesFrom l (k + 1) r
def namesB (S : SysD) : Bool := namesFrom S.chans 0 S.parts
def chkS (S : SysD) : Int :=
 if countsB S = false then 2 else if firstP S.parts ≠ 0 then firstP S.parts else if S.chans.any kindBad = true then 4 else if placesB S = false then 3 else if namesB S = false then 1 else 0
theorem cwithin_any (n lo hi : Int) (w : World) : Calls Tryz.prog 118 #[.int .i64 n, .int .i64 lo, .int .i64 hi] w fun e w' => e = .returned (.bool (withinB n lo hi)) ∧ w' = w := by
 by_cases h : lo ≤ n
 all_goals
  go_enter Tryz.func118, Tryz.ntmps118
  go_wp2
  go_ret
  exact ⟨ret_bool (by simp [withinB]; try omega), rfl⟩
theorem isPart_any (ao : Option Addr) (n cap : Nat) (vc vs : Value) (x : Int) (w : World) (hn : n ≤ 1000) :
  Calls Tryz.prog 79 #[.agg #[.slice ao n cap, vc, vs], .int .i64 x] w fun e w' => e = .returned (.bool (withinB x 0 ((n : Int) - 1))) ∧ Below w.heap.size w w' := by
 go_enter Tryz.func79, Tryz.ntmps79
 go_wp2_with (go_at_call 118; refine (cwithin_any _ _ _ _).mono ?_; rintro e w' ⟨rfl, rfl⟩)
 go_ret
 exact ⟨rfl, up0⟩
theorem any_mem {α : Type} {l : List α} {p : α → Bool} {k : Nat} (h : k < l.length) (hp : p l[k] = true) : l.any p = true := by
 rw [List.any_eq_true]
 exact ⟨l[k], List.getElem_mem h, hp⟩
theorem any_take {α : Type} {l : List α} {p : α → Bool} {k : Nat} (h : k < l.length) (h0 : (l.take k).any p = false) (hp : p l[k] = false) : (l.take (k + 1)).any p = false := by
 rw [List.take_succ_eq_append_getElem h, List.any_append, h0]; simp [hp]
theorem any_all {α : Type} {l : List α} {p : α → Bool} {k : Nat} (h : ¬ k < l.length) (h0 : (l.take k).any p = false) : l.any p = false := by
 rwa [List.take_of_length_le om] at h0
theorem oneChan_any (l : List Chn) (v : Value) (f : Nat) (hen : Enters f) (caps : Array Value) (p : Chn → Bool) (w : World) (hS : Sl w 3 v l.length (rowC chC l)) (hl : l.length ≤ 1000)
  (hf : ∀ k (hk : k < l.length) w1, Below w.heap.size w w1 → Calls Tryz.prog f (#[.agg #[.int .i64 l[k].kd, .int .i64 l[k].fr, .int .i64 l[k].tt]] ++ caps) w1 fun e w2 => e = .returned (.bool (p l[k])) ∧ Below w1.heap.size w1 w2) (r : Bool) (hr : l.any p = r) :
  Calls Tryz.prog 90 #[v, .func (.func f) #[] caps] w fun e w' => e = .returned (.bool r) ∧ Below w.heap.size w w' := by
 obtain ⟨ao, cap, rfl⟩ := hS.form
 have HS := hd hS
 have HF := hd hf
 have HR := hd hr
 clear hS hf hr
 unfold Enters at hen
 go_enter Tryz.func90, Tryz.ntmps90
 go_wp2
 go_loopw [9] (fun i wr => ∃ k : Nat, i = .int .i64 k ∧ k ≤ l.length ∧ Hid ((l.take k).any p = false) ∧ Below w.heap.size w wr) (fun i _ => l.length - (intOf i).toNat)
 case atStart => exact ⟨0, rfl, Nat.zero_le _, (show ((l.take 0).any p = false) by simp), Below.refl _ _⟩
 case round =>
  obtain ⟨k, rfl, hk, HZ, hbel⟩ := hrel
  by_cases hlt : k < l.length
  ·have hli : (k : Int) < l.length := by omega
   obtain ⟨b, off, cap', e1, hcap, hbw, hc⟩ := HS.out.open om
   cases e1
   obtain ⟨c0, c1, c2⟩ := chan_cells hc k hlt
   have c0 := bcl hbel hbw c0
   have c1 := bcl hbel hbw c1
   have c2 := bcl hbel hbw c2
   have HC := hd (HF.out k hlt)
   generalize hq : p l[k] = q at HC
   have HQ := hd hq
   clear hc hq
   go_wp2_with fail
   refine (HC.out _ (hbel.alloc hbel.size _)).mono ?_
   rintro e w2 ⟨rfl, bb⟩
   have D := hd ((hbel.alloc hbel.size _).trans (bb.mono (by have := hbel.size; simp; omega)))
   clear bb HC c0 c1 c2
   cases q
   ·have HZ1 := hd (any_take hlt HZ.out HQ.out)
    go_wp2
    go_roundw
    case rel => exact ⟨k + 1, by go_num, by omega, HZ1, D.out⟩
    case measure => simp [intOf]; omega
   ·have HZ1 := hd (any_mem hlt HQ.out)
    go_wp2
    go_ret
    exact ⟨ret_bool (by rw [← HR.out, HZ1.out]), D.out⟩
  ·have hli : ¬ (k : Int) < l.length := by omega
   have HZ1 := hd (any_all hlt HZ.out)
   go_wp2
   go_ret
   exact ⟨ret_bool (by rw [← HR.out, HZ1.out]), hbel⟩
theorem oneSlot_any (l : List Slt) (v : Value) (f : Nat) (hen : Enters f) (caps : Array Value) (p : Slt → Bool) (w : World) (hS : Sl w 2 v l.length (rowC slC l)) (hl : l.length ≤ 1000)
  (hf : ∀ k (hk : k < l.length) w1, Below w.heap.size w w1 → Calls Tryz.prog f (#[.agg #[.int .i64 l[k].pt, .int .i64 l[k].tk]] ++ caps) w1 fun e w2 => e = .returned (.bool (p l[k])) ∧ Below w1.heap.size w1 w2) (r : Bool) (hr : l.any p = r) :
  Calls Tryz.prog 123 #[v, .func (.func f) #[] caps] w fun e w' => e = .returned (.bool r) ∧ Below w.heap.size w w' := by
 obtain ⟨ao, cap, rfl⟩ := hS.form
 have HS := hd hS
 have HF := hd hf
 have HR := hd hr
 clear hS hf hr
 unfold Enters at hen
 go_enter Tryz.func123, Tryz.ntmps123
 go_wp2
 go_loopw [9] (fun i wr => ∃ k : Nat, i = .int .i64 k ∧ k ≤ l.length ∧ Hid ((l.take k).any p = false) ∧ Below w.heap.size w wr) (fun i _ => l.length - (intOf i).toNat)
 case atStart => exact ⟨0, rfl, Nat.zero_le _, (show ((l.take 0).any p = false) by simp), Below.refl _ _⟩
 case round =>
  obtain ⟨k, rfl, hk, HZ, hbel⟩ := hrel
  by_cases hlt : k < l.length
  ·have hli : (k : Int) < l.length := by omega
   obtain ⟨b, off, cap', e1, hcap, hbw, hc⟩ := HS.out.open om
   cases e1
   obtain ⟨c0, c1⟩ := slot_cells hc k hlt
   have c0 := bcl hbel hbw c0
   have c1 := bcl hbel hbw c1
   have HC := hd (HF.out k hlt)
   generalize hq : p l[k] = q at HC
   have HQ := hd hq
   clear hc hq
   go_wp2_with fail
   refine (HC.out _ (hbel.alloc hbel.size _)).mono ?_
   rintro e w2 ⟨rfl, bb⟩
   have D := hd ((hbel.alloc hbel.size _).trans (bb.mono (by have := hbel.size; simp; omega)))
   clear bb HC c0 c1
   cases q
   ·have HZ1 := hd (any_take hlt HZ.out HQ.out)
    go_wp2
    go_roundw
    case rel => exact ⟨k + 1, by go_num, by omega, HZ1, D.out⟩
    case measure => simp [intOf]; omega
   ·have HZ1 := hd (any_mem hlt HQ.out)
    go_wp2
    go_ret
    exact ⟨ret_bool (by rw [← HR.out, HZ1.out]), D.out⟩
  ·have hli : ¬ (k : Int) < l.length := by omega
   have HZ1 := hd (any_all hlt HZ.out)
   go_wp2
   go_ret
   exact ⟨ret_bool (by rw [← HR.out, HZ1.out]), hbel⟩
theorem oneInt_any (l : List Int) (v : Value) (f : Nat) (hen : Enters f) (caps : Array Value) (p : Int → Bool) (w : World) (hS : Sl w 1 v l.length (ints l)) (hl : l.length ≤ 1000)
  (hf : ∀ k (hk : k < l.length) w1, Below w.heap.size w w1 → Calls Tryz.prog f (#[.int .i64 l[k]] ++ caps) w1 fun e w2 => e = .returned (.bool (p l[k])) ∧ Below w1.heap.size w1 w2) (r : Bool) (hr : l.any p = r) :
  Calls Tryz.prog 126 #[v, .func (.func f) #[] caps] w fun e w' => e = .returned (.bool r) ∧ Below w.heap.size w w' := by
 obtain ⟨ao, cap, rfl⟩ := hS.form
 have HS := hd hS
 have HF := hd hf
 have HR := hd hr
 clear hS hf hr
 unfold Enters at hen
 go_enter Tryz.func126, Tryz.ntmps126
 go_wp2
 go_loopw [9] (fun i wr => ∃ k : Nat, i = .int .i64 k ∧ k ≤ l.length ∧ Hid ((l.take k).any p = false) ∧ Below w.heap.size w wr) (fun i _ => l.length - (intOf i).toNat)
 case atStart => exact ⟨0, rfl, Nat.zero_le _, (show ((l.take 0).any p = false) by simp), Below.refl _ _⟩
 case round =>
  obtain ⟨k, rfl, hk, HZ, hbel⟩ := hrel
  by_cases hlt : k < l.length
  ·have hli : (k : Int) < l.length := by omega
   obtain ⟨b, off, cap', e1, hcap, hbw, hc⟩ := HS.out.open om
   cases e1
   have c0 := bcl hbel hbw (hc k _ (ints_at l k hlt))
   have HC := hd (HF.out k hlt)
   generalize hq : p l[k] = q at HC
   have HQ := hd hq
   clear hc hq
   go_wp2_with fail
   refine (HC.out _ hbel).mono ?_
   rintro e w2 ⟨rfl, bb⟩
   have D := hd (hbel.trans (bb.mono hbel.size))
   clear bb HC c0
   cases q
   ·have HZ1 := hd (any_take hlt HZ.out HQ.out)
    go_wp2
    go_roundw
    case rel => exact ⟨k + 1, by go_num, by omega, HZ1, D.out⟩
    case measure => simp [intOf]; omega
   ·have HZ1 := hd (any_mem hlt HQ.out)
    go_wp2
    go_ret
    exact ⟨ret_bool (by rw [← HR.out, HZ1.out]), D.out⟩
  ·have hli : ¬ (k : Int) < l.length := by omega
   have HZ1 := hd (any_all hlt HZ.out)
   go_wp2
   go_ret
   exact ⟨ret_bool (by rw [← HR.out, HZ1.out]), hbel⟩
theorem onePart_any (l : List Prt) (v : Value) (f : Nat) (hen : Enters f) (caps : Array Value) (p : Prt → Bool) (w : World) (hS : PartsR w v l) (hl : l.length ≤ 1000)
  (hf : ∀ k (hk : k < l.length) c i w1, PrtR w c i l[k] → Below w.heap.size w w1 → Calls Tryz.prog f (#[.agg #[c, i]] ++ caps) w1 fun e w2 => e = .returned (.bool (p l[k])) ∧ Below w1.heap.size w1 w2) (r : Bool) (hr : l.any p = r) :
  Calls Tryz.prog 119 #[v, .func (.func f) #[] caps] w fun e w' => e = .returned (.bool r) ∧ Below w.heap.size w w' := by
 obtain ⟨ao, cap, rfl⟩ := hS.form
 have HS := hd hS
 have HF := hd hf
 have HR := hd hr
 clear hS hf hr
 unfold Enters at hen
 go_enter Tryz.func119, Tryz.ntmps119
 go_wp2
 go_loopw [9] (fun i wr => ∃ k : Nat, i = .int .i64 k ∧ k ≤ l.length ∧ Hid ((l.take k).any p = false) ∧ Below w.heap.size w wr) (fun i _ => l.length - (intOf i).toNat)
 case atStart => exact ⟨0, rfl, Nat.zero_le _, (show ((l.take 0).any p = false) by simp), Below.refl _ _⟩
 case round =>
  obtain ⟨k, rfl, hk, HZ, hbel⟩ := hrel
  by_cases hlt : k < l.length
  ·have hli : (k : Int) < l.length := by omega
   obtain ⟨b, off, cap', e1, hcap, hbw, hc⟩ := HS.out.open om
   cases e1
   obtain ⟨c, i, c0, c1, hpr⟩ := hc k hlt
   obtain ⟨ca, cc, rfl⟩ := hpr.code.form
   obtain ⟨ia, ic, rfl⟩ := hpr.inn.form
   have c0 := bcl hbel hbw c0
   have c1 := bcl hbel hbw c1
   have HC := hd (fun w1 => HF.out k hlt _ _ w1 hpr)
   generalize hq : p l[k] = q at HC
   have HQ := hd hq
   clear hc hq hpr
   go_wp2_with fail
   refine (HC.out _ (hbel.alloc hbel.size _)).mono ?_
   rintro e w2 ⟨rfl, bb⟩
   have D := hd ((hbel.alloc hbel.size _).trans (bb.mono (by have := hbel.size; simp; omega)))
   clear bb HC c0 c1
   cases q
   ·have HZ1 := hd (any_take hlt HZ.out HQ.out)
    go_wp2
    go_roundw
    case rel => exact ⟨k + 1, by go_num, by omega, HZ1, D.out⟩
    case measure => simp [intOf]; omega
   ·have HZ1 := hd (any_mem hlt HQ.out)
    go_wp2
    go_ret
    exact ⟨ret_bool (by rw [← HR.out, HZ1.out]), D.out⟩
  ·have hli : ¬ (k : Int) < l.length := by omega
   have HZ1 := hd (any_all hlt HZ.out)
   go_wp2
   go_ret
   exact ⟨ret_bool (by rw [← HR.out, HZ1.out]), hbel⟩
theorem app0 (a : Value) : #[a] ++ (#[] : Array Value) = #[a] := by simp
theorem app1 (a b : Value) : #[a] ++ #[b] = #[a, b] := by simp
theorem app2 (a b c : Value) : #[a] ++ #[b, c] = #[a, b, c] := by simp
structure Box (w : World) (g : Nat) (vp vc vs : Value) : Prop where
 p : w.cell? ⟨g, 0, none⟩ = some vp
 c : w.cell? ⟨g, 1, none⟩ = some vc
 s : w.cell? ⟨g, 2, none⟩ = some vs
 lt : g < w.heap.size
theorem Box.up {w w' : World} {g : Nat} {vp vc vs : Value} (h : Box w g vp vc vs) (hb : Below w.heap.size w w') : Box w' g vp vc vs :=
 ⟨bcl hb h.lt h.p, bcl hb h.lt h.c, bcl hb h.lt h.s, Nat.lt_of_lt_of_le h.lt hb.size⟩
theorem box_new (w : World) (vp vc vs : Value) (t : TypeId) (g : Nat) (hg : g = w.heap.size) : Box (w.alloc (.cells #[vp, vc, vs] t)) g vp vc vs := by
 subst hg
 exact ⟨by simp, by simp, by simp, by simp⟩
theorem kindLit_any (c : Chn) (w : World) : Calls Tryz.prog 91 #[.agg #[.int .i64 c.kd, .int .i64 c.fr, .int .i64 c.tt]] w fun e w' => e = .returned (.bool (kindBad c)) ∧ Below w.heap.size w w' := by
 generalize h1 : (c.kd != 1) = q1
 generalize h2 : (c.kd != 2) = q2
 have HE : Hid (kindBad c = (q1 && q2)) := by show kindBad c = _; unfold kindBad; rw [h1, h2]
 cases q1 <;> cases q2
 all_goals
  go_enter Tryz.func91, Tryz.ntmps91
  go_wp2
  go_ret
  exact ⟨ret_bool (by rw [HE.out]; rfl), up0⟩
theorem countLit_any (ca : Option Addr) (cn cc : Nat) (ia : Option Addr) (n ic : Nat) (w : World) : Calls Tryz.prog 120 #[.agg #[.slice ca cn cc, .slice ia n ic]] w fun e w' => e = .returned (.bool (decide (12 < n))) ∧ Below w.heap.size w w' := by
 by_cases h : 12 < n
 all_goals
  go_enter Tryz.func120, Tryz.ntmps120
  go_wp2
  go_ret
  exact ⟨ret_bool so, up0⟩
theorem placeLit_any (c : Chn) (g : Nat) (ao : Option Addr) (n cap : Nat) (vc vs : Value) (w : World) (hn : n ≤ 1000) (hB : Box w g (.slice ao n cap) vc vs) (hc : ∃ a b d, vc = .slice a b d) (hs : ∃ a b d, vs = .slice a b d) :
  Calls Tryz.prog 122 #[.agg #[.int .i64 c.kd, .int .i64 c.fr, .int .i64 c.tt], .pointer (some ⟨g, 0, none⟩)] w fun e w' => e = .returned (.bool (placeBad n c)) ∧ Below w.heap.size w w' := by
 obtain ⟨a1, b1, d1, rfl⟩ := hc
 obtain ⟨a2, b2, d2, rfl⟩ := hs
 generalize h1 : withinB c.fr 0 ((n : Int) - 1) = q1
 generalize h2 : withinB c.tt 0 ((n : Int) - 1) = q2
 generalize h3 : (c.fr == c.tt) = q3
 have HE : Hid (placeBad n c = (!q1 || !q2 || q3)) := by show placeBad n c = _; unfold placeBad; rw [h1, h2, h3]
 have H1 := hd h1
 have H2 := hd h2
 have HB := hd hB
 have k0 := (HB.out.up (w' := w.alloc (.cells #[.int .i64 c.kd, .int .i64 c.fr, .int .i64 c.tt] 89)) ((Below.refl _ _).alloc (Nat.le_refl _) _)).p
 have k1 := (HB.out.up (w' := w.alloc (.cells #[.int .i64 c.kd, .int .i64 c.fr, .int .i64 c.tt] 89)) ((Below.refl _ _).alloc (Nat.le_refl _) _)).c
 have k2 := (HB.out.up (w' := w.alloc (.cells #[.int .i64 c.kd, .int .i64 c.fr, .int .i64 c.tt] 89)) ((Below.refl _ _).alloc (Nat.le_refl _) _)).s
 clear h1 h2 hB
 have hlt := HB.out.lt
 cases q1
 ·go_enter Tryz.func122, Tryz.ntmps122
  go_wp2_with fail
  refine (isPart_any ao n cap _ _ c.fr _ hn).mono ?_
  rw [H1.out]
  rintro e w1 ⟨rfl, bb⟩
  have D := hd (Below.trans (show Below w.heap.size w _ from up0) (bb.mono (by simp)))
  clear bb
  go_wp2
  go_ret
  exact ⟨ret_bool (by rw [HE.out]; rfl), D.out⟩
 ·go_enter Tryz.func122, Tryz.ntmps122
  go_wp2_with fail
  refine (isPart_any ao n cap _ _ c.fr _ hn).mono ?_
  rw [H1.out]
  rintro e w1 ⟨rfl, bb⟩
  have D := hd (Below.trans (show Below w.heap.size w _ from up0) (bb.mono (by simp)))
  have k0 := (HB.out.up D.out).p
  have k1 := (HB.out.up D.out).c
  have k2 := (HB.out.up D.out).s
  have m0 : w1.cell? ⟨w.heap.size, 0, none⟩ = some (.int .i64 c.kd) := bcl bb (by simp) (by simp)
  have m1 : w1.cell? ⟨w.heap.size, 1, none⟩ = some (.int .i64 c.fr) := bcl bb (by simp) (by simp)
  have m2 : w1.cell? ⟨w.heap.size, 2, none⟩ = some (.int .i64 c.tt) := bcl bb (by simp) (by simp)
  have z1 : w.heap.size < w1.heap.size := by have := bb.size; simp at this; omega
  clear bb
  go_wp2_with fail
  refine (isPart_any ao n cap _ _ c.tt _ hn).mono ?_
  rw [H2.out]
  rintro e w2 ⟨rfl, bb⟩
  have m1 : w2.cell? ⟨w.heap.size, 1, none⟩ = some (.int .i64 c.fr) := bcl bb z1 m1
  have m2 : w2.cell? ⟨w.heap.size, 2, none⟩ = some (.int .i64 c.tt) := bcl bb z1 m2
  have D := hd (D.out.trans (bb.mono (Nat.le_of_lt z1)))
  clear bb k0 k1 k2 m0 z1
  cases q2
  ·go_wp2
   go_ret
   exact ⟨ret_bool (by rw [HE.out]; rfl), D.out⟩
  ·cases q3
   all_goals
    go_wp2
    go_ret
    exact ⟨ret_bool (by rw [HE.out]; rfl), D.out⟩
theorem slotLit_any (c : Slt) (g : Nat) (ao : Option Addr) (n cap : Nat) (vc vs : Value) (w : World) (hn : n ≤ 1000) (hB : Box w g (.slice ao n cap) vc vs) (hc : ∃ a b d, vc = .slice a b d) (hs : ∃ a b d, vs = .slice a b d) :
  Calls Tryz.prog 124 #[.agg #[.int .i64 c.pt, .int .i64 c.tk], .pointer (some ⟨g, 0, none⟩)] w fun e w' => e = .returned (.bool (slotBad n c)) ∧ Below w.heap.size w w' := by
 obtain ⟨a1, b1, d1, rfl⟩ := hc
 obtain ⟨a2, b2, d2, rfl⟩ := hs
 generalize h1 : withinB c.pt 0 ((n : Int) - 1) = q1
 generalize h2 : withinB c.tk 1 8 = q2
 have HE : Hid (slotBad n c = (!q1 || !q2)) := by show slotBad n c = _; unfold slotBad; rw [h1, h2]
 have H1 := hd h1
 have H2 := hd h2
 have HB := hd hB
 have k0 := (HB.out.up (w' := w.alloc (.cells #[.int .i64 c.pt, .int .i64 c.tk] 105)) ((Below.refl _ _).alloc (Nat.le_refl _) _)).p
 have k1 := (HB.out.up (w' := w.alloc (.cells #[.int .i64 c.pt, .int .i64 c.tk] 105)) ((Below.refl _ _).alloc (Nat.le_refl _) _)).c
 have k2 := (HB.out.up (w' := w.alloc (.cells #[.int .i64 c.pt, .int .i64 c.tk] 105)) ((Below.refl _ _).alloc (Nat.le_refl _) _)).s
 clear h1 h2 hB
 have hlt := HB.out.lt
 go_enter Tryz.func124, Tryz.ntmps124
 go_wp2_with fail
 refine (isPart_any ao n cap _ _ c.pt _ hn).mono ?_
 rw [H1.out]
 rintro e w1 ⟨rfl, bb⟩
 have D := hd (Below.trans (show Below w.heap.size w _ from up0) (bb.mono (by simp)))
 have m1 : w1.cell? ⟨w.heap.size, 1, none⟩ = some (.int .i64 c.tk) := bcl bb (by simp) (by simp)
 clear bb k0 k1 k2
 cases q1
 ·go_wp2
  go_ret
  exact ⟨ret_bool (by rw [HE.out]; rfl), D.out⟩
 ·go_wp2_with fail
  refine (cwithin_any c.tk 1 8 _).mono ?_
  rw [H2.out]
  rintro e w2 ⟨rfl, rfl⟩
  cases q2
  all_goals
   go_wp2
   go_ret
   exact ⟨ret_bool (by rw [HE.out]; rfl), D.out⟩
end Go.Proofs.YtehhhiodfcdnmaaGreatDoor

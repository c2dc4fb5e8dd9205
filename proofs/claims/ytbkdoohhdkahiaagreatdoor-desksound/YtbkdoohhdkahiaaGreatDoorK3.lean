/- Programs as slices of instructions; slices that are read: what they hold, and that it stays. -/
import Derived.Test.YtbkdoohhdkahiaaGreatDoorK2
import Derived.Lib.Hide
import Derived.Test.YtbkdoohhdkahiaaGreatDoorProg
import Derived.Test.YtbkdoohhdkahiaaGreatDoorK0
import Derived.Deep.AppendLies
import Derived.Deep.LoopGhost
namespace Go.Proofs.YtbkdoohhdkahiaaGreatDoor
set_option linter.unusedSimpArgs false
set_option linter.unusedVariables false
open Go.RowKit Go.Sort
structure Ins where
  op : Int
  a : Int
  b : Int
  n : Int
def Ins.v (i : Ins) : Value := .agg #[.int .i64 i.op, .int .i64 i.a, .int .i64 i.b, .int .i64 i.n]
def Ins.cells (i : Ins) : List Value := [.int .i64 i.op, .int .i64 i.a, .int .i64 i.b, .int .i64 i.n]
def Ins.ok (i : Ins) : Prop := in64 i.op ∧ in64 i.a ∧ in64 i.b ∧ in64 i.n
def Ins.chk (i : Ins) : Int := chkI i.op i.a i.b i.n
def codeC : List Ins → List Value
  | [] => []
  | i :: r => i.cells ++ codeC r
theorem codeC_len : ∀ l : List Ins, (codeC l).length = l.length * 4
  | [] => rfl
  | i :: r => by rw [codeC, List.length_append, codeC_len r]; simp [Ins.cells]; omega
theorem codeC_at : ∀ (l : List Ins) (k j : Nat) (h : k < l.length), j < 4 → (codeC l)[k * 4 + j]? = l[k].cells[j]?
  | i :: r, 0, j, _, hj => by
    rw [codeC, List.getElem?_append_left (by simp [Ins.cells]; omega)]; simp
  | i :: r, k + 1, j, h, hj => by
    rw [codeC, List.getElem?_append_right (by simp [Ins.cells]; omega)]
    have := codeC_at r k j (by simpa using h) hj
    rw [show (k + 1) * 4 + j - i.cells.length = k * 4 + j by simp [Ins.cells]; omega, this]
    rfl
theorem code_cells {w : World} {b off : Nat} {l : List Ins} (hc : ∀ j u, (codeC l)[j]? = some u → w.cell? ⟨b, off + j, none⟩ = some u) (k : Nat) (h : k < l.length) :
    w.cell? ⟨b, off + k * 4, none⟩ = some (.int .i64 l[k].op) ∧ w.cell? ⟨b, off + k * 4 + 1, none⟩ = some (.int .i64 l[k].a) ∧ w.cell? ⟨b, off + k * 4 + 2, none⟩ = some (.int .i64 l[k].b) ∧ w.cell? ⟨b, off + k * 4 + 3, none⟩ = some (.int .i64 l[k].n) := by
  refine ⟨?_, ?_, ?_, ?_⟩
  · exact hc (k * 4) _ (by have := codeC_at l k 0 h (by decide); simpa [Ins.cells] using this)
  · exact hc (k * 4 + 1) _ (by rw [codeC_at l k 1 h (by decide)]; rfl)
  · exact hc (k * 4 + 2) _ (by rw [codeC_at l k 2 h (by decide)]; rfl)
  · exact hc (k * 4 + 3) _ (by rw [codeC_at l k 3 h (by decide)]; rfl)
def firstE : List Ins → Int
  | [] => 0
  | i :: r => if i.chk = 0 then firstE r else i.chk
def chkC (l : List Ins) : Int := if l.length < 1 ∨ 20 < l.length then 2 else firstE l
theorem firstE_at : ∀ (l : List Ins) (k : Nat) (h : k < l.length), (∀ j (hj : j < l.length), j < k → l[j].chk = 0) → l[k].chk ≠ 0 → firstE l = l[k].chk
  | i :: r, 0, _, _, hne => by rw [firstE, if_neg (show ¬ i.chk = 0 from hne)]; rfl
  | i :: r, k + 1, h, hz, hne => by
    rw [firstE, if_pos (show i.chk = 0 from hz 0 (by simp) (by omega))]
    exact firstE_at r k (by simpa using h) (fun j hj hlt => hz (j + 1) (by simpa using hj) (by omega)) hne
theorem firstE_all : ∀ l : List Ins, (∀ j (hj : j < l.length), l[j].chk = 0) → firstE l = 0
  | [], _ => rfl
  | i :: r, hz => by
    rw [firstE, if_pos (show i.chk = 0 from hz 0 (by simp))]
    exact firstE_all r (fun j hj => hz (j + 1) (by simpa using hj))
theorem firstE_zero : ∀ {l : List Ins}, firstE l = 0 → ∀ j (hj : j < l.length), l[j].chk = 0
  | i :: r, h, j, hj => by
    rw [firstE] at h
    by_cases hc : i.chk = 0
    · rw [if_pos hc] at h
      cases j with
      | zero => exact hc
      | succ j => exact firstE_zero h j (by simpa using hj)
    · rw [if_neg hc] at h; exact absurd h hc
theorem chkC_zero {l : List Ins} (h : chkC l = 0) : 1 ≤ l.length ∧ l.length ≤ 20 ∧ ∀ j (hj : j < l.length), l[j].chk = 0 := by
  unfold chkC at h
  by_cases hl : l.length < 1 ∨ 20 < l.length
  · rw [if_pos hl] at h; omega
  · rw [if_neg hl] at h
    exact ⟨by omega, by omega, firstE_zero h⟩
set_option maxHeartbeats 1000000 in
theorem codeCheck_any (l : List Ins) (v : Value) (w : World) (he : Env w) (hS : Sl w 4 v l.length (codeC l)) : Calls Tryz.prog 77 #[v] w fun e w' => e = .returned (.int .i64 (chkC l)) ∧ Below w.heap.size w w' := by
  by_cases hl : l.length < 1 ∨ 20 < l.length
  · obtain ⟨ao, cap, rfl⟩ := hS.form
    unfold chkC
    rw [if_pos hl]
    by_cases h1 : l.length < 1
    · have h1' : (l.length : Int) < 1 := by omega
      clear hl
      go_enter Tryz.func77, Tryz.ntmps77
      go_wp2
      go_ret
      exact ⟨rfl, Below.refl _ _⟩
    · have h1' : ¬ (l.length : Int) < 1 := by omega
      have h2' : (20 : Int) < l.length := by omega
      clear hl
      go_enter Tryz.func77, Tryz.ntmps77
      go_wp2
      go_ret
      exact ⟨rfl, Below.refl _ _⟩
  · unfold chkC
    rw [if_neg hl]
    have h1' : ¬ (l.length : Int) < 1 := by omega
    have h2' : ¬ (20 : Int) < l.length := by omega
    obtain ⟨b, off, cap, rfl, hcap, hbw, hc⟩ := hS.open (by omega)
    have HC := Lib.hid hc
    obtain ⟨res, hres⟩ : ∃ res, res = firstE l := ⟨_, rfl⟩
    rw [← hres]
    have HR := Lib.hid hres
    have hl20 : l.length ≤ 20 := by omega
    clear hl hc hS hres
    go_enter Tryz.func77, Tryz.ntmps77
    go_wp2
    go_loopw [16] (fun i wr => ∃ k : Nat, i = .int .i64 k ∧ k ≤ l.length ∧ Hid (∀ j (hj : j < l.length), j < k → l[j].chk = 0) ∧ Below w.heap.size w wr) (fun i _ => l.length - (intOf i).toNat)
    case atStart => exact ⟨0, rfl, Nat.zero_le _, fun j hj h => by omega, Below.refl _ _⟩
    case round =>
      obtain ⟨k, rfl, hk, HZ, hbel⟩ := hrel
      by_cases hlt : k < l.length
      · obtain ⟨c0, c1, c2, c3⟩ := code_cells HC.out k hlt
        have c0 := bcl hbel hbw c0
        have c1 := bcl hbel hbw c1
        have c2 := bcl hbel hbw c2
        have c3 := bcl hbel hbw c3
        have her := he.up hbel
        have hbr : b < wr.heap.size := Nat.lt_of_lt_of_le hbw hbel.size
        have hkc : (k : Int) < l.length := by omega
        obtain ⟨ck, hck⟩ : ∃ ck, ck = l[k].chk := ⟨_, rfl⟩
        by_cases h0 : ck = 0
        · have HCK : Hid (chkI l[k].op l[k].a l[k].b l[k].n = 0) := by show l[k].chk = 0; rw [← hck, h0]
          clear hck h0
          go_wp2_with (go_at_call 128; refine (chk_v _ _ _ _ 0 _ ?_ HCK.out).mono ?_; (exact her.up up0); rintro e w1 ⟨rfl, hb1⟩)
          go_roundw
          case rel => exact ⟨k + 1, by go_num, by omega, fun j hj hjk => by
            by_cases e : j = k
            · subst e; exact HCK.out
            · exact HZ.out j hj (by omega), (hbel.alloc hbel.size _).trans (hb1.mono (by simp; have := hbel.size; omega))⟩
          case measure => simp [intOf]; omega
        · have HCK : Hid (chkI l[k].op l[k].a l[k].b l[k].n = ck) := by show l[k].chk = ck; rw [hck]
          have HRR : Hid (ck = res) := by
            show ck = res
            rw [HR.out, hck]; exact (firstE_at l k hlt HZ.out (by rw [← hck]; exact h0)).symm
          have h0' : (ck != 0) = true := by simpa using h0
          clear hck h0
          go_wp2_with (go_at_call 128; refine (chk_v _ _ _ _ ck _ ?_ HCK.out).mono ?_; (exact her.up up0); rintro e w1 ⟨rfl, hb1⟩)
          go_ret
          exact ⟨ret_int HRR.out, (hbel.alloc hbel.size _).trans (hb1.mono (by simp; have := hbel.size; omega))⟩
      · have hkc : ¬ (k : Int) < l.length := by omega
        have HRR : Hid ((0 : Int) = res) := by
          show (0 : Int) = res
          rw [HR.out]; exact (firstE_all l (fun j hj => HZ.out j hj (by omega))).symm
        go_wp2
        go_ret
        exact ⟨ret_int HRR.out, hbel⟩
end Go.Proofs.YtbkdoohhdkahiaaGreatDoor
namespace Go.Proofs.YtbkdoohhdkahiaaGreatDoor
set_option linter.unusedSimpArgs false
set_option linter.unusedVariables false
open Go.RowKit Go.Sort
end Go.Proofs.YtbkdoohhdkahiaaGreatDoor
namespace Go.Proofs.YtbkdoohhdkahiaaGreatDoor
set_option linter.unusedSimpArgs false
set_option linter.unusedVariables false
open Go.RowKit Go.Sort
end Go.Proofs.YtbkdoohhdkahiaaGreatDoor
namespace Go.Proofs.YtbkdoohhdkahiaaGreatDoor
set_option linter.unusedSimpArgs false
set_option linter.unusedVariables false
open Go.RowKit Go.Sort
def tellerL : List Ins := [⟨13, 0, 1, 0⟩, ⟨9, 1, 0, 0⟩, ⟨11, 0, 0, 0⟩, ⟨12, 0, 0, 1⟩, ⟨8, 0, 0, 0⟩]
end Go.Proofs.YtbkdoohhdkahiaaGreatDoor
namespace Go.Proofs.YtbkdoohhdkahiaaGreatDoor
set_option linter.unusedSimpArgs false
set_option linter.unusedVariables false
open Go.RowKit Go.Sort
def hasC (l : List Ins) (op : Int) (c : Nat) : Bool := l.any fun i => i.op == op && i.n == (c : Int)
theorem hasC_snoc (l : List Ins) (i : Ins) (op : Int) (c : Nat) : hasC (l ++ [i]) op c = (hasC l op c || (i.op == op && i.n == (c : Int))) := by simp [hasC]
theorem take_snoc' {α : Type} (l : List α) (k : Nat) (h : k < l.length) : l.take (k + 1) = l.take k ++ [l[k]] := List.take_succ_eq_append_getElem h
def chanL (l : List Ins) (op : Int) (m : Nat) : List Int := ((List.range m).filter (hasC l op)).map fun c : Nat => (c : Int)
theorem chanL_succ (l : List Ins) (op : Int) (m : Nat) : chanL l op (m + 1) = chanL l op m ++ (if hasC l op m then [(m : Int)] else []) := by
  unfold chanL
  rw [List.range_succ, List.filter_append, List.map_append]
  congr 1
  cases h : hasC l op m <;> simp [h]
theorem chanL_len (l : List Ins) (op : Int) (m : Nat) : (chanL l op m).length ≤ m := by
  unfold chanL
  rw [List.length_map]
  exact Nat.le_trans (List.length_filter_le _ _) (by simp)
theorem run_index6 (cs : Array Value) (c : Nat) (v : Value) (h : cs[c]? = some v) (hc : c < 6) (w : World) : (Instr.index 278 (.agg cs) (.int .i64 c)).run Tryz.prog w = .ok v w := by
  have hc' : (c : Int) < 6 := by omega
  simp [Instr.index, run_underlying Tryz.underlying278, asIntOf, go_sem, hc', h]
  intro h6; omega
theorem six_at (f : Nat → Bool) (c : Nat) (h : c < 6) : (#[Value.bool (f 0), .bool (f 1), .bool (f 2), .bool (f 3), .bool (f 4), .bool (f 5)])[c]? = some (.bool (f c)) := by
  match c, h with
  | 0, _ => rfl
  | 1, _ => rfl
  | 2, _ => rfl
  | 3, _ => rfl
  | 4, _ => rfl
  | 5, _ => rfl
theorem info3 : (Tryz.prog.info? 3).map (fun i => (i.zero, i.size, i.bytes)) = some (some (.int .i64 0), 1, 8) := by kernel_rfl
theorem int_cell (z : Int) : ∀ u ∈ [Value.int .i64 z], u.oneCell' = true := by
  intro u hu; simp at hu; subst hu; rfl
theorem ints_step {w wr w1 : World} {v v' : Value} {zs : List Int} {z : Int} {o : Obj} (hbel : Below w.heap.size w wr) (hown0 : wr.ownsRow w.heap.size 3 1 v zs.length (ints zs))
    (hown1 : w1.ownsRow w.heap.size 3 1 v' (zs.length + 1) (ints zs ++ [.int .i64 z])) (hgrow : (wr.alloc o).grownBy w1 v.ownBlock) :
    w1.ownsRow w.heap.size 3 1 v' (zs ++ [z]).length (ints (zs ++ [z])) ∧ Below w.heap.size w w1 := by
  refine ⟨by simpa [ints] using hown1, ?_⟩
  exact (hbel.alloc hbel.size o).grown hgrow (by have := hbel.size; simp; omega) (own_block hown0)
theorem chk_chan {i : Ins} (h : i.chk = 0) (ho : i.op = 12 ∨ i.op = 13) : 0 ≤ i.n ∧ i.n < 6 := by
  have hN : rowN i.op.toNat = true := by rcases ho with e | e <;> rw [e] <;> rfl
  have hL : rowLo i.op.toNat = 0 := by rcases ho with e | e <;> rw [e] <;> rfl
  have hH : rowHi i.op.toNat = 5 := by rcases ho with e | e <;> rw [e] <;> rfl
  unfold Ins.chk chkI at h
  rw [if_neg (by omega)] at h
  unfold chkRow at h
  rw [hN, hL, hH] at h
  split at h
  · omega
  · rename_i hc
    simp only [Bool.or_eq_true, Bool.and_eq_true, Bool.true_and, decide_eq_true_eq, not_or] at hc
    omega
structure Marks (w wr : World) (A : Nat) (l : List Ins) (op : Int) : Prop where
  c : ∀ j, j < 6 → wr.cell? ⟨A, j, none⟩ = some (.bool (hasC l op j))
  f : ∀ j, wr.frozen? ⟨A, j, none⟩ = false
  lt : A < wr.heap.size
  ge : w.heap.size ≤ A
  up : Below w.heap.size w wr
theorem Marks.go {w wr w2 : World} {A : Nat} {l : List Ins} {op : Int} (h : Marks w wr A l op) (hb : Below wr.heap.size wr w2) : Marks w w2 A l op :=
  ⟨fun j hj => bcl hb h.lt (h.c j hj), fun j => bfr hb h.lt (h.f j), Nat.lt_of_lt_of_le h.lt hb.size, h.ge, h.up.trans (hb.mono h.up.size)⟩
theorem Marks.hit {w wr : World} {A : Nat} {l : List Ins} {op : Int} {i : Ins} (h : Marks w wr A l op) (hop : (i.op == op) = true) (m : Nat) (hm : i.n = m) (h6 : m < 6) : Marks w (wr.setCell ⟨A, m, none⟩ (.bool true)) A (l ++ [i]) op := by
  refine ⟨fun j hj => ?_, fun j => fr_set (h.f j), by rw [size_set]; exact h.lt, h.ge, h.up.setCell h.ge _⟩
  rw [hasC_snoc, hop, hm]
  by_cases e : j = m
  · subst e
    rw [cl_same (h.c j hj)]; simp
  · rw [cl_set (Or.inr e) (h.c j hj)]
    have : ((m : Int) == (j : Int)) = false := by simp; omega
    rw [this]; simp
theorem Marks.miss {w wr : World} {A : Nat} {l : List Ins} {op : Int} {i : Ins} (h : Marks w wr A l op) (hop : (i.op == op) = false) : Marks w wr A (l ++ [i]) op :=
  ⟨fun j hj => by rw [hasC_snoc, hop]; simpa using h.c j hj, h.f, h.lt, h.ge, h.up⟩
set_option maxRecDepth 100000 in
set_option maxHeartbeats 2000000 in
theorem channels_yes (l : List Ins) (op : Int) (hop : op = 12 ∨ op = 13) (v : Value) (w : World) (he : Env w) (hS : Sl w 4 v l.length (codeC l)) (hc0 : chkC l = 0) :
    Calls Tryz.prog 176 #[v, .int .i64 op] w fun e w' => ∃ v', e = .returned (.tuple #[v', .int .i64 0]) ∧ w'.ownsRow w.heap.size 3 1 v' (chanL l op 6).length (ints (chanL l op 6)) ∧ Below w.heap.size w w' := by
  obtain ⟨hl1, hl20, hz⟩ := chkC_zero hc0
  obtain ⟨i0, hi, hz0, hz1, hz2⟩ := info_parts info3
  obtain ⟨b, off, cap, rfl, hcap, hbw, hc⟩ := hS.open (by omega)
  have HS := Lib.hid hS
  have HC := Lib.hid hc
  have HZ := Lib.hid hz
  have H0 := Lib.hid hc0
  have HO := Lib.hid hop
  clear hS hc hz hc0 hop
  go_enter Tryz.func176, Tryz.ntmps176
  go_wp2_with (go_at_call 77; refine (codeCheck_any l _ _ he HS.out).mono ?_; rw [H0.out]; rintro e w1 ⟨rfl, hb1⟩; refine Hid.out ?_)
  have hbw1 : b < w1.heap.size := Nat.lt_of_lt_of_le hbw hb1.size
  have HC1 : Hid (∀ j u, (codeC l)[j]? = some u → w1.cell? ⟨b, off + j, none⟩ = some u) := fun j u hj => bcl hb1 hbw (HC.out j u hj)
  have HM : Hid (Marks w (w1.alloc (.cells #[.bool false, .bool false, .bool false, .bool false, .bool false, .bool false] 278)) w1.heap.size [] op) := by
    refine ⟨fun j hj => ?_, fun j => by simp, by simp, hb1.size, hb1.alloc hb1.size _⟩
    rw [World.cell?_alloc_new]
    match j, hj with
    | 0, _ => rfl
    | 1, _ => rfl
    | 2, _ => rfl
    | 3, _ => rfl
    | 4, _ => rfl
    | 5, _ => rfl
  clear hb1
  refine Lib.hid ?_
  go_wp2
  go_loopw [20] (fun i wr => ∃ k : Nat, i = .int .i64 k ∧ k ≤ l.length ∧ Hid (Marks w wr w1.heap.size (l.take k) op) ∧ Hid (Below w1.heap.size w1 wr)) (fun i _ => l.length - (intOf i).toNat)
  case atStart => exact ⟨0, rfl, Nat.zero_le _, HM, Below.alloc (Below.refl _ _) (Nat.le_refl _) _⟩
  case round =>
    obtain ⟨k, rfl, hk, HK, HB⟩ := hrel
    by_cases hlt : k < l.length
    · obtain ⟨c0, c1, c2, c3⟩ := code_cells HC1.out k hlt
      have c0 := bcl HB.out hbw1 c0
      have c1 := bcl HB.out hbw1 c1
      have c2 := bcl HB.out hbw1 c2
      have c3 := bcl HB.out hbw1 c3
      have hbr : b < wr.heap.size := Nat.lt_of_lt_of_le hbw1 HB.out.size
      have hAr := HK.out.lt
      have i1 : (k : Int) < l.length := by omega
      have HT := Lib.hid (take_snoc' l k hlt)
      generalize hq : (l[k].op == op) = q
      cases q
      · have HM2 := Lib.hid ((HK.out.miss hq).go (w2 := wr.alloc (.cells #[.int .i64 l[k].op, .int .i64 l[k].a, .int .i64 l[k].b, .int .i64 l[k].n] 124)) ((Below.refl _ _).alloc (Nat.le_refl _) _))
        go_wp2
        go_roundw
        case rel => exact ⟨k + 1, by go_num, by omega, by rw [HT.out]; exact HM2, HB.out.alloc HB.out.size _⟩
        case measure => simp [intOf]; omega
      · obtain ⟨m, hm, hm6⟩ : ∃ m : Nat, l[k].n = m ∧ m < 6 := by
          have e : l[k].op = op := by simpa using hq
          have := chk_chan (HZ.out k hlt) (by rw [e]; exact HO.out)
          exact ⟨l[k].n.toNat, by omega, by omega⟩
        have HM2 := Lib.hid ((HK.out.hit hq m hm hm6).go (w2 := (wr.setCell ⟨w1.heap.size, m, none⟩ (.bool true)).alloc (.cells #[.int .i64 l[k].op, .int .i64 l[k].a, .int .i64 l[k].b, .int .i64 (m : Int)] 124)) ((Below.refl _ _).alloc (Nat.le_refl _) _))
        rw [hm] at c3
        have fA := HK.out.f m
        have cA := HK.out.c m hm6
        have i2 : (m : Int) < 6 := by omega
        have i3 : (0 : Int) ≤ m := by omega
        clear hm
        go_wp2
        go_roundw
        case rel => exact ⟨k + 1, by go_num, by omega, by rw [HT.out]; exact HM2, (HB.out.setCell (Nat.le_refl _) _).alloc (by rw [size_set]; exact HB.out.size) _⟩
        case measure => simp [intOf]; omega
    · obtain rfl : k = l.length := by omega
      have hm := HK.out
      rw [List.take_length] at hm
      have a0 := hm.c 0 (by decide)
      have a1 := hm.c 1 (by decide)
      have a2 := hm.c 2 (by decide)
      have a3 := hm.c 3 (by decide)
      have a4 := hm.c 4 (by decide)
      have a5 := hm.c 5 (by decide)
      have hup := hm.up
      have HU := Lib.hid hup
      clear hm HK HM hup HC1
      have i1 : ¬ ((l.length : Int) < l.length) := by omega
      obtain ⟨wo, rfl⟩ : ∃ wo : World, wo = wr := ⟨_, rfl⟩
      go_wp2
      go_loopw [10, 33] (fun o i wr => ∃ (c : Nat) (zs : List Int), i = .int .i64 c ∧ c ≤ 6 ∧ Hid (zs = chanL l op c) ∧ zs.length ≤ c ∧ wr.ownsRow w.heap.size 3 1 o zs.length (ints zs) ∧ Below w.heap.size w wr) (fun _ i _ => 6 - (intOf i).toNat)
      case atStart => exact ⟨0, [], rfl, by omega, (show [] = chanL l op 0 from rfl), Nat.le_refl _, World.ownsRow_nil _ _ _ _, HU⟩
      case round =>
        obtain ⟨c, zs, rfl, hcc, HZZ, hzl, hown, hbel⟩ := hrel
        obtain ⟨ao, cp, rfl⟩ := own_form hown
        have hbs := hbel.size
        by_cases hlt : c < 6
        · have HC1 := Lib.hid (chanL_succ l op c)
          have hix := run_index6 _ c _ (six_at (hasC l op) c hlt) hlt
          have hlc : (c : Int) < 6 := by omega
          generalize hqb : hasC l op c = qb at hix
          cases qb
          · have HZ2 : Hid (zs = chanL l op (c + 1)) := by
              show zs = _
              rw [HC1.out, hqb, HZZ.out]; simp
            clear hqb HC1 HZZ a0 a1 a2 a3 a4 a5
            go_wp2
            go_roundw
            case rel => exact ⟨c + 1, zs, by go_num, by omega, HZ2, by omega, hown, hbel⟩
            case measure => simp [intOf]; omega
          · have HZ2 : Hid (zs ++ [(c : Int)] = chanL l op (c + 1)) := by
              show _ = _
              rw [HC1.out, hqb, HZZ.out]; simp
            clear hqb HC1 HZZ a0 a1 a2 a3 a4 a5
            go_wp2_with (at_builtin; refine wpList_append_lies _ rfl (.tmp 38) (.tmp 40) 41 rfl w.heap.size 3 i0 (.int .i64 0) 1 8 Tryz.underlying41 hi hz0 hz1 hz2 rfl (by decide) (.slice ao zs.length cp) zs.length (ints zs) rfl (hown.alloc _) ⟨_, 0, none⟩ 1 1 [.int .i64 c] rfl rfl (one_new _ _ 3) (int_cell _) (by decide) (by unfold maxLen; omega) (by omega) (by simp; omega) _ rfl ?_; intro g cap1 w2 hown1 hgrow hat hglt)
            have R := ints_step hbel hown hown1 hgrow
            clear hown1 hgrow hown hat
            go_wp2
            go_roundw
            case rel => exact ⟨c + 1, zs ++ [(c : Int)], by go_num, by omega, HZ2, by simp; omega, R.1, R.2⟩
            case measure => simp [intOf]; omega
        · have hlc : ¬ (c : Int) < 6 := by omega
          obtain rfl : c = 6 := by omega
          go_wp2
          go_ret2
          exact ⟨_, rfl, by rw [← HZZ.out]; exact hown, hbel⟩
theorem puts_yes (l : List Ins) (v : Value) (w : World) (he : Env w) (hS : Sl w 4 v l.length (codeC l)) (hc0 : chkC l = 0) :
    Calls Tryz.prog 133 #[v] w fun e w' => ∃ v', e = .returned (.tuple #[v', .int .i64 0]) ∧ Sl w' 1 v' (chanL l 12 6).length (ints (chanL l 12 6)) ∧ Below w.heap.size w w' := by
  go_enter Tryz.func133, Tryz.ntmps133
  go_wp2_with (go_at_call 176; refine (channels_yes l 12 (Or.inl rfl) v _ he hS hc0).mono ?_; rintro e w1 ⟨v', rfl, hown, hb1⟩)
  go_ret2
  exact ⟨v', rfl, own_sl hown, hb1⟩
theorem gets_yes (l : List Ins) (v : Value) (w : World) (he : Env w) (hS : Sl w 4 v l.length (codeC l)) (hc0 : chkC l = 0) :
    Calls Tryz.prog 136 #[v] w fun e w' => ∃ v', e = .returned (.tuple #[v', .int .i64 0]) ∧ Sl w' 1 v' (chanL l 13 6).length (ints (chanL l 13 6)) ∧ Below w.heap.size w w' := by
  go_enter Tryz.func136, Tryz.ntmps136
  go_wp2_with (go_at_call 176; refine (channels_yes l 13 (Or.inr rfl) v _ he hS hc0).mono ?_; rintro e w1 ⟨v', rfl, hown, hb1⟩)
  go_ret2
  exact ⟨v', rfl, own_sl hown, hb1⟩
end Go.Proofs.YtbkdoohhdkahiaaGreatDoor
namespace Go.Proofs.YtbkdoohhdkahiaaGreatDoor
set_option linter.unusedSimpArgs false
set_option linter.unusedVariables false
open Go.RowKit Go.Sort
structure Chn where
  kd : Int
  fr : Int
  tt : Int
structure Slt where
  pt : Int
  tk : Int
structure Prt where
  code : List Ins
  inn : List Int
structure SysD where
  parts : List Prt
  chans : List Chn
  slots : List Slt
def chC (c : Chn) : List Value := [.int .i64 c.kd, .int .i64 c.fr, .int .i64 c.tt]
def slC (c : Slt) : List Value := [.int .i64 c.pt, .int .i64 c.tk]
def prC (p : Value × Value) : List Value := [p.1, p.2]
theorem chan_cells {w : World} {b off : Nat} {l : List Chn} (hc : ∀ j u, (rowC chC l)[j]? = some u → w.cell? ⟨b, off + j, none⟩ = some u) (k : Nat) (h : k < l.length) :
    w.cell? ⟨b, off + k * 3, none⟩ = some (.int .i64 l[k].kd) ∧ w.cell? ⟨b, off + k * 3 + 1, none⟩ = some (.int .i64 l[k].fr) ∧ w.cell? ⟨b, off + k * 3 + 2, none⟩ = some (.int .i64 l[k].tt) := by
  refine ⟨?_, ?_, ?_⟩
  · exact hc (k * 3) _ (by have := rowC_at (s := 3) (f := chC) (fun _ => rfl) l k 0 h (by decide); simpa [chC] using this)
  · exact hc (k * 3 + 1) _ (by rw [rowC_at (s := 3) (f := chC) (fun _ => rfl) l k 1 h (by decide)]; rfl)
  · exact hc (k * 3 + 2) _ (by rw [rowC_at (s := 3) (f := chC) (fun _ => rfl) l k 2 h (by decide)]; rfl)
theorem slot_cells {w : World} {b off : Nat} {l : List Slt} (hc : ∀ j u, (rowC slC l)[j]? = some u → w.cell? ⟨b, off + j, none⟩ = some u) (k : Nat) (h : k < l.length) :
    w.cell? ⟨b, off + k * 2, none⟩ = some (.int .i64 l[k].pt) ∧ w.cell? ⟨b, off + k * 2 + 1, none⟩ = some (.int .i64 l[k].tk) := by
  refine ⟨?_, ?_⟩
  · exact hc (k * 2) _ (by have := rowC_at (s := 2) (f := slC) (fun _ => rfl) l k 0 h (by decide); simpa [slC] using this)
  · exact hc (k * 2 + 1) _ (by rw [rowC_at (s := 2) (f := slC) (fun _ => rfl) l k 1 h (by decide)]; rfl)
theorem part_cells {w : World} {b off : Nat} {l : List (Value × Value)} (hc : ∀ j u, (rowC prC l)[j]? = some u → w.cell? ⟨b, off + j, none⟩ = some u) (k : Nat) (h : k < l.length) :
    w.cell? ⟨b, off + k * 2, none⟩ = some l[k].1 ∧ w.cell? ⟨b, off + k * 2 + 1, none⟩ = some l[k].2 := by
  refine ⟨?_, ?_⟩
  · exact hc (k * 2) _ (by have := rowC_at (s := 2) (f := prC) (fun _ => rfl) l k 0 h (by decide); simpa [prC] using this)
  · exact hc (k * 2 + 1) _ (by rw [rowC_at (s := 2) (f := prC) (fun _ => rfl) l k 1 h (by decide)]; rfl)
structure PrtR (w : World) (c i : Value) (p : Prt) : Prop where
  code : Sl w 4 c p.code.length (codeC p.code)
  inn : Sl w 1 i p.inn.length (ints p.inn)
theorem PrtR.up {w w' : World} {c i : Value} {p : Prt} (h : PrtR w c i p) (hb : Below w.heap.size w w') : PrtR w' c i p := ⟨h.code.up hb, h.inn.up hb⟩
def PartsR (w : World) (v : Value) (ps : List Prt) : Prop :=
  ∃ vs : List (Value × Value), vs.length = ps.length ∧ Sl w 2 v ps.length (rowC prC vs) ∧ ∀ k (hk : k < ps.length) (hk' : k < vs.length), PrtR w vs[k].1 vs[k].2 ps[k]
theorem PartsR.up {w w' : World} {v : Value} {ps : List Prt} (h : PartsR w v ps) (hb : Below w.heap.size w w') : PartsR w' v ps := by
  obtain ⟨vs, h1, h2, h3⟩ := h
  exact ⟨vs, h1, h2.up hb, fun k hk hk' => (h3 k hk hk').up hb⟩
theorem PartsR.form {w : World} {v : Value} {ps : List Prt} (h : PartsR w v ps) : ∃ ao cap, v = .slice ao ps.length cap := by
  obtain ⟨vs, h1, h2, h3⟩ := h
  exact h2.form
theorem PartsR.open {w : World} {v : Value} {ps : List Prt} (h : PartsR w v ps) (hn : 0 < ps.length) :
    ∃ b off cap, v = .slice (some ⟨b, off, none⟩) ps.length cap ∧ ps.length ≤ cap ∧ b < w.heap.size ∧ ∀ k (hk : k < ps.length), ∃ c i, w.cell? ⟨b, off + k * 2, none⟩ = some c ∧ w.cell? ⟨b, off + k * 2 + 1, none⟩ = some i ∧ PrtR w c i ps[k] := by
  obtain ⟨vs, h1, h2, h3⟩ := h
  obtain ⟨b, off, cap, e, hcap, hb, hc⟩ := h2.open hn
  refine ⟨b, off, cap, e, hcap, hb, fun k hk => ?_⟩
  have hk' : k < vs.length := by omega
  obtain ⟨c0, c1⟩ := part_cells hc k hk'
  exact ⟨_, _, c0, c1, h3 k hk hk'⟩
structure Sys (w : World) (vp vc vs : Value) (S : SysD) : Prop where
  p : PartsR w vp S.parts
  c : Sl w 3 vc S.chans.length (rowC chC S.chans)
  s : Sl w 2 vs S.slots.length (rowC slC S.slots)
theorem Sys.up {w w' : World} {vp vc vs : Value} {S : SysD} (h : Sys w vp vc vs S) (hb : Below w.heap.size w w') : Sys w' vp vc vs S := ⟨h.p.up hb, h.c.up hb, h.s.up hb⟩
def SysD.ok (S : SysD) : Prop := ∀ p ∈ S.parts, ∀ j (hj : j < p.code.length), p.code[j].ok
def countsB (S : SysD) : Bool := decide (1 ≤ S.parts.length ∧ S.parts.length ≤ 4 ∧ S.chans.length ≤ 6 ∧ 1 ≤ S.slots.length ∧ S.slots.length ≤ 6) && !(S.parts.any fun p => decide (12 < p.inn.length))
def firstP : List Prt → Int
  | [] => 0
  | p :: r => if chkC p.code = 0 then firstP r else chkC p.code
theorem firstP_at : ∀ (l : List Prt) (k : Nat) (h : k < l.length), (∀ j (hj : j < l.length), j < k → chkC l[j].code = 0) → chkC l[k].code ≠ 0 → firstP l = chkC l[k].code
  | i :: r, 0, _, _, hne => by rw [firstP, if_neg (show ¬ chkC i.code = 0 from hne)]; rfl
  | i :: r, k + 1, h, hz, hne => by
    rw [firstP, if_pos (show chkC i.code = 0 from hz 0 (by simp) (by omega))]
    exact firstP_at r k (by simpa using h) (fun j hj hlt => hz (j + 1) (by simpa using hj) (by omega)) hne
theorem firstP_all : ∀ l : List Prt, (∀ j (hj : j < l.length), chkC l[j].code = 0) → firstP l = 0
  | [], _ => rfl
  | i :: r, hz => by
    rw [firstP, if_pos (show chkC i.code = 0 from hz 0 (by simp))]
    exact firstP_all r (fun j hj => hz (j + 1) (by simpa using hj))
theorem firstP_zero : ∀ {l : List Prt}, firstP l = 0 → ∀ j (hj : j < l.length), chkC l[j].code = 0
  | i :: r, h, j, hj => by
    rw [firstP] at h
    by_cases hc : chkC i.code = 0
    · rw [if_pos hc] at h
      cases j with
      | zero => exact hc
      | succ j => exact firstP_zero h j (by simpa using hj)
    · rw [if_neg hc] at h; exact absurd h hc
def kindBad (c : Chn) : Bool := c.kd != 1 && c.kd != 2
def placeBad (n : Nat) (c : Chn) : Bool := !(withinB c.fr 0 (n - 1)) || !(withinB c.tt 0 (n - 1)) || c.fr == c.tt
def slotBad (n : Nat) (t : Slt) : Bool := !(withinB t.pt 0 (n - 1)) || !(withinB t.tk 1 8)
def placesB (S : SysD) : Bool := !(S.chans.any (placeBad S.parts.length)) && !(S.slots.any (slotBad S.parts.length))
def putBad (l : List Chn) (me : Int) (c : Int) : Bool := match l[c.toNat]? with | none => true | some x => x.fr != me
def getBad (l : List Chn) (me : Int) (c : Int) : Bool := match l[c.toNat]? with | none => true | some x => x.tt != me
def nameBad (l : List Chn) (me : Int) (p : Prt) : Bool := (chanL p.code 12 6).any (putBad l me) || (chanL p.code 13 6).any (getBad l me)
def namesFrom (l : List Chn) : Nat → List Prt → Bool
  | _, [] => true
  | k, p :: r => if nameBad l k p then false else namesFrom l (k + 1) r
def namesB (S : SysD) : Bool := namesFrom S.chans 0 S.parts
def chkS (S : SysD) : Int :=
  if countsB S = false then 2 else if firstP S.parts ≠ 0 then firstP S.parts else if S.chans.any kindBad = true then 4 else if placesB S = false then 3 else if namesB S = false then 1 else 0
end Go.Proofs.YtbkdoohhdkahiaaGreatDoor
namespace Go.Proofs.YtbkdoohhdkahiaaGreatDoor
set_option linter.unusedSimpArgs false
set_option linter.unusedVariables false
open Go.RowKit Go.Sort
section
variable {P : Program}
theorem run_append_sl (w : World) (t ty : TypeId) (base : Nat) (e : TypeId) (i : TypeInfo) (z : Value) (size bytes : Nat) (ht : P.underlying t = some (.slice e)) (hi : P.info? e = some i) (hz : i.zero = some z)
    (hsize : i.size = size) (hby : i.bytes = bytes) (hzs : z.cells.size = size) (hsz : 0 < size) (v : Value) (n : Nat) (xs : List Value) (hown : w.ownsRow base e size v n xs)
    (u : Value) (m : Nat) (news : List Value) (hS : Sl w size u m news) (h1 : ∀ u ∈ news, u.oneCell' = true) (h63 : n + m ≤ maxLen) (hbytes : (n + m) * bytes ≤ 140737488355328) (hbase : base ≤ w.heap.size) :
    ∃ v' w', (Builtin.append_ #[t, t] ty #[v, u]).run P w = .ok v' w' ∧ w'.ownsRow base e size v' (n + m) (xs ++ news) ∧ w.grownBy w' v.ownBlock ∧ (v'.ownBlock = v.ownBlock ∨ v'.ownBlock = some w.heap.size) := by
  by_cases hm : m = 0
  · subst hm
    have hnn : news = [] := List.eq_nil_of_length_eq_zero (by simpa using hS.1)
    subst hnn
    obtain ⟨ao, cap, rfl⟩ := hS.form
    cases ao with
    | some ad =>
      obtain ⟨v', w', hr, h2, h3, _, h5⟩ := run_append_own_at (P := P) w base t ty e i z size bytes ht hi hz hsize hby hzs hsz v n xs hown ad 0 cap [] (by simp) (by simp) (by simp) h63 hbytes hbase
      exact ⟨v', w', hr, h2, h3, h5⟩
    | none =>
      refine ⟨v, w, ?_, by simpa using hown, ⟨rfl, rfl, rfl, Nat.le_refl _, fun _ _ _ => rfl⟩, .inl rfl⟩
      rcases hown.2 with ⟨rfl, rfl⟩ | ⟨g, cap', cur, rfl, hbg, hg, hnc, hcm, hcs, htake⟩
      · simp [Builtin.append_, run_underlying ht, sizeOf, typeInfo, hi, Builtin.lenOf, Builtin.firstCells, loadCells, loadCellsFrom]
      · simp [Builtin.append_, run_underlying ht, sizeOf, typeInfo, hi, Builtin.lenOf, Builtin.firstCells, loadCells, loadCellsFrom, hnc, storeCells]
  · obtain ⟨b, off, cap, rfl, _, _, hc⟩ := hS.open (by omega)
    obtain ⟨v', w', hr, h2, h3, _, h5⟩ := run_append_own_at (P := P) w base t ty e i z size bytes ht hi hz hsize hby hzs hsz v n xs hown ⟨b, off, none⟩ m cap news hS.1 (sl_src hc) h1 h63 hbytes hbase
    exact ⟨v', w', hr, h2, h3, h5⟩
theorem wp_append_sl {o : Oper} {a : Act} {w : World} {K : Act → World → Prop} {Q : Exit → Act → World → Prop} (s x : Operand) (t : TypeId)
    (ho : o.op = .call { callee := .builtin .append, args := #[s, x], argTypes := #[t, t] })
    (base : Nat) (e : TypeId) (i : TypeInfo) (z : Value) (size bytes : Nat) (ht : P.underlying t = some (.slice e)) (hi : P.info? e = some i) (hz : i.zero = some z)
    (hsize : i.size = size) (hby : i.bytes = bytes) (hzs : z.cells.size = size) (hsz : 0 < size) (v : Value) (n : Nat) (xs : List Value) (hs : a.eval s = v) (hown : w.ownsRow base e size v n xs)
    (u : Value) (m : Nat) (news : List Value) (hx : a.eval x = u) (hS : Sl w size u m news) (h1 : ∀ u ∈ news, u.oneCell' = true) (h63 : n + m ≤ maxLen) (hbytes : (n + m) * bytes ≤ 140737488355328) (hbase : base ≤ w.heap.size)
    (h : ∀ v' w', w'.ownsRow base e size v' (n + m) (xs ++ news) → w.grownBy w' v.ownBlock → (v'.ownBlock = v.ownBlock ∨ v'.ownBlock = some w.heap.size) → K (a.put o.dst v') w') : o.wp P a w K Q := by
  obtain ⟨v', w', hr, h2, h3, h5⟩ := run_append_sl (P := P) w t o.type base e i z size bytes ht hi hz hsize hby hzs hsz v n xs hown u m news hS h1 h63 hbytes hbase
  unfold Oper.wp execOp
  simp only [ho, resolve, invoke, builtin, Sem.run_bind, Sem.run_pure, Result.andThen_ok, List.map_toArray, List.map_cons, List.map_nil, hs, hx, hr]
  exact h v' w' h2 h3 h5
theorem wpList_append_sl {ops : Array Oper} {rest : List Oper} {o : Oper} {a : Act} {w : World} {Q : Exit → Act → World → Prop} (hgd : o.guard = none) (s x : Operand) (t : TypeId)
    (ho : o.op = .call { callee := .builtin .append, args := #[s, x], argTypes := #[t, t] })
    (base : Nat) (e : TypeId) (i : TypeInfo) (z : Value) (size bytes : Nat) (ht : P.underlying t = some (.slice e)) (hi : P.info? e = some i) (hz : i.zero = some z)
    (hsize : i.size = size) (hby : i.bytes = bytes) (hzs : z.cells.size = size) (hsz : 0 < size) (v : Value) (n : Nat) (xs : List Value) (hs : a.eval s = v) (hown : w.ownsRow base e size v n xs)
    (u : Value) (m : Nat) (news : List Value) (hx : a.eval x = u) (hS : Sl w size u m news) (h1 : ∀ u ∈ news, u.oneCell' = true) (h63 : n + m ≤ maxLen) (hbytes : (n + m) * bytes ≤ 140737488355328) (hbase : base ≤ w.heap.size)
    (h : ∀ v' w', w'.ownsRow base e size v' (n + m) (xs ++ news) → w.grownBy w' v.ownBlock → (v'.ownBlock = v.ownBlock ∨ v'.ownBlock = some w.heap.size) → wpList P ops Q rest (a.put o.dst v') w') : wpList P ops Q (o :: rest) a w :=
  wpList_plain hgd fun _ hK => wp_append_sl s x t ho base e i z size bytes ht hi hz hsize hby hzs hsz v n xs hs hown u m news hx hS h1 h63 hbytes hbase fun v' w' h1 h2 h3 => hK _ _ (h v' w' h1 h2 h3)
theorem wpList_append_nil {ops : Array Oper} {rest : List Oper} {o : Oper} {a : Act} {w : World} {Q : Exit → Act → World → Prop} (hgd : o.guard = none) (s x : Operand) (t : TypeId)
    (ho : o.op = .call { callee := .builtin .append, args := #[s, x], argTypes := #[t, t] })
    (e : TypeId) (i : TypeInfo) (z : Value) (size bytes : Nat) (ht : P.underlying t = some (.slice e)) (hi : P.info? e = some i) (hz : i.zero = some z)
    (hsize : i.size = size) (hby : i.bytes = bytes) (hzs : z.cells.size = size) (hsz : 0 < size) (hs : a.eval s = .slice none 0 0)
    (u : Value) (m : Nat) (news : List Value) (hx : a.eval x = u) (hS : Sl w size u m news) (h1 : ∀ u ∈ news, u.oneCell' = true) (h63 : m ≤ maxLen) (hbytes : m * bytes ≤ 140737488355328)
    (h : ∀ v' w', w'.ownsRow w.heap.size e size v' m news → Below w.heap.size w w' → wpList P ops Q rest (a.put o.dst v') w') : wpList P ops Q (o :: rest) a w :=
  wpList_append_sl hgd s x t ho w.heap.size e i z size bytes ht hi hz hsize hby hzs hsz _ 0 [] hs (World.ownsRow_nil _ _ _ _) u m news hx hS h1 (by simpa using h63) (by simpa using hbytes) (Nat.le_refl _)
    fun v' w' g1 g2 _ => h v' w' (by simpa using g1) ((Below.refl _ _).grown g2 (Nat.le_refl _) (fun k hk => by cases hk))
end
end Go.Proofs.YtbkdoohhdkahiaaGreatDoor
namespace Go.Proofs.YtbkdoohhdkahiaaGreatDoor
set_option linter.unusedSimpArgs false
set_option linter.unusedVariables false
open Go.RowKit Go.Sort Go.Shelf Go.Lib
def chE (c : Chn) : List Edg := if c.kd = 2 then [⟨c.fr, c.tt⟩, ⟨c.tt, c.fr⟩] else [⟨c.fr, c.tt⟩]
def rawE : List Chn → List Edg
  | [] => []
  | c :: r => chE c ++ rawE r
theorem rawE_app : ∀ (a b : List Chn), rawE (a ++ b) = rawE a ++ rawE b
  | [], b => rfl
  | c :: r, b => by
    simp only [List.cons_append, rawE, rawE_app r b, List.append_assoc]
theorem rawE_len : ∀ (a : List Chn), (rawE a).length ≤ 2 * a.length
  | [] => by simp [rawE]
  | c :: r => by
    have := rawE_len r
    simp only [rawE, List.length_append, List.length_cons]
    have h2 : (chE c).length ≤ 2 := by unfold chE; split <;> simp
    omega
theorem infoEdg : (Tryz.prog.info? 53).map (fun i => (i.zero, i.size, i.bytes)) = some (some (.agg #[.int .i64 0, .int .i64 0]), 2, 16) := by kernel_rfl
theorem new_rangeE (w : World) (t : TypeId) (cs : Array Value) (g : Nat) (hg : g = w.heap.size) : ∀ j u, cs.toList[j]? = some u → (w.alloc (.cells cs t)).cell? ((⟨g, 0, none⟩ : Addr).add j) = some u := fun j u hj => by
  rw [Addr.add_mid, Nat.zero_add, hg, World.cell?_alloc_new]
  simpa using hj
theorem two_one (a b : Int) : ∀ u ∈ [Value.int .i64 a, .int .i64 b], u.oneCell' = true := fun u hu => by
  simp at hu
  rcases hu with rfl | rfl <;> rfl
theorem own_edm {w : World} {base : Nat} {v : Value} {l : List Edg} (h : w.ownsRow base 53 2 v l.length (rowC Edg.cells l)) (h0 : 0 < l.length) : ∃ g cap, v = .slice (some ⟨g, 0, none⟩) l.length cap ∧ base ≤ g ∧ l.length ≤ cap ∧ EdM w g 0 l := by
  have hsl := own_sl h
  obtain ⟨b, off, cap, e, hcap, hb, hc⟩ := hsl.open h0
  rcases h.2 with ⟨e0, _⟩ | ⟨g, cap', cur, e0, hg, hh, _⟩
  · rw [e0] at e
    cases e
  · rw [e0] at e
    injection e with e1 _ e2
    injection e1 with e1
    injection e1 with e1 e3
    subst e1 e2 e3
    refine ⟨_, _, e0, hg, hcap, ⟨cur, hh⟩, fun k hk => ⟨?_, ?_⟩⟩
    · exact hc (k * 2) _ (by
        have := rowC_at (s := 2) (f := Edg.cells) edg_len l k 0 hk (by decide)
        rw [Nat.add_zero] at this
        rw [this]
        rfl)
    · have := hc (k * 2 + 1) (.int .i64 l[k].tt) (by
        rw [rowC_at (s := 2) (f := Edg.cells) edg_len l k 1 hk (by decide)]
        rfl)
      rw [← Nat.add_assoc] at this
      exact this
end Go.Proofs.YtbkdoohhdkahiaaGreatDoor

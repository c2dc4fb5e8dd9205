/- Programs as slices of instructions; slices that are read: what they hold, and that it stays. -/
import Derived.Test.YtclnedeodmlfeaaDoorJ3
import Derived.Test.YtclnedeodmlfeaaDoorJ2
import Derived.Shelf.Strings.Builder1
import Derived.Shelf.Strings.BuilderK
import Derived.Test.YtclnedeodmlfeaaDoorProg
import Derived.Test.YtclnedeodmlfeaaDoorJ4
import Derived.Lib.AppendIntMem
namespace Go.Proofs.YtclnedeodmlfeaaDoor
set_option linter.unusedSimpArgs false
set_option linter.unusedVariables false
open Go.RowKit Go.Sort
def Sl (w : World) (size : Nat) (v : Value) (n : Nat) (xs : List Value) : Prop :=
  xs.length = n * size ∧ ∃ ao cap, v = .slice ao n cap ∧ n ≤ cap ∧ (0 < n → ∃ b off, ao = some ⟨b, off, none⟩ ∧ b < w.heap.size ∧ ∀ j u, xs[j]? = some u → w.cell? ⟨b, off + j, none⟩ = some u)
theorem Sl.up {w w' : World} {size : Nat} {v : Value} {n : Nat} {xs : List Value} (h : Sl w size v n xs) (hb : Below w.heap.size w w') : Sl w' size v n xs := by
  obtain ⟨h1, ao, cap, h2, h3, h4⟩ := h
  refine ⟨h1, ao, cap, h2, h3, fun hn => ?_⟩
  obtain ⟨b, off, e, hlt, hc⟩ := h4 hn
  exact ⟨b, off, e, Nat.lt_of_lt_of_le hlt hb.size, fun j u hj => bcl hb hlt (hc j u hj)⟩
theorem Sl.open {w : World} {size : Nat} {v : Value} {n : Nat} {xs : List Value} (h : Sl w size v n xs) (hn : 0 < n) : ∃ b off cap, v = .slice (some ⟨b, off, none⟩) n cap ∧ n ≤ cap ∧ b < w.heap.size ∧ ∀ j u, xs[j]? = some u → w.cell? ⟨b, off + j, none⟩ = some u := by
  obtain ⟨_, ao, cap, rfl, h3, h4⟩ := h
  obtain ⟨b, off, rfl, hlt, hc⟩ := h4 hn
  exact ⟨b, off, cap, rfl, h3, hlt, hc⟩
theorem Sl.form {w : World} {size : Nat} {v : Value} {n : Nat} {xs : List Value} (h : Sl w size v n xs) : ∃ ao cap, v = .slice ao n cap := by
  obtain ⟨_, ao, cap, rfl, _⟩ := h
  exact ⟨ao, cap, rfl⟩
theorem Sl.nil (w : World) (size : Nat) : Sl w size (.slice none 0 0) 0 [] := ⟨by simp, none, 0, rfl, Nat.le_refl _, fun h => by omega⟩
structure Ins where
  op : Int
  a : Int
  b : Int
  n : Int
def Ins.v (i : Ins) : Value := .agg #[.int .i64 i.op, .int .i64 i.a, .int .i64 i.b, .int .i64 i.n]
def Ins.cells (i : Ins) : List Value := [.int .i64 i.op, .int .i64 i.a, .int .i64 i.b, .int .i64 i.n]
def Ins.ok (i : Ins) : Prop := in64 i.op ∧ in64 i.a ∧ in64 i.b ∧ in64 i.n
def Ins.chk (i : Ins) : Int := chkI i.op i.a i.b i.n
def Ins.txt (i : Ins) : List UInt8 := YtclnedeodmlfeaaDoor.txt i.op.toNat i.a i.b i.n
def codeC : List Ins → List Value
  | [] => []
  | i :: r => i.cells ++ codeC r
theorem codeC_len : ∀ l : List Ins, (codeC l).length = l.length * 4
  | [] => rfl
  | i :: r => by rw [codeC, List.length_append, codeC_len r]; simp [Ins.cells]; omega
theorem codeC_at : ∀ (l : List Ins) (k j : Nat) (h : k < l.length), j < 4 → (codeC l)[k * 4 + j]? = l[k].cells[j]?
  | i :: r, 0, j, _, hj => by
    rw [codeC, List.getElem?_append_left (by simp [Ins.cells]; omega)]; simp
  | i :: r, k + 1, j, h, hj => by
    rw [codeC, List.getElem?_append_right (by simp [Ins.cells]; omega)]
    have := codeC_at r k j (by simpa using h) hj
    rw [show (k + 1) * 4 + j - i.cells.length = k * 4 + j by simp [Ins.cells]; omega, this]
    rfl
theorem code_cells {w : World} {b off : Nat} {l : List Ins} (hc : ∀ j u, (codeC l)[j]? = some u → w.cell? ⟨b, off + j, none⟩ = some u) (k : Nat) (h : k < l.length) :
    w.cell? ⟨b, off + k * 4, none⟩ = some (.int .i64 l[k].op) ∧ w.cell? ⟨b, off + k * 4 + 1, none⟩ = some (.int .i64 l[k].a) ∧ w.cell? ⟨b, off + k * 4 + 2, none⟩ = some (.int .i64 l[k].b) ∧ w.cell? ⟨b, off + k * 4 + 3, none⟩ = some (.int .i64 l[k].n) := by
  refine ⟨?_, ?_, ?_, ?_⟩
  · exact hc (k * 4) _ (by have := codeC_at l k 0 h (by decide); simpa [Ins.cells] using this)
  · exact hc (k * 4 + 1) _ (by rw [codeC_at l k 1 h (by decide)]; rfl)
  · exact hc (k * 4 + 2) _ (by rw [codeC_at l k 2 h (by decide)]; rfl)
  · exact hc (k * 4 + 3) _ (by rw [codeC_at l k 3 h (by decide)]; rfl)
def firstE : List Ins → Int
  | [] => 0
  | i :: r => if i.chk = 0 then firstE r else i.chk
def chkC (l : List Ins) : Int := if l.length < 1 ∨ 20 < l.length then 2 else firstE l
theorem firstE_at : ∀ (l : List Ins) (k : Nat) (h : k < l.length), (∀ j (hj : j < l.length), j < k → l[j].chk = 0) → l[k].chk ≠ 0 → firstE l = l[k].chk
  | i :: r, 0, _, _, hne => by rw [firstE, if_neg (show ¬ i.chk = 0 from hne)]; rfl
  | i :: r, k + 1, h, hz, hne => by
    rw [firstE, if_pos (show i.chk = 0 from hz 0 (by simp) (by omega))]
    exact firstE_at r k (by simpa using h) (fun j hj hlt => hz (j + 1) (by simpa using hj) (by omega)) hne
theorem firstE_all : ∀ l : List Ins, (∀ j (hj : j < l.length), l[j].chk = 0) → firstE l = 0
  | [], _ => rfl
  | i :: r, hz => by
    rw [firstE, if_pos (show i.chk = 0 from hz 0 (by simp))]
    exact firstE_all r (fun j hj => hz (j + 1) (by simpa using hj))
theorem firstE_zero : ∀ {l : List Ins}, firstE l = 0 → ∀ j (hj : j < l.length), l[j].chk = 0
  | i :: r, h, j, hj => by
    rw [firstE] at h
    by_cases hc : i.chk = 0
    · rw [if_pos hc] at h
      cases j with
      | zero => exact hc
      | succ j => exact firstE_zero h j (by simpa using hj)
    · rw [if_neg hc] at h; exact absurd h hc
theorem chkC_zero {l : List Ins} (h : chkC l = 0) : 1 ≤ l.length ∧ l.length ≤ 20 ∧ ∀ j (hj : j < l.length), l[j].chk = 0 := by
  unfold chkC at h
  by_cases hl : l.length < 1 ∨ 20 < l.length
  · rw [if_pos hl] at h; omega
  · rw [if_neg hl] at h
    exact ⟨by omega, by omega, firstE_zero h⟩
set_option maxHeartbeats 1000000 in
theorem codeCheck_any (l : List Ins) (v : Value) (w : World) (he : Env w) (hS : Sl w 4 v l.length (codeC l)) : Calls Tryd.prog 21 #[v] w fun e w' => e = .returned (.int .i64 (chkC l)) ∧ Below w.heap.size w w' := by
  by_cases hl : l.length < 1 ∨ 20 < l.length
  · obtain ⟨ao, cap, rfl⟩ := hS.form
    unfold chkC
    rw [if_pos hl]
    by_cases h1 : l.length < 1
    · have h1' : (l.length : Int) < 1 := by omega
      clear hl
      go_enter Tryd.func21, Tryd.ntmps21
      go_wp2
      go_ret
      exact ⟨rfl, Below.refl _ _⟩
    · have h1' : ¬ (l.length : Int) < 1 := by omega
      have h2' : (20 : Int) < l.length := by omega
      clear hl
      go_enter Tryd.func21, Tryd.ntmps21
      go_wp2
      go_ret
      exact ⟨rfl, Below.refl _ _⟩
  · unfold chkC
    rw [if_neg hl]
    have h1' : ¬ (l.length : Int) < 1 := by omega
    have h2' : ¬ (20 : Int) < l.length := by omega
    obtain ⟨b, off, cap, rfl, hcap, hbw, hc⟩ := hS.open (by omega)
    have HC := Lib.hid hc
    obtain ⟨res, hres⟩ : ∃ res, res = firstE l := ⟨_, rfl⟩
    rw [← hres]
    have HR := Lib.hid hres
    have hl20 : l.length ≤ 20 := by omega
    clear hl hc hS hres
    go_enter Tryd.func21, Tryd.ntmps21
    go_wp2
    go_loopw [16] (fun i wr => ∃ k : Nat, i = .int .i64 k ∧ k ≤ l.length ∧ Hid (∀ j (hj : j < l.length), j < k → l[j].chk = 0) ∧ Below w.heap.size w wr) (fun i _ => l.length - (intOf i).toNat)
    case atStart => exact ⟨0, rfl, Nat.zero_le _, fun j hj h => by omega, Below.refl _ _⟩
    case round =>
      obtain ⟨k, rfl, hk, HZ, hbel⟩ := hrel
      by_cases hlt : k < l.length
      · obtain ⟨c0, c1, c2, c3⟩ := code_cells HC.out k hlt
        have c0 := bcl hbel hbw c0
        have c1 := bcl hbel hbw c1
        have c2 := bcl hbel hbw c2
        have c3 := bcl hbel hbw c3
        have her := he.up hbel
        have hbr : b < wr.heap.size := Nat.lt_of_lt_of_le hbw hbel.size
        have hkc : (k : Int) < l.length := by omega
        obtain ⟨ck, hck⟩ : ∃ ck, ck = l[k].chk := ⟨_, rfl⟩
        by_cases h0 : ck = 0
        · have HCK : Hid (chkI l[k].op l[k].a l[k].b l[k].n = 0) := by show l[k].chk = 0; rw [← hck, h0]
          clear hck h0
          go_wp2_with (go_at_call 13; refine (chk_v _ _ _ _ 0 _ ?_ HCK.out).mono ?_; (exact her.up (by repeat (first | exact Below.refl _ _ | assumption | refine Below.drew ?_ | refine Below.alloc ?_ (by first | (simp; done) | (simp; omega)) _ | refine Below.setCell ?_ (by first | (simp; done) | (simp; omega)) _))); rintro e w1 ⟨rfl, hb1⟩)
          go_roundw
          case rel => exact ⟨k + 1, by go_num, by omega, fun j hj hjk => by
            by_cases e : j = k
            · subst e; exact HCK.out
            · exact HZ.out j hj (by omega), (hbel.alloc hbel.size _).trans (hb1.mono (by simp; have := hbel.size; omega))⟩
          case measure => simp [intOf]; omega
        · have HCK : Hid (chkI l[k].op l[k].a l[k].b l[k].n = ck) := by show l[k].chk = ck; rw [hck]
          have HRR : Hid (ck = res) := by
            show ck = res
            rw [HR.out, hck]; exact (firstE_at l k hlt HZ.out (by rw [← hck]; exact h0)).symm
          have h0' : (ck != 0) = true := by simpa using h0
          clear hck h0
          go_wp2_with (go_at_call 13; refine (chk_v _ _ _ _ ck _ ?_ HCK.out).mono ?_; (exact her.up (by repeat (first | exact Below.refl _ _ | assumption | refine Below.drew ?_ | refine Below.alloc ?_ (by first | (simp; done) | (simp; omega)) _ | refine Below.setCell ?_ (by first | (simp; done) | (simp; omega)) _))); rintro e w1 ⟨rfl, hb1⟩)
          go_ret
          exact ⟨ret_int HRR.out, (hbel.alloc hbel.size _).trans (hb1.mono (by simp; have := hbel.size; omega))⟩
      · have hkc : ¬ (k : Int) < l.length := by omega
        have HRR : Hid ((0 : Int) = res) := by
          show (0 : Int) = res
          rw [HR.out]; exact (firstE_all l (fun j hj => HZ.out j hj (by omega))).symm
        go_wp2
        go_ret
        exact ⟨ret_int HRR.out, hbel⟩
end Go.Proofs.YtclnedeodmlfeaaDoor

namespace Go.Proofs.YtclnedeodmlfeaaDoor
set_option linter.unusedSimpArgs false
set_option linter.unusedVariables false
open Go.RowKit Go.Sort
set_option maxHeartbeats 1000000 in
theorem codeRef_any (l : List Ins) (hok : ∀ j (hj : j < l.length), l[j].ok) (v : Value) (w : World) (hS : Sl w 4 v l.length (codeC l)) : Calls Tryd.prog 18 #[v] w fun e w' => e = .returned (.int .i64 (chkC l)) ∧ Below w.heap.size w w' := by
  by_cases hl : l.length < 1 ∨ 20 < l.length
  · obtain ⟨ao, cap, rfl⟩ := hS.form
    unfold chkC
    rw [if_pos hl]
    have hw : withinB l.length 1 20 = false := by unfold withinB; simp; omega
    clear hl
    go_enter Tryd.func18, Tryd.ntmps18
    go_wp2_with (go_at_call 29; refine (within_any _ _ _ _).mono ?_; rintro e w' ⟨rfl, rfl⟩)
    go_ret
    exact ⟨rfl, Below.refl _ _⟩
  · unfold chkC
    rw [if_neg hl]
    have hw : withinB l.length 1 20 = true := by unfold withinB; simp; omega
    obtain ⟨b, off, cap, rfl, hcap, hbw, hc⟩ := hS.open (by omega)
    have HC := Lib.hid hc
    obtain ⟨res, hres⟩ : ∃ res, res = firstE l := ⟨_, rfl⟩
    rw [← hres]
    have HR := Lib.hid hres
    have hl20 : l.length ≤ 20 := by omega
    have HOK := Lib.hid hok
    clear hl hc hS hres hok
    go_enter Tryd.func18, Tryd.ntmps18
    go_wp2_with (go_at_call 29; refine (within_any _ _ _ _).mono ?_; rintro e w' ⟨rfl, rfl⟩)
    go_loopw [3] (fun i wr => ∃ k : Nat, i = .int .i64 k ∧ k ≤ l.length ∧ Hid (∀ j (hj : j < l.length), j < k → l[j].chk = 0) ∧ Below w'.heap.size w' wr) (fun i _ => l.length - (intOf i).toNat)
    case atStart => exact ⟨0, rfl, Nat.zero_le _, fun j hj h => by omega, Below.refl _ _⟩
    case round =>
      obtain ⟨k, rfl, hk, HZ, hbel⟩ := hrel
      by_cases hlt : k < l.length
      · obtain ⟨c0, c1, c2, c3⟩ := code_cells HC.out k hlt
        have c0 := bcl hbel hbw c0
        have c1 := bcl hbel hbw c1
        have c2 := bcl hbel hbw c2
        have c3 := bcl hbel hbw c3
        have hbr : b < wr.heap.size := Nat.lt_of_lt_of_le hbw hbel.size
        have hkc : (k : Int) < l.length := by omega
        have hin := (HOK.out k hlt).2.2.2
        obtain ⟨ck, hck⟩ : ∃ ck, ck = l[k].chk := ⟨_, rfl⟩
        by_cases h0 : ck = 0
        · have HCK : Hid (chkI l[k].op l[k].a l[k].b l[k].n = 0) := by show l[k].chk = 0; rw [← hck, h0]
          clear hck h0
          go_wp2_with (go_at_call 10; refine (chkRef_any _ _ _ _ hin _).mono ?_; rw [HCK.out]; rintro e w1 ⟨rfl, hb1⟩)
          go_roundw
          case rel => exact ⟨k + 1, by go_num, by omega, fun j hj hjk => by
            by_cases e : j = k
            · subst e; exact HCK.out
            · exact HZ.out j hj (by omega), hbel.trans (hb1.mono hbel.size)⟩
          case measure => simp [intOf]; omega
        · have HCK : Hid (chkI l[k].op l[k].a l[k].b l[k].n = ck) := by show l[k].chk = ck; rw [hck]
          have HRR : Hid (ck = res) := by
            show ck = res
            rw [HR.out, hck]; exact (firstE_at l k hlt HZ.out (by rw [← hck]; exact h0)).symm
          have h0' : (ck != 0) = true := by simpa using h0
          clear hck h0
          go_wp2_with (go_at_call 10; refine (chkRef_any _ _ _ _ hin _).mono ?_; rw [HCK.out]; rintro e w1 ⟨rfl, hb1⟩)
          go_ret
          exact ⟨ret_int HRR.out, hbel.trans (hb1.mono hbel.size)⟩
      · have hkc : ¬ (k : Int) < l.length := by omega
        have HRR : Hid ((0 : Int) = res) := by
          show (0 : Int) = res
          rw [HR.out]; exact (firstE_all l (fun j hj => HZ.out j hj (by omega))).symm
        go_wp2
        go_ret
        exact ⟨ret_int HRR.out, hbel⟩
def ints (zs : List Int) : List Value := zs.map fun z => .int .i64 z
theorem ints_at (zs : List Int) (k : Nat) (h : k < zs.length) : (ints zs)[k]? = some (.int .i64 zs[k]) := by simp [ints, h]
theorem own_sl {w : World} {base : Nat} {e : TypeId} {v : Value} {n : Nat} {size : Nat} {xs : List Value} (h : w.ownsRow base e size v n xs) : Sl w size v n xs := by
  refine ⟨h.1, ?_⟩
  rcases h.2 with ⟨rfl, rfl⟩ | ⟨g, cap, cur, rfl, hg, hh, hn, _, hs, ht⟩
  · exact ⟨none, 0, rfl, Nat.le_refl _, fun h => by omega⟩
  · refine ⟨_, cap, rfl, hn, fun _ => ⟨g, 0, rfl, ?_, fun j u hj => ?_⟩⟩
    · rcases Nat.lt_or_ge g w.heap.size with hlt | hge
      · exact hlt
      · rw [Array.getElem?_eq_none hge] at hh; cases hh
    · have hadd : (⟨g, 0, none⟩ : Addr).add j = ⟨g, j, none⟩ := by unfold Addr.add; split <;> simp_all
      have := h.cells (g := g) rfl j u hj
      rw [hadd] at this
      rw [Nat.zero_add]; exact this
set_option maxHeartbeats 1000000 in
theorem sameInts_any (xs ys : List Int) (v u : Value) (w : World) (hx : Sl w 1 v xs.length (ints xs)) (hy : Sl w 1 u ys.length (ints ys)) (hm : xs.length < 281474976710657) (r : Bool) (hr : decide (xs = ys) = r) :
    Calls Tryd.prog 22 #[v, u] w fun e w' => e = .returned (.bool r) ∧ Below w.heap.size w w' := by
  obtain ⟨ax, cx, rfl⟩ := hx.form
  obtain ⟨ay, cy, rfl⟩ := hy.form
  by_cases hl : xs.length = ys.length
  · have hl' : ((xs.length : Int) != (ys.length : Int)) = false := by simp; omega
    have HX := Lib.hid hx
    have HY := Lib.hid hy
    have HL := Lib.hid hl
    have HR := Lib.hid hr
    clear hx hy hl hr
    go_enter Tryd.func22, Tryd.ntmps22
    go_wp2
    go_loopw [5] (fun i wr => ∃ k : Nat, i = .int .i64 k ∧ k ≤ xs.length ∧ Hid (xs.take k = ys.take k) ∧ Below w.heap.size w wr) (fun i _ => xs.length - (intOf i).toNat)
    case atStart => exact ⟨0, rfl, Nat.zero_le _, rfl, Below.refl _ _⟩
    case round =>
      obtain ⟨k, rfl, hk, HZ, hbel⟩ := hrel
      by_cases hlt : k < xs.length
      · have hly : k < ys.length := by have := HL.out; omega
        obtain ⟨b, off, cap, e1, hcap, hbw, hc⟩ := HX.out.open (by omega)
        obtain ⟨b', off', cap', e2, hcap', hbw', hc'⟩ := HY.out.open (by omega)
        cases e1
        cases e2
        have c0 := bcl hbel hbw (hc k _ (ints_at xs k hlt))
        have c1 := bcl hbel hbw' (hc' k _ (ints_at ys k hly))
        have i1 : (0 : Int) ≤ k := by omega
        have i2 : (k : Int) < xs.length := by omega
        have i3 : (k : Int) < ys.length := by omega
        have HT : Hid (xs[k] = ys[k] → xs.take (k + 1) = ys.take (k + 1)) := fun e => by
          rw [List.take_succ_eq_append_getElem hlt, List.take_succ_eq_append_getElem hly, e, HZ.out]
        have HN : Hid (xs[k] ≠ ys[k] → r = false) := fun hne => by
          rw [← HR.out]
          simp only [decide_eq_false_iff_not]
          intro e
          subst e
          exact hne rfl
        clear hc hc' HZ
        by_cases hq : xs[k] = ys[k]
        · have hq' : (xs[k] != ys[k]) = false := by simp [hq]
          have HQ := Lib.hid (HT.out hq)
          clear hq HT HN
          go_wp2
          go_region
          all_goals go_wp2
          all_goals
            go_roundw
            case rel => exact ⟨k + 1, by go_num, by omega, HQ, by first | exact hbel | exact hbel.drew⟩
            case measure => simp [intOf]; omega
        · have hq' : (xs[k] != ys[k]) = true := by simp [hq]
          have HQ := Lib.hid (HN.out hq)
          clear hq HT HN
          go_wp2
          go_region
          all_goals go_wp2
          all_goals go_ret
          all_goals exact ⟨ret_bool (by rw [HQ.out]), by first | exact hbel | exact hbel.drew⟩
      · have hkc : ¬ (k : Int) < xs.length := by omega
        have HQ : Hid (true = r) := by
          show true = r
          have h := HZ.out
          rw [List.take_of_length_le (by omega), List.take_of_length_le (by have := HL.out; omega)] at h
          rw [← HR.out, h]; simp
        go_wp2
        go_ret
        exact ⟨ret_bool HQ.out, hbel⟩
  · have hl' : ((xs.length : Int) != (ys.length : Int)) = true := by simp; omega
    have HR : Hid (false = r) := by
      show false = r
      rw [← hr]
      symm
      simp only [decide_eq_false_iff_not]
      intro e; subst e; exact hl rfl
    clear hx hy hl hr
    go_enter Tryd.func22, Tryd.ntmps22
    go_wp2
    go_ret
    exact ⟨ret_bool HR.out, Below.refl _ _⟩
end Go.Proofs.YtclnedeodmlfeaaDoor

namespace Go.Proofs.YtclnedeodmlfeaaDoor
set_option linter.unusedSimpArgs false
set_option linter.unusedVariables false
open Go.RowKit Go.Sort
def hasC (l : List Ins) (op : Int) (c : Nat) : Bool := l.any fun i => i.op == op && i.n == (c : Int)
theorem hasC_snoc (l : List Ins) (i : Ins) (op : Int) (c : Nat) : hasC (l ++ [i]) op c = (hasC l op c || (i.op == op && i.n == (c : Int))) := by simp [hasC]
theorem take_snoc' {α : Type} (l : List α) (k : Nat) (h : k < l.length) : l.take (k + 1) = l.take k ++ [l[k]] := List.take_succ_eq_append_getElem h
def chanL (l : List Ins) (op : Int) (m : Nat) : List Int := ((List.range m).filter (hasC l op)).map fun c : Nat => (c : Int)
theorem chanL_succ (l : List Ins) (op : Int) (m : Nat) : chanL l op (m + 1) = chanL l op m ++ (if hasC l op m then [(m : Int)] else []) := by
  unfold chanL
  rw [List.range_succ, List.filter_append, List.map_append]
  congr 1
  cases h : hasC l op m <;> simp [h]
theorem run_index6 (cs : Array Value) (c : Nat) (v : Value) (h : cs[c]? = some v) (hc : c < 6) (w : World) : (Instr.index 83 (.agg cs) (.int .i64 c)).run Tryd.prog w = .ok v w := by
  have hc' : (c : Int) < 6 := by omega
  simp [Instr.index, run_underlying Tryd.underlying83, asIntOf, go_sem, hc', h]
  intro h6; omega
theorem six_at (f : Nat → Bool) (c : Nat) (h : c < 6) : (#[Value.bool (f 0), .bool (f 1), .bool (f 2), .bool (f 3), .bool (f 4), .bool (f 5)])[c]? = some (.bool (f c)) := by
  match c, h with
  | 0, _ => rfl
  | 1, _ => rfl
  | 2, _ => rfl
  | 3, _ => rfl
  | 4, _ => rfl
  | 5, _ => rfl
theorem info3 : (Tryd.prog.info? 3).map (fun i => (i.zero, i.size, i.bytes)) = some (some (.int .i64 0), 1, 8) := by kernel_rfl
theorem int_cell (z : Int) : ∀ u ∈ [Value.int .i64 z], u.oneCell' = true := by
  intro u hu; simp at hu; subst hu; rfl
theorem ints_step {w wr w1 : World} {v v' : Value} {zs : List Int} {z : Int} {o : Obj} (hbel : Below w.heap.size w wr) (hown0 : wr.ownsRow w.heap.size 3 1 v zs.length (ints zs))
    (hown1 : w1.ownsRow w.heap.size 3 1 v' (zs.length + 1) (ints zs ++ [.int .i64 z])) (hgrow : (wr.alloc o).grownBy w1 v.ownBlock) :
    w1.ownsRow w.heap.size 3 1 v' (zs ++ [z]).length (ints (zs ++ [z])) ∧ Below w.heap.size w w1 := by
  refine ⟨by simpa [ints] using hown1, ?_⟩
  exact (hbel.alloc hbel.size o).grown hgrow (by have := hbel.size; simp; omega) (own_block hown0)
theorem chk_chan {i : Ins} (h : i.chk = 0) (ho : i.op = 12 ∨ i.op = 13) : 0 ≤ i.n ∧ i.n < 6 := by
  have hN : rowN i.op.toNat = true := by rcases ho with e | e <;> rw [e] <;> rfl
  have hL : rowLo i.op.toNat = 0 := by rcases ho with e | e <;> rw [e] <;> rfl
  have hH : rowHi i.op.toNat = 5 := by rcases ho with e | e <;> rw [e] <;> rfl
  unfold Ins.chk chkI at h
  rw [if_neg (by omega)] at h
  unfold chkRow at h
  rw [hN, hL, hH] at h
  split at h
  · omega
  · rename_i hc
    simp only [Bool.or_eq_true, Bool.and_eq_true, Bool.true_and, decide_eq_true_eq, not_or] at hc
    omega
structure Marks (w wr : World) (A : Nat) (l : List Ins) (op : Int) : Prop where
  c : ∀ j, j < 6 → wr.cell? ⟨A, j, none⟩ = some (.bool (hasC l op j))
  f : ∀ j, wr.frozen? ⟨A, j, none⟩ = false
  lt : A < wr.heap.size
  ge : w.heap.size ≤ A
  up : Below w.heap.size w wr
theorem Marks.go {w wr w2 : World} {A : Nat} {l : List Ins} {op : Int} (h : Marks w wr A l op) (hb : Below wr.heap.size wr w2) : Marks w w2 A l op :=
  ⟨fun j hj => bcl hb h.lt (h.c j hj), fun j => bfr hb h.lt (h.f j), Nat.lt_of_lt_of_le h.lt hb.size, h.ge, h.up.trans (hb.mono h.up.size)⟩
theorem Marks.hit {w wr : World} {A : Nat} {l : List Ins} {op : Int} {i : Ins} (h : Marks w wr A l op) (hop : (i.op == op) = true) (m : Nat) (hm : i.n = m) (h6 : m < 6) : Marks w (wr.setCell ⟨A, m, none⟩ (.bool true)) A (l ++ [i]) op := by
  refine ⟨fun j hj => ?_, fun j => fr_set (h.f j), by rw [size_set]; exact h.lt, h.ge, h.up.setCell h.ge _⟩
  rw [hasC_snoc, hop, hm]
  by_cases e : j = m
  · subst e
    rw [cl_same (h.c j hj)]; simp
  · rw [cl_set (Or.inr e) (h.c j hj)]
    have : ((m : Int) == (j : Int)) = false := by simp; omega
    rw [this]; simp
theorem Marks.miss {w wr : World} {A : Nat} {l : List Ins} {op : Int} {i : Ins} (h : Marks w wr A l op) (hop : (i.op == op) = false) : Marks w wr A (l ++ [i]) op :=
  ⟨fun j hj => by rw [hasC_snoc, hop]; simpa using h.c j hj, h.f, h.lt, h.ge, h.up⟩
set_option maxRecDepth 100000 in
set_option maxHeartbeats 2000000 in
theorem channels_yes (l : List Ins) (op : Int) (hop : op = 12 ∨ op = 13) (v : Value) (w : World) (he : Env w) (hS : Sl w 4 v l.length (codeC l)) (hc0 : chkC l = 0) :
    Calls Tryd.prog 38 #[v, .int .i64 op] w fun e w' => ∃ v', e = .returned (.tuple #[v', .int .i64 0]) ∧ w'.ownsRow w.heap.size 3 1 v' (chanL l op 6).length (ints (chanL l op 6)) ∧ Below w.heap.size w w' := by
  obtain ⟨hl1, hl20, hz⟩ := chkC_zero hc0
  obtain ⟨i0, hi, hz0, hz1, hz2⟩ := info_parts info3
  obtain ⟨b, off, cap, rfl, hcap, hbw, hc⟩ := hS.open (by omega)
  have HS := Lib.hid hS
  have HC := Lib.hid hc
  have HZ := Lib.hid hz
  have H0 := Lib.hid hc0
  have HO := Lib.hid hop
  clear hS hc hz hc0 hop
  go_enter Tryd.func38, Tryd.ntmps38
  go_wp2_with (go_at_call 21; refine (codeCheck_any l _ _ he HS.out).mono ?_; rw [H0.out]; rintro e w1 ⟨rfl, hb1⟩; refine Hid.out ?_)
  have hbw1 : b < w1.heap.size := Nat.lt_of_lt_of_le hbw hb1.size
  have HC1 : Hid (∀ j u, (codeC l)[j]? = some u → w1.cell? ⟨b, off + j, none⟩ = some u) := fun j u hj => bcl hb1 hbw (HC.out j u hj)
  have HM : Hid (Marks w (w1.alloc (.cells #[.bool false, .bool false, .bool false, .bool false, .bool false, .bool false] 83)) w1.heap.size [] op) := by
    refine ⟨fun j hj => ?_, fun j => by simp, by simp, hb1.size, hb1.alloc hb1.size _⟩
    rw [World.cell?_alloc_new]
    match j, hj with
    | 0, _ => rfl
    | 1, _ => rfl
    | 2, _ => rfl
    | 3, _ => rfl
    | 4, _ => rfl
    | 5, _ => rfl
  clear hb1
  refine Lib.hid ?_
  go_wp2
  go_loopw [20] (fun i wr => ∃ k : Nat, i = .int .i64 k ∧ k ≤ l.length ∧ Hid (Marks w wr w1.heap.size (l.take k) op) ∧ Hid (Below w1.heap.size w1 wr)) (fun i _ => l.length - (intOf i).toNat)
  case atStart => exact ⟨0, rfl, Nat.zero_le _, HM, Below.alloc (Below.refl _ _) (Nat.le_refl _) _⟩
  case round =>
    obtain ⟨k, rfl, hk, HK, HB⟩ := hrel
    by_cases hlt : k < l.length
    · obtain ⟨c0, c1, c2, c3⟩ := code_cells HC1.out k hlt
      have c0 := bcl HB.out hbw1 c0
      have c1 := bcl HB.out hbw1 c1
      have c2 := bcl HB.out hbw1 c2
      have c3 := bcl HB.out hbw1 c3
      have hbr : b < wr.heap.size := Nat.lt_of_lt_of_le hbw1 HB.out.size
      have hAr := HK.out.lt
      have i1 : (k : Int) < l.length := by omega
      have HT := Lib.hid (take_snoc' l k hlt)
      generalize hq : (l[k].op == op) = q
      cases q
      · have HM2 := Lib.hid ((HK.out.miss hq).go (w2 := wr.alloc (.cells #[.int .i64 l[k].op, .int .i64 l[k].a, .int .i64 l[k].b, .int .i64 l[k].n] 23)) ((Below.refl _ _).alloc (Nat.le_refl _) _))
        go_wp2
        go_roundw
        case rel => exact ⟨k + 1, by go_num, by omega, by rw [HT.out]; exact HM2, HB.out.alloc HB.out.size _⟩
        case measure => simp [intOf]; omega
      · obtain ⟨m, hm, hm6⟩ : ∃ m : Nat, l[k].n = m ∧ m < 6 := by
          have e : l[k].op = op := by simpa using hq
          have := chk_chan (HZ.out k hlt) (by rw [e]; exact HO.out)
          exact ⟨l[k].n.toNat, by omega, by omega⟩
        have HM2 := Lib.hid ((HK.out.hit hq m hm hm6).go (w2 := (wr.setCell ⟨w1.heap.size, m, none⟩ (.bool true)).alloc (.cells #[.int .i64 l[k].op, .int .i64 l[k].a, .int .i64 l[k].b, .int .i64 (m : Int)] 23)) ((Below.refl _ _).alloc (Nat.le_refl _) _))
        rw [hm] at c3
        have fA := HK.out.f m
        have cA := HK.out.c m hm6
        have i2 : (m : Int) < 6 := by omega
        have i3 : (0 : Int) ≤ m := by omega
        clear hm
        go_wp2
        go_roundw
        case rel => exact ⟨k + 1, by go_num, by omega, by rw [HT.out]; exact HM2, (HB.out.setCell (Nat.le_refl _) _).alloc (by rw [size_set]; exact HB.out.size) _⟩
        case measure => simp [intOf]; omega
    · obtain rfl : k = l.length := by omega
      have hm := HK.out
      rw [List.take_length] at hm
      have a0 := hm.c 0 (by decide)
      have a1 := hm.c 1 (by decide)
      have a2 := hm.c 2 (by decide)
      have a3 := hm.c 3 (by decide)
      have a4 := hm.c 4 (by decide)
      have a5 := hm.c 5 (by decide)
      have hup := hm.up
      have HU := Lib.hid hup
      clear hm HK HM hup HC1
      have i1 : ¬ ((l.length : Int) < l.length) := by omega
      obtain ⟨wo, rfl⟩ : ∃ wo : World, wo = wr := ⟨_, rfl⟩
      go_wp2
      go_loopw [10, 33] (fun o i wr => ∃ (c : Nat) (zs : List Int), i = .int .i64 c ∧ c ≤ 6 ∧ Hid (zs = chanL l op c) ∧ zs.length ≤ c ∧ wr.ownsRow w.heap.size 3 1 o zs.length (ints zs) ∧ Below w.heap.size w wr) (fun _ i _ => 6 - (intOf i).toNat)
      case atStart => exact ⟨0, [], rfl, by omega, (show [] = chanL l op 0 from rfl), Nat.le_refl _, World.ownsRow_nil _ _ _ _, HU⟩
      case round =>
        obtain ⟨c, zs, rfl, hcc, HZZ, hzl, hown, hbel⟩ := hrel
        obtain ⟨ao, cp, rfl⟩ := own_form hown
        have hbs := hbel.size
        by_cases hlt : c < 6
        · have HC1 := Lib.hid (chanL_succ l op c)
          have hix := run_index6 _ c _ (six_at (hasC l op) c hlt) hlt
          have hlc : (c : Int) < 6 := by omega
          generalize hqb : hasC l op c = qb at hix
          cases qb
          · have HZ2 : Hid (zs = chanL l op (c + 1)) := by
              show zs = _
              rw [HC1.out, hqb, HZZ.out]; simp
            clear hqb HC1 HZZ a0 a1 a2 a3 a4 a5
            go_wp2
            go_roundw
            case rel => exact ⟨c + 1, zs, by go_num, by omega, HZ2, by omega, hown, hbel⟩
            case measure => simp [intOf]; omega
          · have HZ2 : Hid (zs ++ [(c : Int)] = chanL l op (c + 1)) := by
              show _ = _
              rw [HC1.out, hqb, HZZ.out]; simp
            clear hqb HC1 HZZ a0 a1 a2 a3 a4 a5
            go_wp2_with (at_builtin; refine wpList_append_lies _ rfl (.tmp 38) (.tmp 40) 38 rfl w.heap.size 3 i0 (.int .i64 0) 1 8 Tryd.underlying38 hi hz0 hz1 hz2 rfl (by decide) (.slice ao zs.length cp) zs.length (ints zs) rfl (hown.alloc _) ⟨_, 0, none⟩ 1 1 [.int .i64 c] rfl rfl (one_new _ _ 3) (int_cell _) (by decide) (by unfold maxLen; omega) (by omega) (by simp; omega) _ rfl ?_; intro g cap1 w2 hown1 hgrow hat hglt)
            have R := ints_step hbel hown hown1 hgrow
            clear hown1 hgrow hown hat
            go_wp2
            go_roundw
            case rel => exact ⟨c + 1, zs ++ [(c : Int)], by go_num, by omega, HZ2, by simp; omega, R.1, R.2⟩
            case measure => simp [intOf]; omega
        · have hlc : ¬ (c : Int) < 6 := by omega
          obtain rfl : c = 6 := by omega
          go_wp2
          go_ret2
          exact ⟨_, rfl, by rw [← HZZ.out]; exact hown, hbel⟩
end Go.Proofs.YtclnedeodmlfeaaDoor

namespace Go.Proofs
set_option linter.unusedSimpArgs false
set_option linter.unusedVariables false
open Go.Shelf
def Tryd.bren : Go.Shelf.Ren := ⟨fun | 166 => 40 | 167 => 41 | 169 => 42 | 240 => 47 | 276 => 51 | n => n, fun | 0 => 0 | 2 => 2 | 3 => 3 | 4 => 4 | 5 => 5 | 9 => 9 | 20 => 20 | 37 => 70 | 70 => 69 | 72 => 72 | 75 => 74 | 80 => 78 | 164 => 86 | n => n, fun | n => n⟩
theorem Tryd.blays166 : Go.Proofs.Lays.n166 Tryd.prog Tryd.bren := {
  mixed := by kernel_rfl
  f166 := Tryd.func40.trans (congrArg some (by kernel_rfl))
  f240 := Tryd.func47.trans (congrArg some (by kernel_rfl))
  f276 := Tryd.func51.trans (congrArg some (by kernel_rfl))
  t0 := Tryd.underlying0
  a0 := Tryd.isAgg0
  z0 := Tryd.sizeOf0
  v0 := Tryd.zeroValue0
  t3 := Tryd.underlying3
  a3 := Tryd.isAgg3
  z3 := Tryd.sizeOf3
  v3 := Tryd.zeroValue3
  t4 := Tryd.underlying4
  a4 := Tryd.isAgg4
  z4 := Tryd.sizeOf4
  v4 := Tryd.zeroValue4
  t9 := Tryd.underlying9
  a9 := Tryd.isAgg9
  z9 := Tryd.sizeOf9
  v9 := Tryd.zeroValue9
  t20 := Tryd.underlying20
  a20 := Tryd.isAgg20
  z20 := Tryd.sizeOf20
  v20 := Tryd.zeroValue20
  t37 := Tryd.underlying70
  a37 := Tryd.isAgg70
  z37 := Tryd.sizeOf70
  v37 := Tryd.zeroValue70
  t70 := Tryd.underlying69
  a70 := Tryd.isAgg69
  z70 := Tryd.sizeOf69
  v70 := Tryd.zeroValue69
  t72 := Tryd.underlying72
  a72 := Tryd.isAgg72
  z72 := Tryd.sizeOf72
  v72 := Tryd.zeroValue72
  t75 := Tryd.underlying74
  a75 := Tryd.isAgg74
  z75 := Tryd.sizeOf74
  v75 := Tryd.zeroValue74
  t164 := Tryd.underlying86
  a164 := Tryd.isAgg86
  z164 := Tryd.sizeOf86
  v164 := Tryd.zeroValue86 }
theorem Tryd.blays167 : Go.Proofs.Lays.n167 Tryd.prog Tryd.bren := {
  mixed := by kernel_rfl
  f167 := Tryd.func41.trans (congrArg some (by kernel_rfl))
  f240 := Tryd.func47.trans (congrArg some (by kernel_rfl))
  f276 := Tryd.func51.trans (congrArg some (by kernel_rfl))
  t0 := Tryd.underlying0
  a0 := Tryd.isAgg0
  z0 := Tryd.sizeOf0
  v0 := Tryd.zeroValue0
  t4 := Tryd.underlying4
  a4 := Tryd.isAgg4
  z4 := Tryd.sizeOf4
  v4 := Tryd.zeroValue4
  t5 := Tryd.underlying5
  a5 := Tryd.isAgg5
  z5 := Tryd.sizeOf5
  v5 := Tryd.zeroValue5
  t9 := Tryd.underlying9
  a9 := Tryd.isAgg9
  z9 := Tryd.sizeOf9
  v9 := Tryd.zeroValue9
  t20 := Tryd.underlying20
  a20 := Tryd.isAgg20
  z20 := Tryd.sizeOf20
  v20 := Tryd.zeroValue20
  t37 := Tryd.underlying70
  a37 := Tryd.isAgg70
  z37 := Tryd.sizeOf70
  v37 := Tryd.zeroValue70
  t70 := Tryd.underlying69
  a70 := Tryd.isAgg69
  z70 := Tryd.sizeOf69
  v70 := Tryd.zeroValue69
  t72 := Tryd.underlying72
  a72 := Tryd.isAgg72
  z72 := Tryd.sizeOf72
  v72 := Tryd.zeroValue72
  t75 := Tryd.underlying74
  a75 := Tryd.isAgg74
  z75 := Tryd.sizeOf74
  v75 := Tryd.zeroValue74
  t164 := Tryd.underlying86
  a164 := Tryd.isAgg86
  z164 := Tryd.sizeOf86
  v164 := Tryd.zeroValue86 }
theorem Tryd.bextra : Builder.Extra Tryd.prog Tryd.bren := {
  sizeBuilder := by kernel_rfl
  liesBuilder := by kernel_rfl
  t5 := Tryd.underlying5
  a5 := Tryd.isAgg5
  z5 := Tryd.sizeOf5
  v5 := Tryd.zeroValue5
  infoByte := by kernel_rfl
  cellsByte := by kernel_rfl
  sizeByte := by kernel_rfl
  neB5 := by decide }
end Go.Proofs

namespace Go.Proofs
set_option linter.unusedSimpArgs false
set_option linter.unusedVariables false
open Go.Shelf
def Tryd.lays169_ren : Go.Shelf.Ren := ⟨fun | 169 => 42 | n => n, fun | 70 => 69 | 9 => 9 | 0 => 0 | 72 => 72 | 37 => 70 | 127 => 84 | 3 => 3 | 5 => 5 | n => n, fun | n => n⟩
theorem Tryd.lays169 : Go.Proofs.Lays.n169 Tryd.prog Tryd.lays169_ren := {
  mixed := by kernel_rfl
  f169 := Tryd.func42.trans (congrArg some (by kernel_rfl))
  t0 := Tryd.underlying0
  a0 := Tryd.isAgg0
  z0 := Tryd.sizeOf0
  v0 := Tryd.zeroValue0
  t3 := Tryd.underlying3
  a3 := Tryd.isAgg3
  z3 := Tryd.sizeOf3
  v3 := Tryd.zeroValue3
  t9 := Tryd.underlying9
  a9 := Tryd.isAgg9
  z9 := Tryd.sizeOf9
  v9 := Tryd.zeroValue9
  t37 := Tryd.underlying70
  a37 := Tryd.isAgg70
  z37 := Tryd.sizeOf70
  v37 := Tryd.zeroValue70
  t70 := Tryd.underlying69
  a70 := Tryd.isAgg69
  z70 := Tryd.sizeOf69
  v70 := Tryd.zeroValue69
  t72 := Tryd.underlying72
  a72 := Tryd.isAgg72
  z72 := Tryd.sizeOf72
  v72 := Tryd.zeroValue72
  t127 := Tryd.underlying84
  a127 := Tryd.isAgg84
  z127 := Tryd.sizeOf84
  v127 := Tryd.zeroValue84 }
theorem Tryd.Builder_Extra_169 : Builder.Extra Tryd.prog Tryd.lays169_ren := {
  sizeBuilder := by kernel_rfl
  liesBuilder := by kernel_rfl
  t5 := Tryd.underlying5
  a5 := Tryd.isAgg5
  z5 := Tryd.sizeOf5
  v5 := Tryd.zeroValue5
  infoByte := by kernel_rfl
  cellsByte := by kernel_rfl
  sizeByte := by kernel_rfl
  neB5 := by decide }
open Go.RowKit in
theorem Tryd.Builder_String_any (B b : Nat) (l : List UInt8) (w : World) (h : Lib.IsBuilder 72 5 B b (Lib.byteCells l) w) (hBw : B ≤ w.heap.size) :
    Calls Tryd.prog 42 #[.pointer (some ⟨b, 0, none⟩)] w fun e w' => e = .returned (.string ⟨l.toArray⟩) ∧ Below B w w' := Any.Builder_String_any Tryd.lays169 Tryd.Builder_Extra_169 B b l w h hBw
end Go.Proofs

namespace Go.Proofs.YtclnedeodmlfeaaDoor
set_option linter.unusedSimpArgs false
set_option linter.unusedVariables false
open Go.RowKit Go.Sort
theorem own_up {w w' : World} {base : Nat} {e : TypeId} {size : Nat} {v : Value} {n : Nat} {xs : List Value} (h : w.ownsRow base e size v n xs) (hb : Below w.heap.size w w') : w'.ownsRow base e size v n xs := by
  refine ⟨h.1, ?_⟩
  rcases h.2 with h | ⟨g, cap, cur, h1, h2, h3, r⟩
  · exact Or.inl h
  · refine Or.inr ⟨g, cap, cur, h1, h2, ?_, r⟩
    have hlt : g < w.heap.size := by
      rcases Nat.lt_or_ge g w.heap.size with hlt | hge
      · exact hlt
      · rw [Array.getElem?_eq_none hge] at h3; cases h3
    rw [hb.block g hlt]; exact h3
theorem bld_up {w w' : World} {T e : TypeId} {B b : Nat} {bs : List Value} (h : Lib.IsBuilder T e B b bs w) (hb : Below w.heap.size w w') : Lib.IsBuilder T e B b bs w' := by
  rcases h with h | h
  · obtain ⟨h1, v, h2, h3, h4⟩ := h
    have hlt := Lib.BuilderAt.lt ⟨h1, v, h2, h3, h4⟩
    exact Or.inl ⟨h1, v, by rw [hb.block b hlt]; exact h2, own_up h3 hb, h4⟩
  · obtain ⟨h1, v, h2, h3, h4⟩ := h
    have hlt := Lib.BuilderAt.lt ⟨h1, v, h2, h3, h4⟩
    exact Or.inr ⟨h1, v, by rw [hb.block b hlt]; exact h2, own_up h3 hb, h4⟩
def textC : List Ins → List UInt8
  | [] => []
  | i :: r => (i.txt ++ [10]) ++ textC r
theorem textC_snoc : ∀ (l : List Ins) (i : Ins), textC (l ++ [i]) = (textC l ++ i.txt) ++ [10]
  | [], i => by simp [textC]
  | j :: r, i => by rw [List.cons_append, textC, textC, textC_snoc r i]; simp
theorem byteCells_app (a b : List UInt8) : Lib.byteCells (a ++ b) = Lib.byteCells a ++ Lib.byteCells b := by simp [Lib.byteCells]
theorem ins_len {i : Ins} (h : i.ok) (hc : i.chk = 0) : i.txt.length ≤ 70 := by
  obtain ⟨k, e, _, hk, _⟩ := right_of hc
  unfold Ins.txt
  rw [e, Int.toNat_natCast]
  exact txt_len k hk _ _ _ h.2.1 h.2.2.1 h.2.2.2
theorem textC_len : ∀ l : List Ins, (∀ j (hj : j < l.length), l[j].ok ∧ l[j].chk = 0) → (textC l).length ≤ 71 * l.length
  | [], _ => by simp [textC]
  | i :: r, h => by
    have h1 := ins_len (h 0 (by simp)).1 (h 0 (by simp)).2
    have h2 := textC_len r (fun j hj => h (j + 1) (by simpa using hj))
    rw [textC]
    simp at h1 ⊢
    omega
theorem showC_no (l : List Ins) (v : Value) (w : World) (he : Env w) (hS : Sl w 4 v l.length (codeC l)) (c : Int) (hc : chkC l = c) (hc0 : c ≠ 0) :
    Calls Tryd.prog 23 #[v] w fun e w' => e = .returned (.tuple #[.string ⟨#[]⟩, .int .i64 c]) ∧ Below w.heap.size w w' := by
  have hc' : (c != 0) = true := by simpa using hc0
  have HS := Lib.hid hS
  have HC := Lib.hid hc
  clear hS hc hc0
  go_enter Tryd.func23, Tryd.ntmps23
  go_wp2_with (go_at_call 21; refine (codeCheck_any l _ _ he HS.out).mono ?_; rw [HC.out]; rintro e w1 ⟨rfl, hb1⟩)
  go_ret2
  exact ⟨rfl, hb1⟩
set_option maxRecDepth 100000 in
set_option maxHeartbeats 2000000 in
theorem showC_yes (l : List Ins) (hok : ∀ j (hj : j < l.length), l[j].ok) (v : Value) (w : World) (he : Env w) (hS : Sl w 4 v l.length (codeC l)) (hc0 : chkC l = 0) :
    Calls Tryd.prog 23 #[v] w fun e w' => e = .returned (.tuple #[.string ⟨(textC l).toArray⟩, .int .i64 0]) ∧ Below w.heap.size w w' := by
  obtain ⟨hl1, hl20, hz⟩ := chkC_zero hc0
  obtain ⟨b, off, cap, rfl, hcap, hbw, hc⟩ := hS.open (by omega)
  have HS := Lib.hid hS
  have HC := Lib.hid hc
  have HZ := Lib.hid hz
  have H0 := Lib.hid hc0
  have HO := Lib.hid hok
  clear hS hc hz hc0 hok
  go_enter Tryd.func23, Tryd.ntmps23
  go_wp2_with (go_at_call 21; refine (codeCheck_any l _ _ he HS.out).mono ?_; rw [H0.out]; rintro e w1 ⟨rfl, hb1⟩; refine Hid.out ?_)
  have hbw1 : b < w1.heap.size := Nat.lt_of_lt_of_le hbw hb1.size
  have HC1 : Hid (∀ j u, (codeC l)[j]? = some u → w1.cell? ⟨b, off + j, none⟩ = some u) := fun j u hj => bcl hb1 hbw (HC.out j u hj)
  have HB0 := Lib.hid (Lib.fresh_isBuilder 72 5 w1)
  have HUP := Lib.hid hb1
  have he1 := he.up hb1
  clear hb1
  refine Lib.hid ?_
  go_wp2
  go_loopw [17] (fun i wr => ∃ k : Nat, i = .int .i64 k ∧ k ≤ l.length ∧ Hid (Lib.IsBuilder 72 5 w1.heap.size w1.heap.size (Lib.byteCells (textC (l.take k))) wr) ∧ Below w1.heap.size w1 wr) (fun i _ => l.length - (intOf i).toNat)
  case atStart => exact ⟨0, rfl, Nat.zero_le _, HB0, Below.alloc (Below.refl _ _) (Nat.le_refl _) _⟩
  case round =>
    obtain ⟨k, rfl, hk, HB, hbel⟩ := hrel
    have htl := textC_len (l.take k) (fun j hj => by
      rw [List.getElem_take]
      exact ⟨HO.out j (by simp at hj; omega), HZ.out j (by simp at hj; omega)⟩)
    have htl2 : (textC (l.take k)).length ≤ 1420 := by
      have : (l.take k).length ≤ 20 := by simp; omega
      omega
    clear htl
    by_cases hlt : k < l.length
    · obtain ⟨c0, c1, c2, c3⟩ := code_cells HC1.out k hlt
      have c0 := bcl hbel hbw1 c0
      have c1 := bcl hbel hbw1 c1
      have c2 := bcl hbel hbw1 c2
      have c3 := bcl hbel hbw1 c3
      have hbr : b < wr.heap.size := Nat.lt_of_lt_of_le hbw1 hbel.size
      have i1 : (k : Int) < l.length := by omega
      have HT := Lib.hid (take_snoc' l k hlt)
      have her := he1.up hbel
      obtain ⟨_, oa, ob, on⟩ := HO.out k hlt
      have hil := ins_len (HO.out k hlt) (HZ.out k hlt)
      have HCK : Hid (chkI l[k].op l[k].a l[k].b l[k].n = 0) := HZ.out k hlt
      go_wp2_with fail
      refine (show_right l[k].op l[k].a l[k].b l[k].n l[k].txt oa ob on HCK.out rfl _ (her.up (by repeat (first | exact Below.refl _ _ | assumption | refine Below.drew ?_ | refine Below.alloc ?_ (by first | (simp; done) | (simp; omega)) _ | refine Below.setCell ?_ (by first | (simp; done) | (simp; omega)) _)))).mono ?_
      rintro e w2 ⟨rfl, hb2⟩
      have hbel2 : Below w1.heap.size w1 w2 := (hbel.alloc hbel.size _).trans (hb2.mono (by simp; have := hbel.size; omega))
      have HB2 := Lib.hid (bld_up (bld_up HB.out (Below.alloc (Below.refl _ _) (Nat.le_refl _) _)) hb2)
      clear hb2 hbel HB c0 c1 c2 c3
      go_wp2_with fail
      refine (Any.Builder_WriteString Tryd.blays166 Tryd.bextra w1.heap.size w1.heap.size _ ⟨l[k].txt.toArray⟩ _ HB2.out (by rw [Lib.byteCells_length]; simp [ByteArray.size]; omega) hbel2.size).mono ?_
      rintro e w3 ⟨rfl, hI3, hb3⟩
      have hI3' : Lib.IsBuilder 72 5 w1.heap.size w1.heap.size (Lib.byteCells (textC (l.take k) ++ l[k].txt)) w3 := by
        rw [byteCells_app]; exact Or.inr hI3
      have HB3 := Lib.hid hI3'
      have hbel3 : Below w1.heap.size w1 w3 := hbel2.trans hb3
      clear hI3 hI3' hb3 hbel2 HB2
      go_wp2_with fail
      refine (Any.Builder_WriteByte Tryd.blays167 Tryd.bextra w1.heap.size w1.heap.size _ 10 _ HB3.out (by rw [Lib.byteCells_length]; simp; omega) hbel3.size).mono ?_
      rintro e w4 ⟨rfl, hI4, hb4⟩
      have hI4' : Lib.IsBuilder 72 5 w1.heap.size w1.heap.size (Lib.byteCells (textC (l.take (k + 1)))) w4 := by
        rw [HT.out, textC_snoc, byteCells_app]; exact Or.inr hI4
      have HB4 := Lib.hid hI4'
      have hbel4 : Below w1.heap.size w1 w4 := hbel3.trans hb4
      clear hI4 hI4' hb4 hbel3 HB3
      go_wp2
      go_roundw
      case rel => exact ⟨k + 1, by go_num, by omega, HB4, hbel4⟩
      case measure => simp [intOf]; omega
    · obtain rfl : k = l.length := by omega
      have hB := HB.out
      rw [List.take_length] at hB
      have HB := Lib.hid hB
      clear hB
      have i1 : ¬ ((l.length : Int) < l.length) := by omega
      go_wp2_with fail
      refine (Tryd.Builder_String_any w1.heap.size w1.heap.size (textC l) _ HB.out hbel.size).mono ?_
      rintro e w2 ⟨rfl, hb2⟩
      go_wp2
      go_ret2
      exact ⟨rfl, HUP.out.trans ((hbel.trans hb2).mono HUP.out.size)⟩
end Go.Proofs.YtclnedeodmlfeaaDoor

namespace Go.Proofs.YtclnedeodmlfeaaDoor
set_option linter.unusedSimpArgs false
set_option linter.unusedVariables false
open Go.RowKit Go.Sort
theorem index_appc (c : UInt8) (x y : List UInt8) (h : ∀ d ∈ x, d ≠ c) : Lib.index (x ++ c :: y) [c] = x.length := by
  induction x with
  | nil => simp [Lib.index]
  | cons d x ih =>
    have hc : d ≠ c := h d (by simp)
    have hi := ih (fun e he => h e (by simp [he]))
    rw [List.cons_append, Lib.index]
    rw [if_neg (by simp; exact fun e => hc e.symm), hi, if_neg (by simp)]
    simp
theorem cut_appc (c : UInt8) (x y : List UInt8) (h : ∀ d ∈ x, d ≠ c) : Lib.cut (x ++ c :: y) [c] = (x, y, true) := by
  unfold Lib.cut
  rw [index_appc c x y h, if_pos (by omega)]
  simp
theorem index_found : ∀ (c : UInt8) (s : List UInt8), 0 ≤ Lib.index s [c] → s = s.take (Lib.index s [c]).toNat ++ c :: s.drop ((Lib.index s [c]).toNat + 1)
  | c, [], h => by simp [Lib.index] at h
  | c, d :: s, h => by
    rw [Lib.index] at h ⊢
    by_cases hd : ([c].isPrefixOf (d :: s)) = true
    · have hd' : c = d := by simpa using hd
      subst hd'
      simp
    · rw [if_neg hd] at h ⊢
      by_cases hn : (Lib.index s [c] == -1) = true
      · rw [if_pos hn] at h; omega
      · rw [if_neg hn] at h ⊢
        have hge := Lib.index_ge s [c]
        have h0 : 0 ≤ Lib.index s [c] := by
          have : Lib.index s [c] ≠ -1 := by simpa using hn
          omega
        have ih := index_found c s h0
        have e : (Lib.index s [c] + 1).toNat = (Lib.index s [c]).toNat + 1 := by omega
        rw [e, List.take_succ_cons, List.drop_succ_cons, List.cons_append]
        exact congrArg (d :: ·) ih
theorem cut_split (c : UInt8) (s : List UInt8) (h : (Lib.cut s [c]).2.2 = true) : s = (Lib.cut s [c]).1 ++ c :: (Lib.cut s [c]).2.1 := by
  unfold Lib.cut at h ⊢
  by_cases h0 : 0 ≤ Lib.index s [c]
  · rw [if_pos h0]; exact index_found c s h0
  · rw [if_neg h0] at h; cases h
theorem txt_no10 {i : Ins} (hc : i.chk = 0) : ∀ c ∈ i.txt, c ≠ 10 := by
  obtain ⟨k, e, _, hk, _⟩ := right_of hc
  have itoa_no : ∀ n, ∀ c ∈ Lib.itoa n, c ≠ 10 := by
    intro n c hc e
    subst e
    unfold Lib.itoa at hc
    split at hc
    · rcases List.mem_cons.1 hc with h | h
      · revert h; decide
      · have := dec_digits _ _ h; revert this; decide
    · have := dec_digits _ _ hc; revert this; decide
  have roww : ∀ c ∈ rowW k, c ≠ 10 := by
    have : ∀ k, k < 16 → (rowW k).all (fun c => c != 10) = true := by decide
    intro c hc
    have := List.all_eq_true.1 (this k hk) c hc
    simpa using this
  have opt : ∀ (q : Bool) (n : Int), ∀ c ∈ (if q then 32 :: Lib.itoa n else []), c ≠ 10 := by
    intro q n c hc
    cases q
    · simp at hc
    · rw [if_pos rfl] at hc
      rcases List.mem_cons.1 hc with h | h
      · rw [h]; decide
      · exact itoa_no n c h
  intro c hcm
  unfold Ins.txt YtclnedeodmlfeaaDoor.txt at hcm
  rw [e, Int.toNat_natCast] at hcm
  rcases List.mem_append.1 hcm with h | h
  · rcases List.mem_append.1 h with h | h
    · rcases List.mem_append.1 h with h | h
      · exact roww c h
      · exact opt _ _ c h
    · exact opt _ _ c h
  · exact opt _ _ c h
theorem ins_guess {i : Ins} (h : i.ok) (hc : i.chk = 0) : (gK i.txt : Int) = i.op ∧ gA i.txt = i.a ∧ gB i.txt = i.b ∧ gN i.txt = i.n := by
  obtain ⟨k, e, _, hk, _⟩ := right_of hc
  have hc' : chkI k i.a i.b i.n = 0 := by rw [← e]; exact hc
  have := guess_txt k i.a i.b i.n h.2.1 h.2.2.1 h.2.2.2 hc'
  unfold Ins.txt
  rw [e, Int.toNat_natCast]
  exact ⟨by rw [this.1], this.2⟩
def gI (s : List UInt8) : Ins := ⟨gK s, gA s, gB s, gN s⟩
theorem ins_back {i : Ins} (h : i.ok) (hc : i.chk = 0) : gI i.txt = i := by
  obtain ⟨e1, e2, e3, e4⟩ := ins_guess h hc
  unfold gI
  rw [e1, e2, e3, e4]
theorem ins_readOk {i : Ins} (h : i.ok) (hc : i.chk = 0) : readOk i.txt := by
  obtain ⟨k, e, _, hk, _⟩ := right_of hc
  have hc' : chkI k i.a i.b i.n = 0 := by rw [← e]; exact hc
  unfold Ins.txt
  rw [e, Int.toNat_natCast]
  exact readOk_txt k i.a i.b i.n h.2.1 h.2.2.1 h.2.2.2 hc'
theorem small_in64 (k : Nat) (h : k < 16) : in64 k := ⟨by omega, by omega⟩
theorem gI_ok (s : List UInt8) : (gI s).ok := ⟨small_in64 _ (namedF_lt _), gA_in64 s, gB_in64 s, gN_in64 s⟩
theorem gI_right {s : List UInt8} (h : readOk s) : (gI s).chk = 0 ∧ (gI s).txt = s := by
  refine ⟨h.1, ?_⟩
  unfold Ins.txt gI
  rw [Int.toNat_natCast]; exact h.2
def AllR (l : List Ins) : Prop := ∀ j (hj : j < l.length), l[j].ok ∧ l[j].chk = 0
theorem AllR.nil : AllR [] := fun j hj => by simp at hj
theorem AllR.snoc {l : List Ins} {i : Ins} (h : AllR l) (h1 : i.ok) (h2 : i.chk = 0) : AllR (l ++ [i]) := by
  intro j hj
  by_cases e : j < l.length
  · rw [List.getElem_append_left e]; exact h j e
  · have : j = l.length := by simp at hj; omega
    subst this
    simp; exact ⟨h1, h2⟩
theorem AllR.tail {l : List Ins} {i : Ins} (h : AllR (i :: l)) : AllR l := fun j hj => h (j + 1) (by simpa using hj)
theorem AllR.head {l : List Ins} {i : Ins} (h : AllR (i :: l)) : i.ok ∧ i.chk = 0 := h 0 (by simp)
theorem AllR.chkC {l : List Ins} (h : AllR l) (h1 : 1 ≤ l.length) (h2 : l.length ≤ 20) : YtclnedeodmlfeaaDoor.chkC l = 0 := by
  unfold YtclnedeodmlfeaaDoor.chkC
  rw [if_neg (by omega)]
  exact firstE_all l (fun j hj => (h j hj).2)
theorem text_prefix : ∀ (acc l : List Ins) (s : List UInt8), AllR acc → AllR l → textC l = textC acc ++ s → ∃ l', l = acc ++ l' ∧ textC l' = s
  | [], l, s, _, _, h => ⟨l, rfl, by simpa [textC] using h⟩
  | i :: acc, [], s, _, _, h => by simp [textC] at h
  | i :: acc, j :: l, s, ha, hl, h => by
    simp only [textC, List.append_assoc, List.cons_append, List.nil_append] at h
    have c1 := cut_appc 10 j.txt (textC l) (txt_no10 hl.head.2)
    have c2 := cut_appc 10 i.txt (textC acc ++ s) (txt_no10 ha.head.2)
    rw [h, c2] at c1
    simp only [Prod.mk.injEq, and_true] at c1
    obtain ⟨e1, e2⟩ := c1
    have hij : j = i := by rw [← ins_back hl.head.1 hl.head.2, ← ins_back ha.head.1 ha.head.2, e1]
    obtain ⟨l', e, hs⟩ := text_prefix acc l s ha.tail hl.tail e2.symm
    exact ⟨l', by rw [hij, e]; rfl, hs⟩
theorem read_more {acc l : List Ins} {s s0 : List UInt8} (ha : AllR acc) (hl : AllR l) (hle : l.length ≤ 20) (h0 : s0 = textC acc ++ s) (ht : textC l = s0) (hs : s ≠ []) :
    (Lib.cut s [10]).2.2 = true ∧ acc.length ≠ 20 ∧ readOk (Lib.cut s [10]).1 := by
  rw [h0] at ht
  obtain ⟨l', e, hs'⟩ := text_prefix acc l s ha hl ht
  cases l' with
  | nil => rw [textC] at hs'; exact absurd hs'.symm hs
  | cons i r =>
    have hi : i.ok ∧ i.chk = 0 := by
      have := hl acc.length (by rw [e]; simp)
      simpa [e] using this
    simp only [textC, List.append_assoc, List.cons_append, List.nil_append] at hs'
    have c1 := cut_appc 10 i.txt (textC r) (txt_no10 hi.2)
    rw [hs'] at c1
    rw [c1]
    refine ⟨rfl, ?_, ins_readOk hi.1 hi.2⟩
    have : l.length = acc.length + (r.length + 1) := by rw [e]; simp
    omega
theorem info23 : (Tryd.prog.info? 23).map (fun i => (i.zero, i.size, i.bytes)) = some (some (.agg #[.int .i64 0, .int .i64 0, .int .i64 0, .int .i64 0]), 4, 32) := by kernel_rfl
def strLen : Value → Nat
  | .string b => b.size
  | _ => 0
theorem codeC_snoc : ∀ (l : List Ins) (i : Ins), codeC (l ++ [i]) = codeC l ++ i.cells
  | [], i => by simp [codeC]
  | j :: r, i => by rw [List.cons_append, codeC, codeC, codeC_snoc r i, List.append_assoc]
theorem four_new (w : World) (i : Ins) (t : TypeId) (H : Nat) (hH : w.heap.size = H) : ∀ j u, i.cells[j]? = some u → (w.alloc (.cells #[.int .i64 i.op, .int .i64 i.a, .int .i64 i.b, .int .i64 i.n] t)).cell? ((⟨H, 0, none⟩ : Addr).add j) = some u := by
  subst hH
  intro j u hj
  have hadd : (⟨w.heap.size, 0, none⟩ : Addr).add j = ⟨w.heap.size, j, none⟩ := by unfold Addr.add; split <;> simp_all
  rw [hadd, World.cell?_alloc_new]
  simpa [Ins.cells] using hj
theorem four_cell (i : Ins) : ∀ u ∈ i.cells, u.oneCell' = true := by
  intro u hu
  simp [Ins.cells] at hu
  rcases hu with rfl | rfl | rfl | rfl <;> rfl
theorem code_step {w wr w1 : World} {v v' : Value} {l : List Ins} {i : Ins} {o : Obj} (hbel : Below w.heap.size w wr) (hown0 : wr.ownsRow w.heap.size 23 4 v l.length (codeC l))
    (hown1 : w1.ownsRow w.heap.size 23 4 v' (l.length + 1) (codeC l ++ i.cells)) (hgrow : (wr.alloc o).grownBy w1 v.ownBlock) :
    w1.ownsRow w.heap.size 23 4 v' (l ++ [i]).length (codeC (l ++ [i])) ∧ Below w.heap.size w w1 := by
  refine ⟨by rw [codeC_snoc]; simpa using hown1, ?_⟩
  exact (hbel.alloc hbel.size o).grown hgrow (by have := hbel.size; simp; omega) (own_block hown0)
set_option maxRecDepth 100000 in
set_option maxHeartbeats 2000000 in
theorem readC_any (s0 : List UInt8) (w : World) (he : Env w) (hm : s0.length < 281474976710657) :
    Calls Tryd.prog 25 #[.string ⟨s0.toArray⟩] w fun e w' => ((∃ v l, e = .returned (.tuple #[v, .int .i64 0]) ∧ w'.ownsRow w.heap.size 23 4 v l.length (codeC l) ∧ AllR l ∧ 1 ≤ l.length ∧ l.length ≤ 20 ∧ textC l = s0) ∨
      (e = .returned (.tuple #[.slice none 0 0, .int .i64 1]) ∧ ∀ l, AllR l → 1 ≤ l.length → l.length ≤ 20 → textC l ≠ s0)) ∧ Below w.heap.size w w' := by
  obtain ⟨i0, hi, hz0, hz1, hz2⟩ := info_parts info23
  go_enter Tryd.func25, Tryd.ntmps25
  go_wp2
  go_loopw [0, 4] (fun sv o wr => ∃ (s : List UInt8) (acc : List Ins), sv = .string ⟨s.toArray⟩ ∧ s.length ≤ s0.length ∧ Hid (s0 = textC acc ++ s) ∧ Hid (AllR acc) ∧ acc.length ≤ 20 ∧ wr.ownsRow w.heap.size 23 4 o acc.length (codeC acc) ∧ Below w.heap.size w wr) (fun sv _ _ => strLen sv)
  case atStart => exact ⟨s0, [], rfl, Nat.le_refl _, (show s0 = textC [] ++ s0 from rfl), AllR.nil, Nat.zero_le _, World.ownsRow_nil _ _ _ _, Below.refl _ _⟩
  case round =>
    obtain ⟨s, acc, rfl, hsl, HS, HA, hacc, hown, hbel⟩ := hrel
    obtain ⟨ao, cap, rfl⟩ := own_form hown
    have her := he.up hbel
    have hbs := hbel.size
    by_cases hse : s = []
    · subst hse
      have hs' : (([] : List UInt8) != []) = false := by decide
      by_cases ha0 : acc.length = 0
      · have ha' : ((acc.length : Int) == 0) = true := beq_iff_eq.2 (by omega)
        have HN : Hid (∀ l, AllR l → 1 ≤ l.length → l.length ≤ 20 → textC l ≠ s0) := by
          intro l hl h1 h2 ht
          have hs := HS.out
          have : acc = [] := List.length_eq_zero_iff.1 ha0
          subst this
          rw [hs] at ht
          cases l with
          | nil => simp at h1
          | cons i r => simp [textC] at ht
        clear ha0
        go_wp2
        go_ret2
        exact ⟨Or.inr ⟨rfl, HN.out⟩, hbel⟩
      · have ha' : ((acc.length : Int) == 0) = false := beq_eq_false_iff_ne.2 (by omega)
        have HE : Hid (textC acc = s0) := by show _ = _; rw [HS.out, List.append_nil]
        have H1 : Hid (1 ≤ acc.length) := by show _ ≤ _; omega
        clear ha0
        go_wp2
        go_ret2
        exact ⟨Or.inl ⟨_, acc, rfl, hown, HA.out, H1.out, hacc, HE.out⟩, hbel⟩
    · have hs' : s.isEmpty = false := by simpa using hse
      have HM : Hid (∀ l, AllR l → 1 ≤ l.length → l.length ≤ 20 → textC l = s0 → (Lib.cut s [10]).2.2 = true ∧ acc.length ≠ 20 ∧ readOk (Lib.cut s [10]).1) :=
        fun l hl h1 h2 ht => read_more HA.out hl h2 HS.out ht hse
      have HCS := Lib.hid (cut_split 10 s)
      have hcl := cut_len s [10]
      clear hse
      go_wp2_with fail
      refine (cutL s [10] _ her (by omega)).mono ?_
      rintro e w1 ⟨rfl, hb1⟩
      have hbel1 : Below w.heap.size w w1 := hbel.trans (hb1.mono hbel.size)
      have hown1 := own_up hown hb1
      have he1 := he.up hbel1
      have hbs1 := hbel1.size
      generalize hcut : Lib.cut s [10] = cq at *
      obtain ⟨line, rst, ended⟩ := cq
      have HCUT := Lib.hid hcut
      clear hcut hb1 hbel hown her
      simp only at hcl
      cases ended
      · have HN : Hid (∀ l, AllR l → 1 ≤ l.length → l.length ≤ 20 → textC l ≠ s0) := fun l hl h1 h2 ht => by
          have := (HM.out l hl h1 h2 ht).1; cases this
        clear HM HCS
        go_wp2
        go_ret2
        exact ⟨Or.inr ⟨rfl, HN.out⟩, hbel1⟩
      · by_cases h20 : acc.length = 20
        · have h20' : ((acc.length : Int) == 20) = true := beq_iff_eq.2 (by omega)
          have HN : Hid (∀ l, AllR l → 1 ≤ l.length → l.length ≤ 20 → textC l ≠ s0) := fun l hl h1 h2 ht => (HM.out l hl h1 h2 ht).2.1 h20
          clear HM HCS h20
          go_wp2
          go_ret2
          exact ⟨Or.inr ⟨rfl, HN.out⟩, hbel1⟩
        · have h20' : ((acc.length : Int) == 20) = false := beq_eq_false_iff_ne.2 (by omega)
          by_cases hro : readOk line
          · have hsp := HCS.out rfl
            simp only at hsp
            have hrl : rst.length < s.length := by rw [hsp]; simp; omega
            have HS2 : Hid (s0 = textC (acc ++ [gI line]) ++ rst) := by
              show _ = _
              rw [HS.out, textC_snoc, (gI_right hro).2, hsp]; simp
            have HA2 : Hid (AllR (acc ++ [gI line])) := HA.out.snoc (gI_ok line) (gI_right hro).1
            have HRO := Lib.hid hro
            clear HM HCS hro hsp HA HS
            go_wp2_with fail
            refine (read_good line _ he1 (by omega) HRO.out).mono ?_
            rintro e w2 ⟨rfl, hb2⟩
            have hbel2 : Below w.heap.size w w2 := hbel1.trans (hb2.mono hbel1.size)
            have hown2 := own_up hown1 hb2
            have hbs2 := hbel2.size
            clear hb2 hown1 hbel1 he1
            have hown3 := hown2.alloc (.cells #[.int .i64 (gK line), .int .i64 (gA line), .int .i64 (gB line), .int .i64 (gN line)] 23)
            go_wp2_with (at_builtin; refine wpList_append_lies _ rfl (.tmp 32) (.tmp 34) 37 rfl w.heap.size 23 i0 (.agg #[.int .i64 0, .int .i64 0, .int .i64 0, .int .i64 0]) 4 32 Tryd.underlying37 hi hz0 hz1 hz2 rfl (by decide) (.slice ao acc.length cap) acc.length (codeC acc) rfl (hown3.alloc _) ⟨w2.heap.size + 1, 0, none⟩ 1 1 (gI line).cells rfl rfl (four_new _ (gI line) 23 _ (by simp)) (four_cell _) (by decide) (by unfold maxLen; omega) (by omega) (by simp; omega) _ rfl ?_; intro g cap1 w3 hown4 hgrow hat hglt)
            have R := code_step (hbel2.alloc hbel2.size _) hown3 hown4 hgrow
            clear hown4 hgrow hown3 hown2 hat
            go_wp2
            go_roundw
            case rel => exact ⟨rst, acc ++ [gI line], rfl, by omega, HS2, HA2, by simp; omega, R.1, R.2⟩
            case measure => simp [strLen, ByteArray.size]; omega
          · have HN : Hid (∀ l, AllR l → 1 ≤ l.length → l.length ≤ 20 → textC l ≠ s0) := fun l hl h1 h2 ht => hro (HM.out l hl h1 h2 ht).2.2
            have HRO := Lib.hid hro
            clear HM HCS hro
            go_wp2_with fail
            refine (read_bad line _ he1 (by omega) HRO.out).mono ?_
            rintro e w2 ⟨rfl, hb2⟩
            have hbel2 : Below w.heap.size w w2 := hbel1.trans (hb2.mono hbel1.size)
            clear hb2
            go_wp2
            go_ret2
            exact ⟨Or.inr ⟨rfl, HN.out⟩, hbel2.alloc hbel2.size _⟩
end Go.Proofs.YtclnedeodmlfeaaDoor

namespace Go.Proofs.YtclnedeodmlfeaaDoor
set_option linter.unusedSimpArgs false
set_option linter.unusedVariables false
open Go.RowKit Go.Sort
theorem textC_nil {l : List Ins} (h : textC l = []) : l = [] := by
  cases l with
  | nil => rfl
  | cons i r => simp [textC] at h
theorem readC_text (l : List Ins) (hl : AllR l) (h1 : 1 ≤ l.length) (h2 : l.length ≤ 20) (s : List UInt8) (hs : textC l = s) (w : World) (he : Env w) :
    Calls Tryd.prog 25 #[.string ⟨s.toArray⟩] w fun e w' => ∃ v, e = .returned (.tuple #[v, .int .i64 0]) ∧ Sl w' 4 v l.length (codeC l) ∧ Below w.heap.size w w' := by
  have hlen := textC_len l hl
  refine (readC_any s w he (by rw [← hs]; omega)).mono ?_
  rintro e w' ⟨h, hb⟩
  rcases h with ⟨v, l', rfl, hown, hl', _, _, ht⟩ | ⟨_, hno⟩
  · obtain ⟨r, e, hr⟩ := text_prefix l l' [] hl hl' (by rw [ht, hs, List.append_nil])
    rw [textC_nil hr, List.append_nil] at e
    subst e
    exact ⟨v, rfl, own_sl hown, hb⟩
  · exact absurd hs (hno l hl h1 h2)
set_option maxHeartbeats 1000000 in
theorem sameCode_any (l : List Ins) (v u : Value) (w : World) (hx : Sl w 4 v l.length (codeC l)) (hy : Sl w 4 u l.length (codeC l)) (hm : l.length < 281474976710657) :
    Calls Tryd.prog 27 #[v, u] w fun e w' => e = .returned (.bool true) ∧ Below w.heap.size w w' := by
  obtain ⟨ax, cx, rfl⟩ := hx.form
  obtain ⟨ay, cy, rfl⟩ := hy.form
  have hl' : ((l.length : Int) != (l.length : Int)) = false := by simp
  have HX := Lib.hid hx
  have HY := Lib.hid hy
  clear hx hy
  go_enter Tryd.func27, Tryd.ntmps27
  go_wp2
  go_loopw [5] (fun i wr => ∃ k : Nat, i = .int .i64 k ∧ k ≤ l.length ∧ Below w.heap.size w wr) (fun i _ => l.length - (intOf i).toNat)
  case atStart => exact ⟨0, rfl, Nat.zero_le _, Below.refl _ _⟩
  case round =>
    obtain ⟨k, rfl, hk, hbel⟩ := hrel
    by_cases hlt : k < l.length
    · obtain ⟨b, off, cap, e1, hcap, hbw, hc⟩ := HX.out.open (by omega)
      obtain ⟨b', off', cap', e2, hcap', hbw', hc'⟩ := HY.out.open (by omega)
      cases e1
      cases e2
      obtain ⟨c0, c1, c2, c3⟩ := code_cells hc k hlt
      obtain ⟨d0, d1, d2, d3⟩ := code_cells hc' k hlt
      have c0 := bcl hbel hbw c0
      have c1 := bcl hbel hbw c1
      have c2 := bcl hbel hbw c2
      have c3 := bcl hbel hbw c3
      have d0 := bcl hbel hbw' d0
      have d1 := bcl hbel hbw' d1
      have d2 := bcl hbel hbw' d2
      have d3 := bcl hbel hbw' d3
      have i1 : (0 : Int) ≤ k := by omega
      have i2 : (k : Int) < l.length := by omega
      have k1 : (l[k].op == l[k].op) = true := by simp
      have k2 : (l[k].a == l[k].a) = true := by simp
      have k3 : (l[k].b == l[k].b) = true := by simp
      have k4 : (l[k].n == l[k].n) = true := by simp
      clear hc hc'
      go_wp2
      go_region
      all_goals go_wp2
      all_goals
        go_roundw
        case rel => exact ⟨k + 1, by go_num, by omega, by first | exact hbel | exact hbel.drew⟩
        case measure => simp [intOf]; omega
    · have hkc : ¬ (k : Int) < l.length := by omega
      go_wp2
      go_ret
      exact ⟨rfl, hbel⟩
theorem puts_yes (l : List Ins) (v : Value) (w : World) (he : Env w) (hS : Sl w 4 v l.length (codeC l)) (hc0 : chkC l = 0) :
    Calls Tryd.prog 16 #[v] w fun e w' => ∃ v', e = .returned (.tuple #[v', .int .i64 0]) ∧ Sl w' 1 v' (chanL l 12 6).length (ints (chanL l 12 6)) ∧ Below w.heap.size w w' := by
  go_enter Tryd.func16, Tryd.ntmps16
  go_wp2_with (go_at_call 38; refine (channels_yes l 12 (Or.inl rfl) v _ he hS hc0).mono ?_; rintro e w1 ⟨v', rfl, hown, hb1⟩)
  go_ret2
  exact ⟨v', rfl, own_sl hown, hb1⟩
theorem gets_yes (l : List Ins) (v : Value) (w : World) (he : Env w) (hS : Sl w 4 v l.length (codeC l)) (hc0 : chkC l = 0) :
    Calls Tryd.prog 17 #[v] w fun e w' => ∃ v', e = .returned (.tuple #[v', .int .i64 0]) ∧ Sl w' 1 v' (chanL l 13 6).length (ints (chanL l 13 6)) ∧ Below w.heap.size w w' := by
  go_enter Tryd.func17, Tryd.ntmps17
  go_wp2_with (go_at_call 38; refine (channels_yes l 13 (Or.inr rfl) v _ he hS hc0).mono ?_; rintro e w1 ⟨v', rfl, hown, hb1⟩)
  go_ret2
  exact ⟨v', rfl, own_sl hown, hb1⟩
def tellerL : List Ins := [⟨13, 0, 1, 0⟩, ⟨9, 1, 0, 0⟩, ⟨11, 0, 0, 0⟩, ⟨12, 0, 0, 1⟩, ⟨8, 0, 0, 0⟩]
theorem teller_chk : chkC tellerL = 0 := by decide +kernel
theorem teller_ok : ∀ j (hj : j < tellerL.length), tellerL[j].ok := by
  have h : ∀ i ∈ tellerL, i.ok := by
    intro i hi
    simp only [tellerL, List.mem_cons, List.not_mem_nil, or_false] at hi
    rcases hi with rfl | rfl | rfl | rfl | rfl <;>
      exact ⟨⟨by decide, by decide⟩, ⟨by decide, by decide⟩, ⟨by decide, by decide⟩, ⟨by decide, by decide⟩⟩
  exact fun j hj => h _ (List.getElem_mem hj)
theorem teller_all : AllR tellerL := fun j hj => ⟨teller_ok j hj, (chkC_zero teller_chk).2.2 j hj⟩
theorem teller_puts : chanL tellerL 12 6 = [1] := by decide +kernel
theorem teller_gets : chanL tellerL 13 6 = [0] := by decide +kernel
theorem teller_text : textC tellerL = [103, 101, 116, 32, 48, 32, 49, 32, 48, 10, 122, 101, 114, 111, 32, 49, 32, 48, 10, 111, 117, 116, 32, 48, 10, 112, 117, 116, 32, 48, 32, 49, 10, 106, 117, 109, 112, 32, 48, 10] := by
  simp only [tellerL, textC, Ins.txt]
  unfold txt
  rw [it0, it1]
  rfl
set_option maxRecDepth 100000 in
theorem teller_any (w : World) : Calls Tryd.prog 39 #[] w fun e w' => ∃ v, e = .returned v ∧ Sl w' 4 v 5 (codeC tellerL) ∧ Below w.heap.size w w' := by
  go_enter Tryd.func39, Tryd.ntmps39
  go_wp2
  go_ret
  refine ⟨_, rfl, ⟨rfl, _, _, rfl, Nat.le_refl _, fun _ => ⟨_, 0, rfl, by simp, fun j u hj => ?_⟩⟩, (by repeat (first | exact Below.refl _ _ | assumption | refine Below.drew ?_ | refine Below.alloc ?_ (by first | (simp; done) | (simp; omega)) _ | refine Below.setCell ?_ (by first | (simp; done) | (simp; omega)) _))⟩
  rw [Nat.zero_add, World.cell?_alloc_new, ← Array.getElem?_toList]
  exact hj
end Go.Proofs.YtclnedeodmlfeaaDoor

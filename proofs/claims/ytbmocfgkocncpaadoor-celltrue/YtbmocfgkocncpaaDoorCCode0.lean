/- Programs as slices of instructions; slices that are read: what they hold, and that it stays. -/
import Derived.Test.YtbmocfgkocncpaaDoorCRef
import Derived.Lib.Hide
namespace Go.Proofs.YtbmocfgkocncpaaDoor
set_option linter.unusedSimpArgs false
set_option linter.unusedVariables false
open Go.RowKit Go.Sort

/-- An instruction: four ints. -/
structure Ins where
  op : Int
  a : Int
  b : Int
  n : Int
def Ins.v (i : Ins) : Value := .agg #[.int .i64 i.op, .int .i64 i.a, .int .i64 i.b, .int .i64 i.n]
def Ins.cells (i : Ins) : List Value := [.int .i64 i.op, .int .i64 i.a, .int .i64 i.b, .int .i64 i.n]
def Ins.ok (i : Ins) : Prop := in64 i.op ∧ in64 i.a ∧ in64 i.b ∧ in64 i.n
def Ins.chk (i : Ins) : Int := chkI i.op i.a i.b i.n
def codeC : List Ins → List Value
  | [] => []
  | i :: r => i.cells ++ codeC r
theorem codeC_len : ∀ l : List Ins, (codeC l).length = l.length * 4
  | [] => rfl
  | i :: r => by rw [codeC, List.length_append, codeC_len r]; simp [Ins.cells]; omega
theorem codeC_at : ∀ (l : List Ins) (k j : Nat) (h : k < l.length), j < 4 → (codeC l)[k * 4 + j]? = l[k].cells[j]?
  | i :: r, 0, j, _, hj => by
    rw [codeC, List.getElem?_append_left (by simp [Ins.cells]; omega)]; simp
  | i :: r, k + 1, j, h, hj => by
    rw [codeC, List.getElem?_append_right (by simp [Ins.cells]; omega)]
    have := codeC_at r k j (by simpa using h) hj
    rw [show (k + 1) * 4 + j - i.cells.length = k * 4 + j by simp [Ins.cells]; omega, this]
    rfl

/-- The cells of the k-th instruction. -/
theorem code_cells {w : World} {b off : Nat} {l : List Ins} (hc : ∀ j u, (codeC l)[j]? = some u → w.cell? ⟨b, off + j, none⟩ = some u) (k : Nat) (h : k < l.length) :
    w.cell? ⟨b, off + k * 4, none⟩ = some (.int .i64 l[k].op) ∧ w.cell? ⟨b, off + k * 4 + 1, none⟩ = some (.int .i64 l[k].a) ∧ w.cell? ⟨b, off + k * 4 + 2, none⟩ = some (.int .i64 l[k].b) ∧ w.cell? ⟨b, off + k * 4 + 3, none⟩ = some (.int .i64 l[k].n) := by
  refine ⟨?_, ?_, ?_, ?_⟩
  · exact hc (k * 4) _ (by have := codeC_at l k 0 h (by decide); simpa [Ins.cells] using this)
  · exact hc (k * 4 + 1) _ (by rw [codeC_at l k 1 h (by decide)]; rfl)
  · exact hc (k * 4 + 2) _ (by rw [codeC_at l k 2 h (by decide)]; rfl)
  · exact hc (k * 4 + 3) _ (by rw [codeC_at l k 3 h (by decide)]; rfl)

/-- The first error of a list of instructions. -/
def firstE : List Ins → Int
  | [] => 0
  | i :: r => if i.chk = 0 then firstE r else i.chk
def chkC (l : List Ins) : Int := if l.length < 1 ∨ 20 < l.length then 2 else firstE l
theorem firstE_at : ∀ (l : List Ins) (k : Nat) (h : k < l.length), (∀ j (hj : j < l.length), j < k → l[j].chk = 0) → l[k].chk ≠ 0 → firstE l = l[k].chk
  | i :: r, 0, _, _, hne => by rw [firstE, if_neg (show ¬ i.chk = 0 from hne)]; rfl
  | i :: r, k + 1, h, hz, hne => by
    rw [firstE, if_pos (show i.chk = 0 from hz 0 (by simp) (by omega))]
    exact firstE_at r k (by simpa using h) (fun j hj hlt => hz (j + 1) (by simpa using hj) (by omega)) hne
theorem firstE_all : ∀ l : List Ins, (∀ j (hj : j < l.length), l[j].chk = 0) → firstE l = 0
  | [], _ => rfl
  | i :: r, hz => by
    rw [firstE, if_pos (show i.chk = 0 from hz 0 (by simp))]
    exact firstE_all r (fun j hj => hz (j + 1) (by simpa using hj))
theorem firstE_zero : ∀ {l : List Ins}, firstE l = 0 → ∀ j (hj : j < l.length), l[j].chk = 0
  | i :: r, h, j, hj => by
    rw [firstE] at h
    by_cases hc : i.chk = 0
    · rw [if_pos hc] at h
      cases j with
      | zero => exact hc
      | succ j => exact firstE_zero h j (by simpa using hj)
    · rw [if_neg hc] at h; exact absurd h hc
theorem chkC_zero {l : List Ins} (h : chkC l = 0) : 1 ≤ l.length ∧ l.length ≤ 20 ∧ ∀ j (hj : j < l.length), l[j].chk = 0 := by
  unfold chkC at h
  by_cases hl : l.length < 1 ∨ 20 < l.length
  · rw [if_pos hl] at h; omega
  · rw [if_neg hl] at h
    exact ⟨by omega, by omega, firstE_zero h⟩

set_option maxHeartbeats 1000000 in
theorem codeCheck_any (l : List Ins) (v : Value) (w : World) (he : Env w) (hS : Sl w 4 v l.length (codeC l)) : Calls Tryd.prog 29 #[v] w fun e w' => e = .returned (.int .i64 (chkC l)) ∧ Below w.heap.size w w' := by
  by_cases hl : l.length < 1 ∨ 20 < l.length
  · obtain ⟨ao, cap, rfl⟩ := hS.form
    unfold chkC
    rw [if_pos hl]
    by_cases h1 : l.length < 1
    · have h1' : (l.length : Int) < 1 := by omega
      clear hl
      go_enter Tryd.func29, Tryd.ntmps29
      go_wp2
      go_ret
      exact ⟨rfl, Below.refl _ _⟩
    · have h1' : ¬ (l.length : Int) < 1 := by omega
      have h2' : (20 : Int) < l.length := by omega
      clear hl
      go_enter Tryd.func29, Tryd.ntmps29
      go_wp2
      go_ret
      exact ⟨rfl, Below.refl _ _⟩
  · unfold chkC
    rw [if_neg hl]
    have h1' : ¬ (l.length : Int) < 1 := by omega
    have h2' : ¬ (20 : Int) < l.length := by omega
    obtain ⟨b, off, cap, rfl, hcap, hbw, hc⟩ := hS.open (by omega)
    have HC := Lib.hid hc
    obtain ⟨res, hres⟩ : ∃ res, res = firstE l := ⟨_, rfl⟩
    rw [← hres]
    have HR := Lib.hid hres
    have hl20 : l.length ≤ 20 := by omega
    clear hl hc hS hres
    go_enter Tryd.func29, Tryd.ntmps29
    go_wp2
    go_loopw [16] (fun i wr => ∃ k : Nat, i = .int .i64 k ∧ k ≤ l.length ∧ Hid (∀ j (hj : j < l.length), j < k → l[j].chk = 0) ∧ Below w.heap.size w wr) (fun i _ => l.length - (intOf i).toNat)
    case atStart => exact ⟨0, rfl, Nat.zero_le _, fun j hj h => by omega, Below.refl _ _⟩
    case round =>
      obtain ⟨k, rfl, hk, HZ, hbel⟩ := hrel
      by_cases hlt : k < l.length
      · obtain ⟨c0, c1, c2, c3⟩ := code_cells HC.out k hlt
        have c0 := bcl hbel hbw c0
        have c1 := bcl hbel hbw c1
        have c2 := bcl hbel hbw c2
        have c3 := bcl hbel hbw c3
        have her := he.up hbel
        have hbr : b < wr.heap.size := Nat.lt_of_lt_of_le hbw hbel.size
        have hkc : (k : Int) < l.length := by omega
        obtain ⟨ck, hck⟩ : ∃ ck, ck = l[k].chk := ⟨_, rfl⟩
        by_cases h0 : ck = 0
        · have HCK : Hid (chkI l[k].op l[k].a l[k].b l[k].n = 0) := by show l[k].chk = 0; rw [← hck, h0]
          clear hck h0
          go_wp2_with (go_at_call 35; refine (chk_v _ _ _ _ 0 _ ?_ HCK.out).mono ?_; (exact her.up (by repeat (first | exact Below.refl _ _ | assumption | refine Below.drew ?_ | refine Below.alloc ?_ (by first | (simp; done) | (simp; omega)) _ | refine Below.setCell ?_ (by first | (simp; done) | (simp; omega)) _))); rintro e w1 ⟨rfl, hb1⟩)
          go_roundw
          case rel => exact ⟨k + 1, by go_num, by omega, fun j hj hjk => by
            by_cases e : j = k
            · subst e; exact HCK.out
            · exact HZ.out j hj (by omega), (hbel.alloc hbel.size _).trans (hb1.mono (by simp; have := hbel.size; omega))⟩
          case measure => simp [intOf]; omega
        · have HCK : Hid (chkI l[k].op l[k].a l[k].b l[k].n = ck) := by show l[k].chk = ck; rw [hck]
          have HRR : Hid (ck = res) := by
            show ck = res
            rw [HR.out, hck]; exact (firstE_at l k hlt HZ.out (by rw [← hck]; exact h0)).symm
          have h0' : (ck != 0) = true := by simpa using h0
          clear hck h0
          go_wp2_with (go_at_call 35; refine (chk_v _ _ _ _ ck _ ?_ HCK.out).mono ?_; (exact her.up (by repeat (first | exact Below.refl _ _ | assumption | refine Below.drew ?_ | refine Below.alloc ?_ (by first | (simp; done) | (simp; omega)) _ | refine Below.setCell ?_ (by first | (simp; done) | (simp; omega)) _))); rintro e w1 ⟨rfl, hb1⟩)
          go_ret
          exact ⟨ret_int HRR.out, (hbel.alloc hbel.size _).trans (hb1.mono (by simp; have := hbel.size; omega))⟩
      · have hkc : ¬ (k : Int) < l.length := by omega
        have HRR : Hid ((0 : Int) = res) := by
          show (0 : Int) = res
          rw [HR.out]; exact (firstE_all l (fun j hj => HZ.out j hj (by omega))).symm
        go_wp2
        go_ret
        exact ⟨ret_int HRR.out, hbel⟩

/- A runner: a cell that does instructions. -/
import Derived.Test.YtnnnljfdjdehaaaDoorJ4
import Derived.BigRegion
import Derived.Deep.QuietTactic
import Derived.BigQuiet
import Derived.Test.YtnnnljfdjdehaaaDoorJ3
import Derived.Test.YtnnnljfdjdehaaaDoorJ2
import Derived.Laws.CopyOwn
namespace Go.Proofs.YtnnnljfdjdehaaaDoor
set_option linter.unusedSimpArgs false
set_option linter.unusedVariables false
open Go.RowKit Go.Sort

/-- What a cell wants of a channel. -/
structure Wnt where
  k : Int
  ch : Int
  reg : Int
  flag : Int
  val : Int
def Wnt.v (x : Wnt) : Value := wantV x.k x.ch x.reg x.flag x.val
def wntZ : Wnt := ⟨0, 0, 0, 0, 0⟩
/-- A runner's places. -/
def rcs (c : Cel) (o i : Value) (x : Wnt) : Array Value := #[.int .i64 c.at_, .int .i64 c.r0, .int .i64 c.r1, .int .i64 c.r2, .int .i64 c.r3, .int .i64 c.m0, .int .i64 c.m1, .int .i64 c.m2, .int .i64 c.m3, .int .i64 c.m4, .int .i64 c.m5, .int .i64 c.m6, .int .i64 c.m7, .int .i64 c.read, o, .int .i64 c.en, i, .int .i64 x.k, .int .i64 x.ch, .int .i64 x.reg, .int .i64 x.flag, .int .i64 x.val]
theorem rcs_reg (c : Cel) (o i : Value) (x : Wnt) {k : Int} (h0 : 0 ≤ k) (h1 : k < 4) : (rcs c o i x)[1 + k.toNat]? = some (.int .i64 (c.reg k)) := by
  rcases lt4 h0 h1 with rfl | rfl | rfl | rfl <;> rfl
theorem rcs_setReg (c : Cel) (o i : Value) (x : Wnt) {k : Int} (h0 : 0 ≤ k) (h1 : k < 4) (v : Int) : (rcs c o i x).setIfInBounds (1 + k.toNat) (.int .i64 v) = rcs (c.setReg k v) o i x := by
  rcases lt4 h0 h1 with rfl | rfl | rfl | rfl <;> rfl
theorem rcs_mem (c : Cel) (o i : Value) (x : Wnt) {k : Int} (h0 : 0 ≤ k) (h1 : k < 8) : (rcs c o i x)[5 + k.toNat]? = some (.int .i64 (c.memo k)) := by
  rcases lt8 h0 h1 with rfl | rfl | rfl | rfl | rfl | rfl | rfl | rfl <;> rfl
theorem rcs_setMem (c : Cel) (o i : Value) (x : Wnt) {k : Int} (h0 : 0 ≤ k) (h1 : k < 8) (v : Int) : (rcs c o i x).setIfInBounds (5 + k.toNat) (.int .i64 v) = rcs (c.setMem k v) o i x := by
  rcases lt8 h0 h1 with rfl | rfl | rfl | rfl | rfl | rfl | rfl | rfl <;> rfl
theorem rcs_at (c : Cel) (o i : Value) (x : Wnt) (v : Int) : (rcs c o i x).setIfInBounds 0 (.int .i64 v) = rcs { c with at_ := v } o i x := rfl
theorem rcs_en (c : Cel) (o i : Value) (x : Wnt) (v : Int) : (rcs c o i x).setIfInBounds 15 (.int .i64 v) = rcs { c with en := v } o i x := rfl
theorem rcs_read (c : Cel) (o i : Value) (x : Wnt) (v : Int) : (rcs c o i x).setIfInBounds 13 (.int .i64 v) = rcs { c with read := v } o i x := rfl
theorem rcs_out (c : Cel) (o i : Value) (x : Wnt) (v : Value) : (rcs c o i x).setIfInBounds 14 v = rcs c v i x := rfl

/-- While a runner does: it lies in block g; below B nothing is turned. -/
structure Rn (B : Nat) (w W : World) (g base : Nat) (c : Cel) (o i : Value) (x : Wnt) (xs : List Int) : Prop where
  r : Rw W g 141 (rcs c o i x)
  d : Below B w W
  own : W.ownsRow base 3 1 o xs.length (ints xs)
  g0 : B ≤ g
  b0 : B ≤ base
  no : ∀ k, o.ownBlock = some k → k ≠ g
  bs : base ≤ W.heap.size
theorem Rn.reg {B : Nat} {w W : World} {g base : Nat} {c : Cel} {o i : Value} {x : Wnt} {xs : List Int} (h : Rn B w W g base c o i x xs) {k : Int} (h0 : 0 ≤ k) (h1 : k < 4) (v : Int) :
    Rn B w (W.setCell ⟨g, 1 + k.toNat, none⟩ (.int .i64 v)) g base (c.setReg k v) o i x xs :=
  ⟨by rw [← rcs_setReg c o i x h0 h1 v]; exact h.r.set _ _, h.d.setCell h.g0 _, own_set h.own _ (fun e => h.no _ e rfl), h.g0, h.b0, h.no, by rw [size_set]; exact h.bs⟩
theorem Rn.mem {B : Nat} {w W : World} {g base : Nat} {c : Cel} {o i : Value} {x : Wnt} {xs : List Int} (h : Rn B w W g base c o i x xs) {k : Int} (h0 : 0 ≤ k) (h1 : k < 8) (v : Int) :
    Rn B w (W.setCell ⟨g, 5 + k.toNat, none⟩ (.int .i64 v)) g base (c.setMem k v) o i x xs :=
  ⟨by rw [← rcs_setMem c o i x h0 h1 v]; exact h.r.set _ _, h.d.setCell h.g0 _, own_set h.own _ (fun e => h.no _ e rfl), h.g0, h.b0, h.no, by rw [size_set]; exact h.bs⟩
theorem Rn.setAt {B : Nat} {w W : World} {g base : Nat} {c : Cel} {o i : Value} {x : Wnt} {xs : List Int} (h : Rn B w W g base c o i x xs) (v : Int) :
    Rn B w (W.setCell ⟨g, 0, none⟩ (.int .i64 v)) g base { c with at_ := v } o i x xs :=
  ⟨h.r.set _ _, h.d.setCell h.g0 _, own_set h.own _ (fun e => h.no _ e rfl), h.g0, h.b0, h.no, by rw [size_set]; exact h.bs⟩
theorem Rn.setEn {B : Nat} {w W : World} {g base : Nat} {c : Cel} {o i : Value} {x : Wnt} {xs : List Int} (h : Rn B w W g base c o i x xs) (v : Int) :
    Rn B w (W.setCell ⟨g, 15, none⟩ (.int .i64 v)) g base { c with en := v } o i x xs :=
  ⟨h.r.set _ _, h.d.setCell h.g0 _, own_set h.own _ (fun e => h.no _ e rfl), h.g0, h.b0, h.no, by rw [size_set]; exact h.bs⟩
theorem Rn.setRead {B : Nat} {w W : World} {g base : Nat} {c : Cel} {o i : Value} {x : Wnt} {xs : List Int} (h : Rn B w W g base c o i x xs) (v : Int) :
    Rn B w (W.setCell ⟨g, 13, none⟩ (.int .i64 v)) g base { c with read := v } o i x xs :=
  ⟨h.r.set _ _, h.d.setCell h.g0 _, own_set h.own _ (fun e => h.no _ e rfl), h.g0, h.b0, h.no, by rw [size_set]; exact h.bs⟩
theorem Rn.drew {B : Nat} {w W : World} {g base : Nat} {c : Cel} {o i : Value} {x : Wnt} {xs : List Int} (h : Rn B w W g base c o i x xs) : Rn B w W.drew g base c o i x xs :=
  ⟨h.r, h.d.drew, h.own, h.g0, h.b0, h.no, h.bs⟩
theorem Rn.lt {B : Nat} {w W : World} {g base : Nat} {c : Cel} {o i : Value} {x : Wnt} {xs : List Int} (h : Rn B w W g base c o i x xs) : g < W.heap.size := h.r.lt
theorem Rn.alloc {B : Nat} {w W : World} {g base : Nat} {c : Cel} {o i : Value} {x : Wnt} {xs : List Int} (h : Rn B w W g base c o i x xs) (ob : Obj) : Rn B w (W.alloc ob) g base c o i x xs :=
  ⟨h.r.alloc _, h.d.alloc (Nat.le_of_lt (Nat.lt_of_le_of_lt h.g0 h.lt)) _, own_up h.own ((Below.refl W.heap.size W).alloc (Nat.le_refl _) _) (own_lt h.own), h.g0, h.b0, h.no, by have := h.bs; simp; omega⟩

theorem Rn.wnt {B : Nat} {w W : World} {g base : Nat} {c : Cel} {o i : Value} {x : Wnt} {xs : List Int} (h : Rn B w W g base c o i x xs) (k ch reg flag val : Int) :
    Rn B w (((((W.setCell ⟨g, 17, none⟩ (.int .i64 k)).setCell ⟨g, 18, none⟩ (.int .i64 ch)).setCell ⟨g, 19, none⟩ (.int .i64 reg)).setCell ⟨g, 20, none⟩ (.int .i64 flag)).setCell ⟨g, 21, none⟩ (.int .i64 val)) g base c o i ⟨k, ch, reg, flag, val⟩ xs :=
  ⟨((((h.r.set _ _).set _ _).set _ _).set _ _).set _ _, ((((h.d.setCell h.g0 _).setCell h.g0 _).setCell h.g0 _).setCell h.g0 _).setCell h.g0 _,
   own_set (own_set (own_set (own_set (own_set h.own _ (fun e => h.no _ e rfl)) _ (fun e => h.no _ e rfl)) _ (fun e => h.no _ e rfl)) _ (fun e => h.no _ e rfl)) _ (fun e => h.no _ e rfl), h.g0, h.b0, h.no, by simp only [size_set]; exact h.bs⟩
theorem Rn.drewN {B : Nat} {w W : World} {g base : Nat} {c : Cel} {o i : Value} {x : Wnt} {xs : List Int} (h : Rn B w W g base c o i x xs) (n : Nat) : Rn B w (W.drewN n) g base c o i x xs :=
  ⟨h.r, ⟨h.d.os, h.d.tape, h.d.output, h.d.size, h.d.block⟩, h.own, h.g0, h.b0, h.no, h.bs⟩
def faultE : List PanicEntry := [{ v := .iface 9 (.string ⟨#[102, 97, 117, 108, 116]⟩), recovered := false }]
theorem post_panic {fn : Func} {R : Ending → World → Prop} {ch : List PanicEntry} {a : Act} {w : World} (hd : a.defers = []) (h : R (.panicked ch) w) : bodyPost Tryd.prog fn R (.panic ch) a w := by
  unfold bodyPost
  simp_all
set_option maxHeartbeats 1000000 in
theorem word_ok (W : World) (g : Nat) (b v : Int) (hb0 : 0 ≤ b) (hb1 : b < 4) (h0 : 0 ≤ v) (h1 : v < 8) (hc : W.cell? ⟨g, 1 + b.toNat, none⟩ = some (.int .i64 v)) :
    Calls Tryd.prog 105 #[.pointer (some ⟨g, 0, none⟩), .int .i64 b] W fun e W' => e = .returned (.int .i64 v) ∧ W' = W := by
  go_enter Tryd.func105, Tryd.ntmps105
  go_wp2
  go_ret
  exact ⟨rfl, rfl⟩
set_option maxHeartbeats 1000000 in
theorem word_bad (W : World) (g : Nat) (b v : Int) (hb0 : 0 ≤ b) (hb1 : b < 4) (h0 : v < 0 ∨ 8 ≤ v) (hc : W.cell? ⟨g, 1 + b.toNat, none⟩ = some (.int .i64 v)) :
    Calls Tryd.prog 105 #[.pointer (some ⟨g, 0, none⟩), .int .i64 b] W fun e W' => e = .panicked faultE ∧ W' = W := by
  by_cases hn : v < 0
  · go_enter Tryd.func105, Tryd.ntmps105
    go_wp2
    exact post_panic rfl ⟨rfl, rfl⟩
  · have h2 : 8 ≤ v := by omega
    clear h0
    go_enter Tryd.func105, Tryd.ntmps105
    go_wp2
    exact post_panic rfl ⟨rfl, rfl⟩
theorem codes_at {W : World} {v : Value} {l : List Ins} (h : Sl W 4 v l.length (codeC l)) (k : Nat) (hk : k < l.length) : ∃ b off cap, v = .slice (some ⟨b, off, none⟩) l.length cap ∧ b < W.heap.size ∧ W.cell? ⟨b, off + k * 4, none⟩ = some (.int .i64 l[k].op) ∧ W.cell? ⟨b, off + k * 4 + 1, none⟩ = some (.int .i64 l[k].a) ∧ W.cell? ⟨b, off + k * 4 + 2, none⟩ = some (.int .i64 l[k].b) ∧ W.cell? ⟨b, off + k * 4 + 3, none⟩ = some (.int .i64 l[k].n) := by
  obtain ⟨b, off, cap, rfl, h1, h2, h3⟩ := h.open (by omega)
  exact ⟨b, off, cap, rfl, h2, code_cells h3 k hk⟩
set_option maxHeartbeats 2000000 in
theorem fetch_ok (W : World) (g : Nat) (l : List Ins) (v : Value) (n : Nat) (hn : n < l.length) (hc : W.cell? ⟨g, 0, none⟩ = some (.int .i64 n)) (hg : g < W.heap.size) (hS : Sl W 4 v l.length (codeC l)) :
    Calls Tryd.prog 102 #[.pointer (some ⟨g, 0, none⟩), v] W fun e W' => e = .returned l[n].v ∧ Below W.heap.size W W' := by
  obtain ⟨b, off, cap, rfl, hb, c0, c1, c2, c3⟩ := codes_at hS n hn
  have h1 : (n : Int) < l.length := by omega
  have hg' : g ≠ W.heap.size := Nat.ne_of_lt hg
  have hb' : b ≠ W.heap.size := Nat.ne_of_lt hb
  clear hS
  go_enter Tryd.func102, Tryd.ntmps102
  go_wp2
  refine bodyPost_ret (v := l[n].v) ?_ rfl ⟨rfl, (by repeat (first | exact Below.refl _ _ | assumption | refine Below.drew ?_ | refine Below.alloc ?_ (by first | (simp; done) | (simp; omega)) _ | refine Below.setCell ?_ (by first | (simp; done) | (simp; omega)) _))⟩
  unfold Ins.v
  simp [results, Tryd.results102, go_sem]
set_option maxHeartbeats 2000000 in
theorem fetch_bad (W : World) (g : Nat) (ao : Option Addr) (m cap : Nat) (n : Int) (hn : (m : Int) ≤ n) (hc : W.cell? ⟨g, 0, none⟩ = some (.int .i64 n)) (hg : g < W.heap.size) :
    Calls Tryd.prog 102 #[.pointer (some ⟨g, 0, none⟩), .slice ao m cap] W fun e W' => e = .panicked faultE ∧ Below W.heap.size W W' := by
  have hg' : g ≠ W.heap.size := Nat.ne_of_lt hg
  go_enter Tryd.func102, Tryd.ntmps102
  go_wp2
  exact post_panic rfl ⟨rfl, (by repeat (first | exact Below.refl _ _ | assumption | refine Below.drew ?_ | refine Below.alloc ?_ (by first | (simp; done) | (simp; omega)) _ | refine Below.setCell ?_ (by first | (simp; done) | (simp; omega)) _))⟩
def takeI (inn : List Int) (r : Int) : Int := if r < inn.length then inn.getD r.toNat 0 else 0
def takeC (c : Cel) (n : Nat) : Cel := if c.read < n then { c with read := c.read + 1 } else c
def tellL (xs : List Int) (n : Int) : List Int := if xs.length < 16 then xs ++ [n] else xs
set_option maxHeartbeats 2000000 in
theorem take_any (B : Nat) (w V : World) (g base : Nat) (c : Cel) (o i : Value) (x : Wnt) (xs inn : List Int) (h : Rn B w V g base c o i x xs) (hS : Sl V 1 i inn.length (ints inn)) (hr0 : 0 ≤ c.read) (hr1 : c.read ≤ 12) :
    Calls Tryd.prog 106 #[.pointer (some ⟨g, 0, none⟩)] V fun e V' => e = .returned (.int .i64 (takeI inn c.read)) ∧ Rn B w V' g base (takeC c inn.length) o i x xs ∧ ∀ k, k ≠ g → V'.heap[k]? = V.heap[k]? := by
  have k13 : V.cell? ⟨g, 13, none⟩ = some (.int .i64 c.read) := h.r.cell rfl
  have k16 : V.cell? ⟨g, 16, none⟩ = some i := h.r.cell rfl
  have f13 : V.frozen? ⟨g, 13, none⟩ = false := h.r.fr _
  by_cases hlt : c.read < inn.length
  · obtain ⟨r, hr⟩ : ∃ r : Nat, c.read = r := ⟨c.read.toNat, by omega⟩
    have hr2 : r < inn.length := by omega
    obtain ⟨b, off, cap, rfl, hcap, hb, hcc⟩ := hS.open (by omega)
    have kr := hcc r _ (ints_at inn r hr2)
    have e1 : takeI inn c.read = inn[r] := by simp [takeI, hr, hr2]
    have e2 : takeC c inn.length = { c with read := c.read + 1 } := by simp [takeC, hlt]
    rw [e1, e2]
    rw [hr] at k13 hlt ⊢
    have hrr : (r : Int) ≤ 12 := by omega
    have hr0' : (0 : Int) ≤ r := by omega
    have H := Lib.hid h
    clear h hS hcc e1 e2 hr hr0 hr1
    go_enter Tryd.func106, Tryd.ntmps106
    go_wp2
    go_quiet (fail)
    go_wp2
    go_quiet (fail)
    go_wp2
    go_ret
    exact ⟨rfl, (H.out.drewN _).setRead _, fun k hk => heap_setCell_other _ _ _ _ hk⟩
  · obtain ⟨ao, cap, rfl⟩ := hS.form
    have e1 : takeI inn c.read = 0 := by simp [takeI, hlt]
    have e2 : takeC c inn.length = c := by simp [takeC, hlt]
    rw [e1, e2]
    have H := Lib.hid h
    clear h hS e1 e2
    go_enter Tryd.func106, Tryd.ntmps106
    go_wp2
    go_quiet (fail)
    go_wp2
    go_ret
    exact ⟨rfl, H.out.drewN _, fun k hk => rfl⟩
set_option maxRecDepth 100000 in
set_option maxHeartbeats 2000000 in
theorem tell_any (B : Nat) (w V : World) (g base : Nat) (c : Cel) (o i : Value) (x : Wnt) (xs : List Int) (n : Int) (h : Rn B w V g base c o i x xs) (hx : xs.length ≤ 16) :
    Calls Tryd.prog 107 #[.pointer (some ⟨g, 0, none⟩), .int .i64 n] V fun e V' => e = .returned (.tuple #[]) ∧ ∃ o', Rn B w V' g base c o' i x (tellL xs n) := by
  obtain ⟨i0, hi, hz0, hz1, hz2⟩ := info_parts infoInt
  have k14 : V.cell? ⟨g, 14, none⟩ = some o := h.r.cell rfl
  have hg : g < V.heap.size := h.lt
  have hg' : g ≠ V.heap.size := Nat.ne_of_lt hg
  obtain ⟨ao, cap, rfl⟩ := own_form h.own
  have H := Lib.hid h
  clear h
  by_cases hlt : xs.length < 16
  · have hli : (xs.length : Int) < 16 := by omega
    go_enter Tryd.func107, Tryd.ntmps107
    go_wp2_with (at_builtin; refine wpList_append_sl rfl (.tmp 16) (.tmp 18) 31 rfl base 3 i0 _ 1 8 Tryd.underlying31 hi hz0 hz1 hz2 rfl (by decide) _ xs.length (ints xs) rfl (own_up H.out.own ((Below.refl V.heap.size V).alloc (Nat.le_refl _) _) (own_lt H.out.own)) _ 1 (ints [n]) rfl (sl_one_at V n 3 1 V.heap.size rfl (Nat.le_refl _)) (ints_cell _) (by unfold maxLen; omega) (by omega) (by have := H.out.bs; simp; omega) ?_)
    intro v' W ho hgr hat
    have hno := H.out.no
    have hr1 : Rw W g 141 (rcs c (.slice ao xs.length cap) i x) := (hgr.block g (by simp; omega) (fun e => hno g e.symm rfl)).trans (H.out.r.alloc _)
    have hD : Below B w W := (H.out.alloc (.cells #[.int .i64 n] 3)).d.grown hgr (by have := H.out.g0; simp; omega) (fun k hk => Nat.le_trans H.out.b0 (own_block H.out.own k hk))
    have hgl : g < V.heap.size := hg
    have hno' : ∀ k, v'.ownBlock = some k → k ≠ g := fun k e => by
      rcases hat with h1 | h1
      · exact hno k (h1 ▸ e)
      · rw [h1] at e; simp at e; omega
    have hbs : base ≤ W.heap.size := by have := hgr.size; have := H.out.bs; simp at *; omega
    have h1 := hr1.cell (j := 14) (v := .slice ao xs.length cap) rfl
    have h2 := hr1.fr 14
    obtain ⟨ao', cap', rfl⟩ := own_form ho
    have e : tellL xs n = xs ++ [n] := by simp [tellL, hlt]
    have HR : Hid (Rn B w (W.setCell ⟨g, 14, none⟩ (.slice ao' (xs.length + 1) cap')) g base c (.slice ao' (xs.length + 1) cap') i x (xs ++ [n])) :=
      ⟨hr1.set _ _, hD.setCell H.out.g0 _, own_set (by simpa [ints] using ho) _ (fun e => hno' _ e rfl), H.out.g0, H.out.b0, hno', by rw [size_set]; exact hbs⟩
    have HE := Lib.hid e
    clear e hno hr1 hD hno' hbs ho hgr hat H
    go_wp2
    go_end0
    exact ⟨rfl, _, by rw [HE.out]; exact HR.out⟩
  · have hli : ¬ (xs.length : Int) < 16 := by omega
    have e : tellL xs n = xs := by simp [tellL, hlt]
    rw [e]
    go_enter Tryd.func107, Tryd.ntmps107
    go_wp2
    go_end0
    exact ⟨rfl, _, H.out⟩
end Go.Proofs.YtnnnljfdjdehaaaDoor

namespace Go.Proofs.YtnnnljfdjdehaaaDoor
set_option linter.unusedSimpArgs false
set_option linter.unusedVariables false
open Go.RowKit Go.Sort

/-- What a reader panics with. -/
def wrongE : List PanicEntry := [{ v := .iface 9 (.string ⟨#[119, 114, 111, 110, 103]⟩), recovered := false }]
theorem must_yes (w : World) : Calls Tryd.prog 56 #[.bool true] w fun e w' => e = .returned (.tuple #[]) ∧ w' = w := by
  go_enter Tryd.func56, Tryd.ntmps56
  go_wp2
  go_end0
  exact ⟨rfl, rfl⟩
theorem must_no (w : World) : Calls Tryd.prog 56 #[.bool false] w fun e w' => e = .panicked wrongE ∧ w' = w := by
  go_enter Tryd.func56, Tryd.ntmps56
  go_wp2
  exact post_panic rfl ⟨rfl, rfl⟩
/-- A reader at g, of a row that stands in w; what is not read yet. -/
structure Rdr (w W : World) (g : Nat) (xs : List Int) : Prop where
  r : ∃ u, Rw W g 99 #[u] ∧ Sl w 1 u xs.length (ints xs)
  b : Below w.heap.size w W
  g : w.heap.size ≤ g
theorem Rdr.up {w W W' : World} {g : Nat} {xs : List Int} (h : Rdr w W g xs) (hb : Below W.heap.size W W') : Rdr w W' g xs :=
  let ⟨u, h1, h2⟩ := h.r
  ⟨⟨u, h1.up hb h1.lt, h2⟩, h.b.trans (hb.mono h.b.size), h.g⟩
/-- Nothing is changed but block g. -/
structure One (g : Nat) (w w' : World) : Prop where
  b : Below g w w'
  k : ∀ c, c < w.heap.size → c ≠ g → w'.heap[c]? = w.heap[c]?
theorem One.refl (g : Nat) (w : World) : One g w w := ⟨Below.refl _ _, fun _ _ _ => rfl⟩
theorem One.trans {g : Nat} {w w1 w2 : World} (h : One g w w1) (h' : One g w1 w2) : One g w w2 :=
  ⟨h.b.trans h'.b, fun c hc hg => (h'.k c (Nat.lt_of_lt_of_le hc h.b.size) hg).trans (h.k c hc hg)⟩
theorem One.up {g : Nat} {w w' : World} (h : Below w.heap.size w w') (hg : g ≤ w.heap.size) : One g w w' := ⟨h.mono hg, fun c hc _ => h.block c hc⟩
theorem One.rw {g : Nat} {w w' : World} (h : One g w w') {c : Nat} {t : TypeId} {cs : Array Value} (hr : Rw w c t cs) (hc : c ≠ g) : Rw w' c t cs := (h.k c hr.lt hc).trans hr
theorem One.set (g : Nat) (w : World) (i : Nat) (v : Value) : One g w (w.setCell ⟨g, i, none⟩ v) :=
  ⟨(Below.refl _ _).setCell (by show g ≤ g; omega) _, fun c _ hg => heap_setCell_other _ _ _ _ (by simpa using hg)⟩
theorem One.far {g g' : Nat} {w w' : World} (h : One g w w') (hg : g' ≤ g) : Below g' w w' := h.b.mono hg
theorem sl_takeF {w : World} {sb so uc : Nat} {xs : List Int} {m : Nat} (hm : m ≤ xs.length) (hs2 : sb < w.heap.size) (hcap : xs.length ≤ uc) (hs3 : ∀ j u, (ints xs)[j]? = some u → w.cell? ⟨sb, so + j, none⟩ = some u) : Sl w 1 (.slice (some ⟨sb, so, none⟩) m uc) m (ints (xs.take m)) := by
  refine ⟨by simp [ints]; omega, _, _, rfl, by omega, fun _ => ⟨sb, so, rfl, hs2, fun j u hj => hs3 j u ?_⟩⟩
  have hl := (List.getElem?_eq_some_iff.1 hj).1
  have hjm : j < m := by simp [ints] at hl; omega
  rw [← hj]
  unfold ints
  rw [List.map_take, List.getElem?_take, if_pos hjm]
theorem sl_dropF {w : World} {sb so uc : Nat} {xs : List Int} {m : Nat} (hm : m ≤ xs.length) (hs2 : sb < w.heap.size) (hcap : xs.length ≤ uc) (hs3 : ∀ j u, (ints xs)[j]? = some u → w.cell? ⟨sb, so + j, none⟩ = some u) (a : Option Addr) (ha : m < xs.length → a = some ⟨sb, so + m, none⟩) (c : Nat) (hc : xs.length - m ≤ c) : Sl w 1 (.slice a (xs.length - m) c) (xs.drop m).length (ints (xs.drop m)) := by
  rw [List.length_drop]
  refine ⟨by simp [ints], _, _, rfl, by omega, fun h0 => ⟨sb, so + m, ha (by omega), hs2, fun j u hj => ?_⟩⟩
  rw [Nat.add_assoc]
  refine hs3 (m + j) u ?_
  rw [← hj]
  simp [ints, List.getElem?_drop]
set_option maxRecDepth 100000 in
set_option maxHeartbeats 4000000 in
theorem take_no (w W : World) (g : Nat) (xs : List Int) (m : Nat) (hm : xs.length < m) (h : Rdr w W g xs) :
    Calls Tryd.prog 99 #[.pointer (some ⟨g, 0, none⟩), .int .i64 (m : Int)] W fun e w' => e = .panicked wrongE ∧ Below W.heap.size W w' := by
  obtain ⟨u, hr, hs⟩ := h.r
  obtain ⟨ua, uc, rfl⟩ := hs.form
  have k0 : W.cell? ⟨g, 0, none⟩ = some (.slice ua xs.length uc) := hr.cell (j := 0) rfl
  have hli : decide (m ≤ xs.length) = false := by simp; omega
  clear hr hs h
  go_enter Tryd.func99, Tryd.ntmps99
  go_wp2_with fail
  refine (must_no _).mono ?_
  rintro e w1 ⟨rfl, hw⟩
  subst hw
  exact post_panic rfl ⟨rfl, Below.refl _ _⟩
set_option maxRecDepth 100000 in
set_option maxHeartbeats 4000000 in
theorem take_yes (w W : World) (g : Nat) (xs : List Int) (m : Nat) (hm1 : 1 ≤ m) (hm : m ≤ xs.length) (h : Rdr w W g xs) :
    Calls Tryd.prog 99 #[.pointer (some ⟨g, 0, none⟩), .int .i64 (m : Int)] W fun e w' => ∃ v, e = .returned v ∧ Sl w 1 v m (ints (xs.take m)) ∧ Rdr w w' g (xs.drop m) ∧ One g W w' := by
  obtain ⟨u, hr, hs⟩ := h.r
  obtain ⟨ua, uc, rfl⟩ := hs.form
  obtain ⟨_, a9, c9, hform, hcap, hcell⟩ := hs
  obtain ⟨sb, so, hs1, hs2, hs3⟩ := hcell (by omega)
  cases hform
  cases hs1
  have k0 : W.cell? ⟨g, 0, none⟩ = some (.slice (some ⟨sb, so, none⟩) xs.length uc) := hr.cell (j := 0) rfl
  have f0 := hr.fr 0
  have hli : (m : Int) ≤ xs.length := by omega
  have hlc : (m : Int) ≤ uc := by omega
  have HR := Lib.hid hr
  have H := Lib.hid h
  have HS3 := Lib.hid hs3
  have HCP := Lib.hid hcap
  clear hr h hcell hs3
  go_enter Tryd.func99, Tryd.ntmps99
  go_wp2_with fail
  refine (must_yes _).mono ?_
  rintro e w1 ⟨rfl, hw⟩
  subst hw
  go_wp2
  all_goals go_ret
  all_goals exact ⟨_, rfl, sl_takeF hm hs2 (by have := HCP.out; omega) HS3.out, ⟨⟨_, HR.out.set 0 _, sl_dropF hm hs2 HCP.out HS3.out _ (fun _ => by first | rfl | (have := HCP.out; omega)) _ (by have := HCP.out; omega)⟩, H.out.b.setCell (by simpa using H.out.g) _, H.out.g⟩, One.set _ _ _ _⟩
theorem take_or (w W : World) (g : Nat) (xs : List Int) (m : Nat) (hm1 : 1 ≤ m) (h : Rdr w W g xs) :
    Calls Tryd.prog 99 #[.pointer (some ⟨g, 0, none⟩), .int .i64 (m : Int)] W fun e w' => (∃ v, e = .returned v ∧ m ≤ xs.length ∧ Sl w 1 v m (ints (xs.take m)) ∧ Rdr w w' g (xs.drop m) ∧ One g W w') ∨ (e = .panicked wrongE ∧ xs.length < m ∧ Below W.heap.size W w') := by
  by_cases hm : m ≤ xs.length
  · refine (take_yes w W g xs m hm1 hm h).mono ?_
    rintro e w' ⟨v, rfl, h1, h2, h3⟩
    exact .inl ⟨v, rfl, hm, h1, h2, h3⟩
  · refine (take_no w W g xs m (by omega) h).mono ?_
    rintro e w' ⟨rfl, h1⟩
    exact .inr ⟨rfl, by omega, h1⟩
end Go.Proofs.YtnnnljfdjdehaaaDoor

namespace Go.Proofs.YtnnnljfdjdehaaaDoor
set_option linter.unusedSimpArgs false
set_option linter.unusedVariables false
open Go.RowKit Go.Sort

set_option maxRecDepth 100000 in
set_option maxHeartbeats 4000000 in
theorem number_no (w W : World) (g : Nat) (h : Rdr w W g []) :
    Calls Tryd.prog 81 #[.pointer (some ⟨g, 0, none⟩)] W fun e w' => e = .panicked wrongE ∧ Below W.heap.size W w' := by
  have HT := Lib.hid (take_no w W g [] 1 (by simp) h)
  go_enter Tryd.func81, Tryd.ntmps81
  go_wp2_with fail
  refine HT.out.mono ?_
  rintro e w1 ⟨rfl, hb⟩
  exact post_panic rfl ⟨rfl, hb⟩
set_option maxRecDepth 100000 in
set_option maxHeartbeats 4000000 in
theorem number_yes (w W : World) (g : Nat) (x : Int) (xs : List Int) (h : Rdr w W g (x :: xs)) :
    Calls Tryd.prog 81 #[.pointer (some ⟨g, 0, none⟩)] W fun e w' => e = .returned (.int .i64 x) ∧ Rdr w w' g xs ∧ One g W w' := by
  have HT := Lib.hid (take_yes w W g (x :: xs) 1 (by simp) (by simp) h)
  go_enter Tryd.func81, Tryd.ntmps81
  go_wp2_with fail
  refine HT.out.mono ?_
  rintro e w1 ⟨v, rfl, hs, hr, hb⟩
  obtain ⟨va, vc, rfl⟩ := hs.form
  obtain ⟨_, a9, c9, hform, hcap, hcell⟩ := hs
  obtain ⟨sb, so, hs1, hs2, hs3⟩ := hcell (by omega)
  cases hform
  cases hs1
  have c0 : w.cell? ⟨sb, so, none⟩ = some (.int .i64 x) := by simpa [ints] using hs3 0 (.int .i64 x) (by simp [ints])
  have c1 := bcl hr.b hs2 c0
  have HR := Lib.hid hr
  have HB := Lib.hid hb
  clear hr hb hs3 hcell HT h c0
  go_wp2
  go_ret
  exact ⟨rfl, HR.out, HB.out⟩
theorem number_or (w W : World) (g : Nat) (xs : List Int) (h : Rdr w W g xs) :
    Calls Tryd.prog 81 #[.pointer (some ⟨g, 0, none⟩)] W fun e w' => (∃ x q, xs = x :: q ∧ e = .returned (.int .i64 x) ∧ Rdr w w' g q ∧ One g W w') ∨ (xs = [] ∧ e = .panicked wrongE ∧ Below W.heap.size W w') := by
  match xs, h with
  | [], h =>
    refine (number_no w W g h).mono ?_
    rintro e w' ⟨rfl, h1⟩
    exact .inr ⟨rfl, rfl, h1⟩
  | x :: q, h =>
    refine (number_yes w W g x q h).mono ?_
    rintro e w' ⟨rfl, h1, h2⟩
    exact .inl ⟨x, q, rfl, rfl, h1, h2⟩
end Go.Proofs.YtnnnljfdjdehaaaDoor

namespace Go.Proofs.YtnnnljfdjdehaaaDoor
set_option linter.unusedSimpArgs false
set_option linter.unusedVariables false
open Go.RowKit Go.Sort

/-- A list with its room at the head of a row; what is behind it. -/
def listD (room : Nat) : List Int → Option (List Int × List Int)
  | [] => none
  | x :: r => if 0 ≤ x ∧ x ≤ (room : Int) ∧ room ≤ r.length ∧ (∀ y ∈ (r.take room).drop x.toNat, y = 0) then some (r.take x.toNat, r.drop room) else none
set_option maxRecDepth 100000 in
set_option maxHeartbeats 4000000 in
theorem list_any (room : Nat) (hr1 : 1 ≤ room) (hr2 : room ≤ 100) (w W : World) (g : Nat) (xs : List Int) (h : Rdr w W g xs) :
    Calls Tryd.prog 83 #[.pointer (some ⟨g, 0, none⟩), .int .i64 (room : Int)] W fun e w' =>
      (listD room xs = none ∧ e = .panicked wrongE ∧ Below g W w') ∨ (∃ l r v, listD room xs = some (l, r) ∧ e = .returned v ∧ w'.ownsRow W.heap.size 3 1 v l.length (ints l) ∧ Rdr w w' g r ∧ One g W w') := by
  obtain ⟨i1, hi1, hy0, hy1, hy2⟩ := info_parts info3
  have hgl : g < W.heap.size := by obtain ⟨u, hr, _⟩ := h.r; exact hr.lt
  match xs, h with
  | [], h =>
    have HT := Lib.hid (number_no w W g h)
    clear h
    go_enter Tryd.func83, Tryd.ntmps83
    go_wp2_with fail
    refine HT.out.mono ?_
    rintro e w1 ⟨rfl, hb⟩
    exact post_panic rfl (.inl ⟨rfl, rfl, hb.mono (by omega)⟩)
  | x :: r, h =>
    have HT := Lib.hid (number_yes w W g x r h)
    clear h
    go_enter Tryd.func83, Tryd.ntmps83
    go_wp2_with fail
    refine HT.out.mono ?_
    rintro e w1 ⟨rfl, hr, hb⟩
    have HR := Lib.hid hr
    have HB := Lib.hid hb
    clear hr hb HT
    by_cases hx0 : x < 0
    · have hx0' : decide (0 ≤ x) = false := by simp; omega
      have HN : Hid (listD room (x :: r) = none) := Lib.hid (if_neg (by omega))
      go_wp2_with fail
      refine (must_no _).mono ?_
      rintro e w2 ⟨rfl, hw⟩
      subst hw
      exact post_panic rfl (.inl ⟨HN.out, rfl, HB.out.b⟩)
    · obtain ⟨n, rfl⟩ : ∃ n : Nat, x = n := ⟨x.toNat, by omega⟩
      by_cases hx1 : n ≤ room
      · have hx1i : (n : Int) ≤ room := by omega
        go_wp2_with fail
        refine (must_yes _).mono ?_
        rintro e w2 ⟨rfl, hw⟩
        subst hw
        by_cases hlr : room ≤ r.length
        · have HT2 := Lib.hid (take_yes w w2 g r room hr1 hlr HR.out)
          go_wp2_with fail
          refine HT2.out.mono ?_
          rintro e w3 ⟨v, rfl, hs, hr, hb⟩
          have hrw := hr.b.size
          obtain ⟨va, vc, rfl⟩ := hs.form
          obtain ⟨_, a9, c9, hform, hcap, hcell⟩ := hs
          obtain ⟨sb, so, hs1, hs2, hs3⟩ := hcell (by omega)
          cases hform
          cases hs1
          have HR3 := Lib.hid hr
          have HB3 := Lib.hid (HB.out.trans hb)
          have HS3 := Lib.hid hs3
          have HCP := Lib.hid hcap
          clear hr hb hs3 hcell HT2 HR HB
          by_cases hv : vc = n
          · have e1 : room = vc := by omega
            have e2 : room = n := by omega
            clear hv
            subst e1
            subst e2
            go_wp2
            go_loopw [26] (fun i wr => ∃ k : Nat, i = .int .i64 k ∧ k ≤ room - room ∧ Hid (∀ j, j < k → (r.take room)[room + j]? = some 0) ∧ wr = w3) (fun i _ => room - room - (intOf i).toNat)
            case atStart => exact ⟨0, rfl, Nat.zero_le _, Lib.hid (fun j hj => by omega), rfl⟩
            case round =>
              obtain ⟨k, rfl, hk, HZ, hwr⟩ := hrel
              subst hwr
              by_cases hkl : k < room - room
              · have hki : (k : Int) < ((room - room : Nat) : Int) := by omega
                omega
              · have hki : ¬ (k : Int) < ((room - room : Nat) : Int) := by omega
                have HY : Hid (listD room ((room : Int) :: r) = some (r.take room, r.drop room)) := Lib.hid ((if_pos ⟨by omega, by omega, hlr, fun y hy => by
                  rw [Int.toNat_natCast] at hy
                  obtain ⟨j, hj⟩ := List.mem_iff_getElem?.1 hy
                  rw [List.getElem?_drop] at hj
                  have hjl := (List.getElem?_eq_some_iff.1 hj).1
                  rw [List.length_take] at hjl
                  rw [HZ.out j (by omega)] at hj
                  injection hj with hj
                  exact hj.symm⟩).trans (by rw [Int.toNat_natCast]))
                have hwr := HB3.out.b.size
                have HLN : Hid ((r.take room).length = room) := Lib.hid (by rw [List.length_take]; omega)
                have HSA : Hid (Sl wr 1 (.slice (some ⟨sb, so, none⟩) room room) room (ints (r.take room))) := Lib.hid (by
                  have e := sl_takeF (uc := room) (xs := r.take room) (m := room) (by rw [List.length_take]; omega) hs2 (by have := HCP.out; rw [List.length_take]; omega) HS3.out
                  rw [List.take_take, Nat.min_eq_left (by omega)] at e
                  exact e.up HR3.out.b)
                clear HZ
                go_wp2_with (at_builtin; refine wpList_append_sl rfl (.const (.slice none 0 0)) (.tmp 36) 31 rfl W.heap.size 3 i1 (.int .i64 0) 1 8 Tryd.underlying31 hi1 hy0 hy1 hy2 rfl (by decide) _ 0 [] rfl (World.ownsRow_nil _ _ _ _) _ room (ints (r.take room)) rfl HSA.out (ints_cell _) (by unfold maxLen; omega) (by omega) (by omega) ?_)
                intro v7 W7 hown hgrow _
                have HB7 : Hid (Below wr.heap.size wr W7) := Lib.hid ((Below.refl _ _).grown hgrow (Nat.le_refl _) (fun k e => by cases e))
                have HO7 : Hid (W7.ownsRow W.heap.size 3 1 v7 (r.take room).length (ints (r.take room))) := Lib.hid (by rw [HLN.out]; simpa using hown)
                clear hown hgrow
                go_wp2
                go_ret
                exact .inr ⟨r.take room, r.drop room, v7, HY.out, rfl, HO7.out, HR3.out.up HB7.out, HB3.out.trans (One.up HB7.out (by omega))⟩
          · have hnc : (n : Int) ≤ vc := by omega
            go_wp2
            go_loopw [26] (fun i wr => ∃ k : Nat, i = .int .i64 k ∧ k ≤ room - n ∧ Hid (∀ j, j < k → (r.take room)[n + j]? = some 0) ∧ wr = w3) (fun i _ => room - n - (intOf i).toNat)
            case atStart => exact ⟨0, rfl, Nat.zero_le _, Lib.hid (fun j hj => by omega), rfl⟩
            case round =>
              obtain ⟨k, rfl, hk, HZ, hwr⟩ := hrel
              subst hwr
              by_cases hkl : k < room - n
              · have hki : (k : Int) < ((room - n : Nat) : Int) := by omega
                have hlt2 : n + k < (r.take room).length := by rw [List.length_take]; omega
                have c0 := bcl HR3.out.b hs2 (HS3.out (n + k) (.int .i64 ((r.take room)[n + k])) (by rw [ints_at _ _ hlt2]))
                have c1 : wr.cell? ⟨sb, so + n + k, none⟩ = some (.int .i64 ((r.take room)[n + k])) := by rw [Nat.add_assoc]; exact c0
                have HKG := Lib.hid (List.getElem?_eq_getElem hlt2)
                clear c0
                generalize (r.take room)[n + k] = y at c1 HKG
                by_cases hy : y = 0
                · subst hy
                  go_wp2_with fail
                  refine (must_yes _).mono ?_
                  rintro e w4 ⟨rfl, hw⟩
                  subst hw
                  go_wp2
                  go_roundw
                  case rel => exact ⟨k + 1, by go_num, by omega, Lib.hid (fun j hj => by
                    by_cases e : j = k
                    · subst e; exact HKG.out
                    · exact HZ.out j (by omega)), by first | rfl | trivial⟩
                  case measure => simp [intOf]; omega
                · have hyb : (y == 0) = false := by simp [hy]
                  have HN : Hid (listD room ((n : Int) :: r) = none) := Lib.hid (if_neg (fun hh => hy (hh.2.2.2 y (by
                    rw [Int.toNat_natCast]
                    exact List.mem_of_getElem? (i := k) (by rw [List.getElem?_drop]; exact HKG.out)))))
                  go_wp2_with fail
                  refine (must_no _).mono ?_
                  rintro e w4 ⟨rfl, hw⟩
                  subst hw
                  dsimp only
                  first | (go_wp2; done) | go_wp2 | dsimp +zetaDelta only [Exit.then, Exit.inBlock]
                  exact post_panic rfl (Or.inl ⟨HN.out, rfl, HB3.out.b⟩)
              · have hki : ¬ (k : Int) < ((room - n : Nat) : Int) := by omega
                have HY : Hid (listD room ((n : Int) :: r) = some (r.take n, r.drop room)) := Lib.hid ((if_pos ⟨by omega, by omega, hlr, fun y hy => by
                  rw [Int.toNat_natCast] at hy
                  obtain ⟨j, hj⟩ := List.mem_iff_getElem?.1 hy
                  rw [List.getElem?_drop] at hj
                  have hjl := (List.getElem?_eq_some_iff.1 hj).1
                  rw [List.length_take] at hjl
                  rw [HZ.out j (by omega)] at hj
                  injection hj with hj
                  exact hj.symm⟩).trans (by rw [Int.toNat_natCast]))
                have hwr := HB3.out.b.size
                have HLN : Hid ((r.take n).length = n) := Lib.hid (by rw [List.length_take]; omega)
                have HSA : Hid (Sl wr 1 (.slice (some ⟨sb, so, none⟩) n vc) n (ints (r.take n))) := Lib.hid (by
                  have e := sl_takeF (uc := vc) (xs := r.take room) (m := n) (by rw [List.length_take]; omega) hs2 (by have := HCP.out; rw [List.length_take]; omega) HS3.out
                  rw [List.take_take, Nat.min_eq_left (by omega)] at e
                  exact e.up HR3.out.b)
                clear HZ
                go_wp2_with (at_builtin; refine wpList_append_sl rfl (.const (.slice none 0 0)) (.tmp 36) 31 rfl W.heap.size 3 i1 (.int .i64 0) 1 8 Tryd.underlying31 hi1 hy0 hy1 hy2 rfl (by decide) _ 0 [] rfl (World.ownsRow_nil _ _ _ _) _ n (ints (r.take n)) rfl HSA.out (ints_cell _) (by unfold maxLen; omega) (by omega) (by omega) ?_)
                intro v7 W7 hown hgrow _
                have HB7 : Hid (Below wr.heap.size wr W7) := Lib.hid ((Below.refl _ _).grown hgrow (Nat.le_refl _) (fun k e => by cases e))
                have HO7 : Hid (W7.ownsRow W.heap.size 3 1 v7 (r.take n).length (ints (r.take n))) := Lib.hid (by rw [HLN.out]; simpa using hown)
                clear hown hgrow
                go_wp2
                go_ret
                exact .inr ⟨r.take n, r.drop room, v7, HY.out, rfl, HO7.out, HR3.out.up HB7.out, HB3.out.trans (One.up HB7.out (by omega))⟩
        · have HT2 := Lib.hid (take_no w w2 g r room (by omega) HR.out)
          have HN : Hid (listD room ((n : Int) :: r) = none) := Lib.hid (if_neg (by omega))
          have hw2 := HB.out.b.size
          go_wp2_with fail
          refine HT2.out.mono ?_
          rintro e w3 ⟨rfl, hb⟩
          exact post_panic rfl (.inl ⟨HN.out, rfl, HB.out.b.trans (hb.mono (by omega))⟩)
      · have hx1i : decide (n ≤ room) = false := by simp; omega
        have HN : Hid (listD room ((n : Int) :: r) = none) := Lib.hid (if_neg (by omega))
        go_wp2_with fail
        refine (must_no _).mono ?_
        rintro e w2 ⟨rfl, hw⟩
        subst hw
        exact post_panic rfl (.inl ⟨HN.out, rfl, HB.out.b⟩)
end Go.Proofs.YtnnnljfdjdehaaaDoor

namespace Go.Proofs.YtnnnljfdjdehaaaDoor
set_option linter.unusedSimpArgs false
set_option linter.unusedVariables false
open Go.RowKit Go.Sort

theorem listD_pad {l : List Int} {room : Nat} (h : l.length ≤ room) (r : List Int) : listD room (padL l room ++ r) = some (l, r) := by
  have e : padL l room ++ r = (l.length : Int) :: (l ++ List.replicate (room - l.length) 0 ++ r) := by simp [padL]
  have hl : (l ++ List.replicate (room - l.length) (0 : Int)).length = room := by simp; omega
  rw [e]
  have hz : ∀ y ∈ (((l ++ List.replicate (room - l.length) 0 ++ r).take room).drop (l.length : Int).toNat), y = 0 := fun y hy => by
    rw [Int.toNat_natCast, List.take_append_of_le_length (by omega), List.take_of_length_le (by omega), List.drop_append_of_le_length (Nat.le_refl _), List.drop_length, List.nil_append] at hy
    exact List.eq_of_mem_replicate hy
  refine (if_pos ⟨by omega, by omega, by rw [List.length_append, hl]; omega, hz⟩).trans ?_
  rw [Int.toNat_natCast, List.drop_left' hl, List.append_assoc, List.take_left' rfl]
theorem pad_listD {room : Nat} {xs l r : List Int} (h : listD room xs = some (l, r)) : xs = padL l room ++ r ∧ l.length ≤ room := by
  match xs, h with
  | x :: q, h =>
    by_cases hc : 0 ≤ x ∧ x ≤ (room : Int) ∧ room ≤ q.length ∧ (∀ y ∈ (q.take room).drop x.toNat, y = 0)
    · rw [show listD room (x :: q) = _ from if_pos hc] at h
      obtain ⟨h0, h1, h2, h3⟩ := hc
      obtain ⟨n, rfl⟩ : ∃ n : Nat, x = n := ⟨x.toNat, by omega⟩
      rw [Int.toNat_natCast] at h h3
      injection h with h
      injection h with ha hb
      subst ha
      subst hb
      have hn : (q.take n).length = n := by rw [List.length_take]; omega
      refine ⟨?_, by omega⟩
      unfold padL
      rw [hn, List.cons_append]
      congr 1
      have hz : (q.take room).drop n = List.replicate (room - n) 0 := by
        rw [List.eq_replicate_iff]
        exact ⟨by rw [List.length_drop, List.length_take]; omega, h3⟩
      have ht : q.take room = q.take n ++ List.replicate (room - n) 0 := by
        rw [← hz, show q.take n = (q.take room).take n by rw [List.take_take, Nat.min_eq_left (by omega)], List.take_append_drop]
      rw [← ht, List.take_append_drop]
    · rw [show listD room (x :: q) = _ from if_neg hc] at h
      cases h
/-- A cell at the head of a row. -/
def cellD : List Int → Option (CelD × List Int)
  | a :: r0 :: r1 :: r2 :: r3 :: m0 :: m1 :: m2 :: m3 :: m4 :: m5 :: m6 :: m7 :: rd :: en :: q =>
    match listD 16 q with
    | some (l, r) => some (⟨⟨a, r0, r1, r2, r3, m0, m1, m2, m3, m4, m5, m6, m7, rd, en⟩, l⟩, r)
    | none => none
  | _ => none
theorem cellD_row {d : CelD} (h : d.out.length ≤ 16) (r : List Int) : cellD (cellR d ++ r) = some (d, r) := by
  obtain ⟨c, l⟩ := d
  have e : cellR ⟨c, l⟩ ++ r = c.at_ :: c.r0 :: c.r1 :: c.r2 :: c.r3 :: c.m0 :: c.m1 :: c.m2 :: c.m3 :: c.m4 :: c.m5 :: c.m6 :: c.m7 :: c.read :: c.en :: (padL l 16 ++ r) := by simp [cellR, regsL, memL]
  rw [e]
  show (match listD 16 (padL l 16 ++ r) with | some (l, r) => _ | none => _) = _
  rw [listD_pad h]
theorem row_cellD {xs r : List Int} {d : CelD} (h : cellD xs = some (d, r)) : xs = cellR d ++ r ∧ d.out.length ≤ 16 := by
  unfold cellD at h
  split at h
  · split at h
    · rename_i l r' hl
      injection h with h
      injection h with ha hb
      subst ha
      subst hb
      obtain ⟨h1, h2⟩ := pad_listD hl
      refine ⟨?_, h2⟩
      rw [h1]
      simp [cellR, regsL, memL]
    · cases h
  · cases h
end Go.Proofs.YtnnnljfdjdehaaaDoor

namespace Go.Proofs.YtnnnljfdjdehaaaDoor
set_option linter.unusedSimpArgs false
set_option linter.unusedVariables false
open Go.RowKit Go.Sort

/-- n things at the head of a row. -/
def manyD {α : Type} (f : List Int → Option (α × List Int)) : Nat → List Int → Option (List α × List Int)
  | 0, xs => some ([], xs)
  | n + 1, xs => match f xs with
    | none => none
    | some (d, r) => match manyD f n r with
      | none => none
      | some (ds, r') => some (d :: ds, r')
theorem manyD_none {α : Type} {f : List Int → Option (α × List Int)} {n : Nat} {xs : List Int} (h : f xs = none) : manyD f (n + 1) xs = none := by rw [manyD, h]
theorem manyD_some {α : Type} {f : List Int → Option (α × List Int)} {n : Nat} {xs r : List Int} {d : α} (h : f xs = some (d, r)) : manyD f (n + 1) xs = (manyD f n r).map fun p => (d :: p.1, p.2) := by
  rw [manyD, h]
  dsimp only
  cases manyD f n r <;> rfl
theorem manyD_lay {α : Type} {f : List Int → Option (α × List Int)} {g : α → List Int} : ∀ {ds : List α} (_ : ∀ d ∈ ds, ∀ r, f (g d ++ r) = some (d, r)) (r : List Int), manyD f ds.length (ds.flatMap g ++ r) = some (ds, r)
  | [], _, r => rfl
  | d :: ds, h, r => by
    have h1 := h d (by simp) (ds.flatMap g ++ r)
    rw [List.flatMap_cons, List.append_assoc, List.length_cons, manyD_some h1, manyD_lay (fun x hx => h x (by simp [hx])) r]
    rfl
theorem lay_manyD {α : Type} {f : List Int → Option (α × List Int)} {g : α → List Int} {P : α → Prop} (hf : ∀ xs d r, f xs = some (d, r) → xs = g d ++ r ∧ P d) : ∀ {n : Nat} {xs r : List Int} {ds : List α}, manyD f n xs = some (ds, r) → xs = ds.flatMap g ++ r ∧ ds.length = n ∧ ∀ d ∈ ds, P d
  | 0, xs, r, ds, h => by
    rw [manyD] at h
    injection h with h
    injection h with ha hb
    subst ha
    subst hb
    exact ⟨rfl, rfl, fun d hd => by cases hd⟩
  | n + 1, xs, r, ds, h => by
    cases e : f xs with
    | none => rw [manyD_none e] at h; cases h
    | some p =>
      obtain ⟨d, q⟩ := p
      rw [manyD_some e] at h
      cases e2 : manyD f n q with
      | none => rw [e2] at h; cases h
      | some p2 =>
        obtain ⟨es, q2⟩ := p2
        rw [e2] at h
        injection h with h
        injection h with ha hb
        subst ha
        subst hb
        obtain ⟨h1, h2⟩ := hf _ _ _ e
        obtain ⟨h3, h4, h5⟩ := lay_manyD hf e2
        refine ⟨?_, by simp [h4], fun x hx => ?_⟩
        · rw [h1, h3, List.flatMap_cons, List.append_assoc]
        · rcases List.mem_cons.1 hx with rfl | hx
          · exact h2
          · exact h5 x hx
/-- A world of n cells and m lines at the head of a row. -/
def worldD (n m : Nat) : List Int → Option (WldD × List Int)
  | [] => none
  | t :: q => match manyD cellD n q with
    | none => none
    | some (ds, q1) => match manyD (listD 3) m q1 with
      | none => none
      | some (ls, q2) => some (⟨t, ds, ls⟩, q2)
theorem worldD_row {D : WldD} (h : SmallD D) (r : List Int) : worldD D.cells.length D.lines.length (rowF D ++ r) = some (D, r) := by
  obtain ⟨t, ds, ls⟩ := D
  have e : rowF ⟨t, ds, ls⟩ ++ r = t :: (ds.flatMap cellR ++ (ls.flatMap (fun l => padL l 3) ++ r)) := by simp [rowF, cellsF, linesF]
  have h1 := manyD_lay (f := cellD) (g := cellR) (ds := ds) (fun d hd q => cellD_row (h.out d hd) q) (ls.flatMap (fun l => padL l 3) ++ r)
  have h2 := manyD_lay (f := listD 3) (g := fun l => padL l 3) (ds := ls) (fun d hd q => listD_pad (h.vals d hd) q) r
  rw [e, worldD]
  simp only [h1, h2]
theorem row_worldD {n m : Nat} {xs r : List Int} {D : WldD} (h : worldD n m xs = some (D, r)) : xs = rowF D ++ r ∧ D.cells.length = n ∧ D.lines.length = m ∧ (∀ d ∈ D.cells, d.out.length ≤ 16) ∧ (∀ l ∈ D.lines, l.length ≤ 3) := by
  match xs, h with
  | t :: q, h =>
    rw [worldD] at h
    cases e1 : manyD cellD n q with
    | none => simp only [e1] at h; cases h
    | some p1 =>
      obtain ⟨ds, q1⟩ := p1
      cases e2 : manyD (listD 3) m q1 with
      | none => simp only [e1, e2] at h; cases h
      | some p2 =>
        obtain ⟨ls, q2⟩ := p2
        simp only [e1, e2] at h
        injection h with h
        injection h with ha hb
        subst ha
        subst hb
        obtain ⟨h1, h2, h3⟩ := lay_manyD (f := cellD) (g := cellR) (P := fun d => d.out.length ≤ 16) (fun _ _ _ h => row_cellD h) e1
        obtain ⟨h4, h5, h6⟩ := lay_manyD (f := listD 3) (g := fun l => padL l 3) (P := fun l => l.length ≤ 3) (fun _ _ _ h => pad_listD h) e2
        refine ⟨?_, h2, h5, h3, h6⟩
        rw [h1, h4]
        simp [rowF, cellsF, linesF]
end Go.Proofs.YtnnnljfdjdehaaaDoor

namespace Go.Proofs.YtnnnljfdjdehaaaDoor
set_option linter.unusedSimpArgs false
set_option linter.unusedVariables false
open Go.RowKit Go.Sort

theorem entTake : Enters 99 := enters Tryd.func99 (by kernel_rfl) (by kernel_rfl)
theorem sizeIntF : (Tryd.prog.info? 3).map (·.size) = some 1 := by kernel_rfl
theorem wp_of_step {P : Program} {o : Oper} {a : Act} {w : World} {K : Act → World → Prop} {Q : Exit → Act → World → Prop} (hgd : o.guard = none) (h : if Region.wanted o (yielded #[] a.tmps) = true then Oper.wp P o a w K Q else True) : Oper.wp P o a w K Q := by
  have hw : Region.wanted o (yielded #[] a.tmps) = true := by simp [Region.wanted, hgd]
  rwa [if_pos hw] at h
theorem Rdr.via {w W W' : World} {g B : Nat} {xs : List Int} (h : Rdr w W g xs) (hb : Below B W W') (hg : g < B) : Rdr w W' g xs :=
  let ⟨u, h1, h2⟩ := h.r
  ⟨⟨u, h1.up hb hg, h2⟩, h.b.trans (hb.mono (by have := h.g; omega)), h.g⟩
theorem One.via {g B : Nat} {W w1 w2 : World} (h : One g W w1) (hb : Below B w1 w2) (hB : W.heap.size ≤ B) (hg : g < W.heap.size) : One g W w2 :=
  ⟨h.b.trans (hb.mono (by omega)), fun c hc hcg => (hb.block c (by omega)).trans (h.k c hc hcg)⟩
/-- A cell that is being read, at W.heap.size + 1. -/
structure Rc (w W : World) (g : Nat) (c : Cel) (o : Value) (q : List Int) (w' : World) : Prop where
  c : Rw w' (W.heap.size + 1) 62 (c.cs o)
  z : Rw w' W.heap.size 62 (celZ.cs (.slice none 0 0))
  r : Rdr w w' g q
  n : One g W w'
  lt : g < W.heap.size
theorem Rc.call {w W : World} {g : Nat} {c : Cel} {o : Value} {q q' : List Int} {w1 w2 : World} (h : Rc w W g c o q w1) (hr : Rdr w w2 g q') (ho : One g w1 w2) : Rc w W g c o q' w2 :=
  ⟨ho.rw h.c (by have := h.lt; omega), ho.rw h.z (by have := h.lt; omega), hr, h.n.trans ho, h.lt⟩
theorem Rc.put {w W : World} {g : Nat} {c c' : Cel} {o o' : Value} {q : List Int} {w1 w2 : World} (h : Rc w W g c o q w1) (hb : Below (W.heap.size + 1) w1 w2) (hc : Rw w2 (W.heap.size + 1) 62 (c'.cs o')) : Rc w W g c' o' q w2 :=
  ⟨hc, h.z.up hb (by omega), h.r.via hb (by have := h.lt; omega), h.n.via hb (by omega) h.lt, h.lt⟩
theorem Rc.drew {w W : World} {g : Nat} {c : Cel} {o : Value} {q : List Int} {w1 : World} (h : Rc w W g c o q w1) : Rc w W g c o q w1.drew := h.put (Below.drew (Below.refl _ _)) h.c.drew
theorem Rc.set {w W : World} {g : Nat} {c c' : Cel} {o o' : Value} {q : List Int} {w1 : World} (h : Rc w W g c o q w1) (i : Nat) (v : Value) (hc : (c.cs o).setIfInBounds i v = c'.cs o') : Rc w W g c' o' q (w1.setCell ⟨W.heap.size + 1, i, none⟩ v) :=
  h.put ((Below.refl _ _).setCell (by simp) _) (hc ▸ h.c.set i v)
theorem splice_regs (c : Cel) (o : Value) (x0 x1 x2 x3 : Int) : (splice (c.cs o).toList 1 (ints [x0, x1, x2, x3])).toArray = ({ c with r0 := x0, r1 := x1, r2 := x2, r3 := x3 } : Cel).cs o := rfl
theorem splice_mem (c : Cel) (o : Value) (x0 x1 x2 x3 x4 x5 x6 x7 : Int) : (splice (c.cs o).toList 5 (ints [x0, x1, x2, x3, x4, x5, x6, x7])).toArray = ({ c with m0 := x0, m1 := x1, m2 := x2, m3 := x3, m4 := x4, m5 := x5, m6 := x6, m7 := x7 } : Cel).cs o := rfl
theorem fourF {q : List Int} (h : 4 ≤ q.length) : ∃ r0 r1 r2 r3 q1, q = r0 :: r1 :: r2 :: r3 :: q1 := by
  match q, h with
  | r0 :: r1 :: r2 :: r3 :: q1, _ => exact ⟨r0, r1, r2, r3, q1, rfl⟩
theorem eightF {q : List Int} (h : 8 ≤ q.length) : ∃ r0 r1 r2 r3 r4 r5 r6 r7 q1, q = r0 :: r1 :: r2 :: r3 :: r4 :: r5 :: r6 :: r7 :: q1 := by
  match q, h with
  | r0 :: r1 :: r2 :: r3 :: r4 :: r5 :: r6 :: r7 :: q1, _ => exact ⟨r0, r1, r2, r3, r4, r5, r6, r7, q1, rfl⟩
theorem cellD_short {xs : List Int} (h : xs.length < 15) : cellD xs = none := by
  unfold cellD
  split
  · simp at h; omega
  · rfl
theorem sl_cpy {w : World} {ao : Option Addr} {n cap : Nat} {xs : List Value} (h : Sl w 1 (.slice ao n cap) n xs) (hn : 0 < n) : ∃ ad, ao = some ad ∧ ∀ j v, xs[j]? = some v → w.cell? (ad.add j) = some v := by
  obtain ⟨b, off, cap', e, _, _, hc⟩ := h.open hn
  cases e
  exact ⟨_, rfl, sl_src hc⟩
set_option maxRecDepth 100000 in
set_option maxHeartbeats 4000000 in
theorem rcell_any (w W : World) (g : Nat) (xs : List Int) (h : Rdr w W g xs) :
    Calls Tryd.prog 82 #[.pointer (some ⟨g, 0, none⟩)] W fun e w' => (cellD xs = none ∧ e = .panicked wrongE ∧ Below g W w') ∨
      (∃ d r v, cellD xs = some (d, r) ∧ e = .returned (d.c.v v) ∧ w'.ownsRow W.heap.size 3 1 v d.out.length (ints d.out) ∧ Rdr w w' g r ∧ One g W w') := by
  have hgl : g < W.heap.size := by obtain ⟨u, hr, _⟩ := h.r; exact hr.lt
  go_enter Tryd.func82, Tryd.ntmps82
  go_upto_region 2 with fail
  have HC : Hid (Rc w W g celZ (.slice none 0 0) xs ((W.alloc (.cells (celZ.cs (.slice none 0 0)) 62)).alloc (.cells (celZ.cs (.slice none 0 0)) 62))) := Lib.hid ⟨Rw.new _ _ _ (by simp), (Rw.new _ _ _ rfl).alloc _, h.up (((Below.refl _ _).alloc (Nat.le_refl _) _).alloc (by simp) _), One.up (((Below.refl _ _).alloc (Nat.le_refl _) _).alloc (by simp) _) (by omega), hgl⟩
  change Code.wp _ _ _ _ ((W.alloc (.cells (celZ.cs (.slice none 0 0)) 62)).alloc (.cells (celZ.cs (.slice none 0 0)) 62))
  generalize (W.alloc (.cells (celZ.cs (.slice none 0 0)) 62)).alloc (.cells (celZ.cs (.slice none 0 0)) 62) = X at HC ⊢
  clear h
  go_wp2_with fail
  refine (number_or w _ g _ HC.out.r).mono ?_
  rintro e w1 (⟨a, q, rfl, rfl, hr, ho⟩ | ⟨rfl, rfl, hb⟩)
  rotate_left
  · exact post_panic rfl (.inl ⟨rfl, rfl, HC.out.n.b.trans (hb.mono (by have := HC.out.n.b.size; have := HC.out.lt; omega))⟩)
  have HC1 := Lib.hid (HC.out.call hr ho)
  clear HC hr ho
  have k0 := HC1.out.c.cell (j := 0) (v := .int .i64 0) rfl
  have f0 := HC1.out.c.fr 0
  go_upto_region 3 with fail
  have HC : Hid (Rc w W g { celZ with at_ := a } (.slice none 0 0) q (w1.setCell ⟨W.heap.size + 1, 0, none⟩ (.int .i64 a))) := Lib.hid (HC1.out.set 0 _ rfl)
  generalize w1.setCell ⟨W.heap.size + 1, 0, none⟩ (.int .i64 a) = w1x at HC ⊢
  clear k0 f0 HC1
  go_wp2
  refine region_still (S := fun _ => True) 4 (by kernel_rfl) trivial (fun hHeld => ?_)
  refine Still.takeBy (i := 0) [1] (v := ?v61) (by kernel_rfl) (by kernel_rfl) rfl (by kernel_rfl) (by kernel_rfl) (by kernel_rfl) (fun _ _ _ h => h) (Or.inl ⟨by rfl, ?y61⟩) hHeld ?r61
  case y61 => (intro w' hSw; (try dsimp only at hSw); go_simp; try with_reducible rfl)
  simp only [Act.put, List.getElem_toArray, List.getElem_cons_zero, List.getElem_cons_succ, List.setIfInBounds_toArray, List.set_cons_zero, List.set_cons_succ]
  refine Still.takeBy (i := 1) [] (v := ?v62) (by kernel_rfl) (by kernel_rfl) rfl (by kernel_rfl) (by kernel_rfl) (by kernel_rfl) (fun _ _ _ h => h) (Or.inl ⟨by rfl, ?y62⟩) hHeld ?r62
  case y62 => (intro w' hSw; (try dsimp only at hSw); go_simp; try with_reducible rfl)
  simp only [Act.put, List.getElem_toArray, List.getElem_cons_zero, List.getElem_cons_succ, List.setIfInBounds_toArray, List.set_cons_zero, List.set_cons_succ]
  refine Still.takeBy (i := 2) [3] (v := ?v63) (by kernel_rfl) (by kernel_rfl) rfl (by kernel_rfl) (by kernel_rfl) (by kernel_rfl) (fun _ _ _ h => h) (Or.inl ⟨by rfl, ?y63⟩) hHeld ?r63
  case y63 => (intro w' hSw; (try dsimp only at hSw); go_simp; try with_reducible rfl)
  simp only [Act.put, List.getElem_toArray, List.getElem_cons_zero, List.getElem_cons_succ, List.setIfInBounds_toArray, List.set_cons_zero, List.set_cons_succ]
  refine Still.all (rs := [3]) (by kernel_rfl) (by simp) (Still.one (i := 3) rfl rfl (fun K hK => ?_) (by simp))
  refine wp_call_or 99 _ _ rfl entTake #[.pointer (some ⟨g, 0, none⟩), .int .i64 4] (by first | with_reducible rfl | simp [Act.eval, Act.put]) wrongE ((take_or w _ g _ 4 (by omega) HC.out.drew.r).mono ?_)
  rintro e w2 (⟨v3, rfl, hm, hs, hr, ho⟩ | ⟨rfl, hm, hb⟩)
  rotate_left
  · refine .inr ⟨rfl, ?_⟩
    clear hK K
    simp only [Exit.inBlock, Exit.then]
    exact post_panic rfl (.inl ⟨cellD_short (by simp; omega), rfl, HC.out.drew.n.b.trans (hb.mono (by have := HC.out.drew.n.b.size; have := HC.out.lt; omega))⟩)
  obtain ⟨r0, r1, r2, r3, q1, rfl⟩ := fourF hm
  obtain ⟨va3, vc3, rfl⟩ := hs.form
  have HC1 : Hid (Rc w W g { celZ with at_ := a } (.slice none 0 0) q1 w2) := Lib.hid (HC.out.drew.call hr ho)
  have HS : Hid (Sl w2 1 (.slice va3 4 vc3) 4 (ints [r0, r1, r2, r3])) := Lib.hid (hs.up hr.b)
  clear hs hr ho HC hm
  refine .inl ⟨_, rfl, hK _ _ (fun _ => trivial) (fun _ => ?_)⟩
  clear hK K
  try simp only [Act.put, List.getElem_toArray, List.getElem_cons_zero, List.getElem_cons_succ, List.setIfInBounds_toArray, List.set_cons_zero, List.set_cons_succ]
  refine Still.all (rs := [4]) (by kernel_rfl) (by simp) (Still.one (i := 4) rfl rfl (fun K hK => ?_) (by simp))
  refine wp_of_step rfl (step_copy_splice rfl (.tmp 8) (.tmp 10) 31 31 rfl 3 Tryd.underlying31 sizeIntF (some ⟨W.heap.size + 1, 1, none⟩) va3 4 4 4 vc3 (by first | with_reducible rfl | simp [Act.eval, Act.put]) (by first | with_reducible rfl | simp [Act.eval, Act.put]) (W.heap.size + 1) 1 (({ celZ with at_ := a } : Cel).cs (.slice none 0 0)).toList 62 HC1.out.c (ints [r0, r1, r2, r3]) rfl (fun _ => ⟨rfl, sl_cpy HS.out (by omega)⟩) (by simp [ints, Cel.cs]) (ints_cell _) (W.heap.size + 1) w2 (Below.refl _ _) (Nat.le_refl _) ?_)
  intro w2x hg hb
  have HC : Hid (Rc w W g { celZ with at_ := a, r0 := r0, r1 := r1, r2 := r2, r3 := r3 } (.slice none 0 0) q1 w2x) := Lib.hid (HC1.out.put hb (by have e := hg.out; rw [splice_regs] at e; exact e))
  clear hg hb HC1 HS
  refine hK _ _ (fun h => absurd rfl h) (fun _ => ?_)
  clear hK K
  refine Still.over (by kernel_rfl) ?_ _
  clear hHeld
  go_wp2
  refine region_still (S := fun _ => True) 4 (by kernel_rfl) trivial (fun hHeld => ?_)
  refine Still.takeBy (i := 0) [1] (v := ?v81) (by kernel_rfl) (by kernel_rfl) rfl (by kernel_rfl) (by kernel_rfl) (by kernel_rfl) (fun _ _ _ h => h) (Or.inl ⟨by rfl, ?y81⟩) hHeld ?r81
  case y81 => (intro w' hSw; (try dsimp only at hSw); go_simp; try with_reducible rfl)
  simp only [Act.put, List.getElem_toArray, List.getElem_cons_zero, List.getElem_cons_succ, List.setIfInBounds_toArray, List.set_cons_zero, List.set_cons_succ]
  refine Still.takeBy (i := 1) [] (v := ?v82) (by kernel_rfl) (by kernel_rfl) rfl (by kernel_rfl) (by kernel_rfl) (by kernel_rfl) (fun _ _ _ h => h) (Or.inl ⟨by rfl, ?y82⟩) hHeld ?r82
  case y82 => (intro w' hSw; (try dsimp only at hSw); go_simp; try with_reducible rfl)
  simp only [Act.put, List.getElem_toArray, List.getElem_cons_zero, List.getElem_cons_succ, List.setIfInBounds_toArray, List.set_cons_zero, List.set_cons_succ]
  refine Still.takeBy (i := 2) [3] (v := ?v83) (by kernel_rfl) (by kernel_rfl) rfl (by kernel_rfl) (by kernel_rfl) (by kernel_rfl) (fun _ _ _ h => h) (Or.inl ⟨by rfl, ?y83⟩) hHeld ?r83
  case y83 => (intro w' hSw; (try dsimp only at hSw); go_simp; try with_reducible rfl)
  simp only [Act.put, List.getElem_toArray, List.getElem_cons_zero, List.getElem_cons_succ, List.setIfInBounds_toArray, List.set_cons_zero, List.set_cons_succ]
  refine Still.all (rs := [3]) (by kernel_rfl) (by simp) (Still.one (i := 3) rfl rfl (fun K hK => ?_) (by simp))
  refine wp_call_or 99 _ _ rfl entTake #[.pointer (some ⟨g, 0, none⟩), .int .i64 8] (by first | with_reducible rfl | simp [Act.eval, Act.put]) wrongE ((take_or w _ g _ 8 (by omega) HC.out.drew.r).mono ?_)
  rintro e w3 (⟨v3, rfl, hm, hs, hr, ho⟩ | ⟨rfl, hm, hb⟩)
  rotate_left
  · refine .inr ⟨rfl, ?_⟩
    clear hK K
    simp only [Exit.inBlock, Exit.then]
    exact post_panic rfl (.inl ⟨cellD_short (by simp; omega), rfl, HC.out.drew.n.b.trans (hb.mono (by have := HC.out.drew.n.b.size; have := HC.out.lt; omega))⟩)
  obtain ⟨m0, m1, m2, m3, m4, m5, m6, m7, q2, rfl⟩ := eightF hm
  obtain ⟨va3, vc3, rfl⟩ := hs.form
  have HC1 : Hid (Rc w W g { celZ with at_ := a, r0 := r0, r1 := r1, r2 := r2, r3 := r3 } (.slice none 0 0) q2 w3) := Lib.hid (HC.out.drew.call hr ho)
  have HS : Hid (Sl w3 1 (.slice va3 8 vc3) 8 (ints [m0, m1, m2, m3, m4, m5, m6, m7])) := Lib.hid (hs.up hr.b)
  clear hs hr ho HC hm
  refine .inl ⟨_, rfl, hK _ _ (fun _ => trivial) (fun _ => ?_)⟩
  clear hK K
  try simp only [Act.put, List.getElem_toArray, List.getElem_cons_zero, List.getElem_cons_succ, List.setIfInBounds_toArray, List.set_cons_zero, List.set_cons_succ]
  refine Still.all (rs := [4]) (by kernel_rfl) (by simp) (Still.one (i := 4) rfl rfl (fun K hK => ?_) (by simp))
  refine wp_of_step rfl (step_copy_splice rfl (.tmp 13) (.tmp 15) 31 31 rfl 3 Tryd.underlying31 sizeIntF (some ⟨W.heap.size + 1, 5, none⟩) va3 8 8 8 vc3 (by first | with_reducible rfl | simp [Act.eval, Act.put]) (by first | with_reducible rfl | simp [Act.eval, Act.put]) (W.heap.size + 1) 5 (({ celZ with at_ := a, r0 := r0, r1 := r1, r2 := r2, r3 := r3 } : Cel).cs (.slice none 0 0)).toList 62 HC1.out.c (ints [m0, m1, m2, m3, m4, m5, m6, m7]) rfl (fun _ => ⟨rfl, sl_cpy HS.out (by omega)⟩) (by simp [ints, Cel.cs]) (ints_cell _) (W.heap.size + 1) w3 (Below.refl _ _) (Nat.le_refl _) ?_)
  intro w3x hg hb
  have HC : Hid (Rc w W g { celZ with at_ := a, r0 := r0, r1 := r1, r2 := r2, r3 := r3, m0 := m0, m1 := m1, m2 := m2, m3 := m3, m4 := m4, m5 := m5, m6 := m6, m7 := m7 } (.slice none 0 0) q2 w3x) := Lib.hid (HC1.out.put hb (by have e := hg.out; rw [splice_mem] at e; exact e))
  clear hg hb HC1 HS
  refine hK _ _ (fun h => absurd rfl h) (fun _ => ?_)
  clear hK K
  refine Still.over (by kernel_rfl) ?_ _
  clear hHeld
  go_wp2_with fail
  refine (number_or w _ g _ HC.out.r).mono ?_
  rintro e w4 (⟨rd, q3, rfl, rfl, hr, ho⟩ | ⟨rfl, rfl, hb⟩)
  rotate_left
  · exact post_panic rfl (.inl ⟨rfl, rfl, HC.out.n.b.trans (hb.mono (by have := HC.out.n.b.size; have := HC.out.lt; omega))⟩)
  have HC1 := Lib.hid (HC.out.call hr ho)
  clear HC hr ho
  have k0 := HC1.out.c.cell (j := 13) (v := .int .i64 0) rfl
  have f0 := HC1.out.c.fr 13
  go_upto_region 6 with fail
  have HC : Hid (Rc w W g { celZ with at_ := a, r0 := r0, r1 := r1, r2 := r2, r3 := r3, m0 := m0, m1 := m1, m2 := m2, m3 := m3, m4 := m4, m5 := m5, m6 := m6, m7 := m7, read := rd } (.slice none 0 0) q3 (w4.setCell ⟨W.heap.size + 1, 13, none⟩ (.int .i64 rd))) := Lib.hid (HC1.out.set 13 _ rfl)
  generalize w4.setCell ⟨W.heap.size + 1, 13, none⟩ (.int .i64 rd) = w4x at HC ⊢
  clear k0 f0 HC1
  go_wp2_with fail
  refine (number_or w _ g _ HC.out.r).mono ?_
  rintro e w5 (⟨en, q4, rfl, rfl, hr, ho⟩ | ⟨rfl, rfl, hb⟩)
  rotate_left
  · exact post_panic rfl (.inl ⟨rfl, rfl, HC.out.n.b.trans (hb.mono (by have := HC.out.n.b.size; have := HC.out.lt; omega))⟩)
  have HC1 := Lib.hid (HC.out.call hr ho)
  clear HC hr ho
  have k0 := HC1.out.c.cell (j := 15) (v := .int .i64 0) rfl
  have f0 := HC1.out.c.fr 15
  go_upto_region 7 with fail
  have HC : Hid (Rc w W g { celZ with at_ := a, r0 := r0, r1 := r1, r2 := r2, r3 := r3, m0 := m0, m1 := m1, m2 := m2, m3 := m3, m4 := m4, m5 := m5, m6 := m6, m7 := m7, read := rd, en := en } (.slice none 0 0) q4 (w5.setCell ⟨W.heap.size + 1, 15, none⟩ (.int .i64 en))) := Lib.hid (HC1.out.set 15 _ rfl)
  generalize w5.setCell ⟨W.heap.size + 1, 15, none⟩ (.int .i64 en) = w5x at HC ⊢
  clear k0 f0 HC1
  go_wp2_with fail
  refine (list_any 16 (by omega) (by omega) w _ g _ HC.out.r).mono ?_
  rintro e w6 (⟨hd, rfl, hb⟩ | ⟨l, r, v, hd, rfl, hown, hr, ho⟩)
  · exact post_panic rfl (.inl ⟨by simp [cellD, hd], rfl, HC.out.n.b.trans (hb.mono (by omega))⟩)
  have HD : Hid (cellD (a :: r0 :: r1 :: r2 :: r3 :: m0 :: m1 :: m2 :: m3 :: m4 :: m5 :: m6 :: m7 :: rd :: en :: q4) = some (⟨⟨a, r0, r1, r2, r3, m0, m1, m2, m3, m4, m5, m6, m7, rd, en⟩, l⟩, r)) := Lib.hid (by simp [cellD, hd])
  have hv := own_block hown
  have z5 := HC.out.n.b.size
  have z6 : W.heap.size + 1 < w5x.heap.size := HC.out.c.lt
  obtain ⟨ao, cap, rfl⟩ := own_form hown
  have HC1 : Hid (Rc w W g ⟨a, r0, r1, r2, r3, m0, m1, m2, m3, m4, m5, m6, m7, rd, en⟩ (.slice none 0 0) r w6) := Lib.hid (HC.out.call hr ho)
  have HO := Lib.hid hown
  have k0 := HC1.out.c.cell (j := 14) (v := .slice none 0 0) rfl
  have f0 := HC1.out.c.fr 14
  clear HC hr ho hd hown
  go_upto_region 8 with fail
  have HC : Hid (Rc w W g ⟨a, r0, r1, r2, r3, m0, m1, m2, m3, m4, m5, m6, m7, rd, en⟩ (.slice ao l.length cap) r (w6.setCell ⟨W.heap.size + 1, 14, none⟩ (.slice ao l.length cap))) := Lib.hid (HC1.out.set 14 _ rfl)
  have HO6 := Lib.hid (own_set (a := ⟨W.heap.size + 1, 14, none⟩) HO.out (.slice ao l.length cap) (fun e => by have := hv _ e; simp at this; omega))
  generalize w6.setCell ⟨W.heap.size + 1, 14, none⟩ (.slice ao l.length cap) = w7 at HC HO6 ⊢
  clear k0 f0 HC1 HO
  have hgl2 := HC.out.lt
  go_wp2_with (first | (refine wpList_load_row rfl 62 (.tmp 3) rfl (W.heap.size + 1) rfl 62 (Cel.cs ⟨a, r0, r1, r2, r3, m0, m1, m2, m3, m4, m5, m6, m7, rd, en⟩ (.slice ao l.length cap)) (0, 0) _ HC.out.c Tryd.underlying62 rfl sizeCell ?_) | (refine wpList_store_row rfl 62 (.tmp 2) (.tmp 26) rfl W.heap.size (Cel.cs ⟨a, r0, r1, r2, r3, m0, m1, m2, m3, m4, m5, m6, m7, rd, en⟩ (.slice ao l.length cap)) rfl rfl 62 _ HC.out.z sizeCell rfl (Cel.cs_one _ _ rfl) ?_))
  refine bodyPost_ret (results_cell_row Tryd.results82 _ _ W.heap.size 62 (Cel.cs ⟨a, r0, r1, r2, r3, m0, m1, m2, m3, m4, m5, m6, m7, rd, en⟩ (.slice ao l.length cap)) (0, 0) _ rfl (HC.out.z.row _) Tryd.underlying62 rfl sizeCell) rfl (.inr ⟨_, r, _, HD.out, rfl, ?_, HC.out.r.via (below_row (Below.refl _ _) (Nat.le_refl _) _) hgl2, HC.out.n.via (below_row (Below.refl _ _) (Nat.le_refl _) _) (Nat.le_refl _) hgl2⟩)
  exact own_low (own_row HO6.out _ (fun e => by have := hv _ e; omega)) (by omega)
end Go.Proofs.YtnnnljfdjdehaaaDoor

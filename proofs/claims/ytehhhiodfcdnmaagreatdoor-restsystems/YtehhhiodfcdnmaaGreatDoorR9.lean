/- A runner: a cell that does instructions. -/
import Derived.Test.YtehhhiodfcdnmaaGreatDoorR8
import Derived.BigRegion
import Derived.Deep.QuietTactic
import Derived.BigQuiet
import Derived.Test.YtehhhiodfcdnmaaGreatDoorR0
namespace Go.Proofs.YtehhhiodfcdnmaaGreatDoor
set_option linter.unusedSimpArgs false
set_option linter.unusedVariables false
set_option maxRecDepth 100000
set_option maxHeartbeats 8000000
open Go.RowKit Go.Sort
structure Wnt where
 k : Int
 ch : Int
 reg : Int
 flag : Int
 val : Int
def Wnt.v (x : Wnt) : Value := wantV x.k x.ch x.reg x.flag x.val
def wntZ : Wnt := ⟨0, 0, 0, 0, 0⟩
def rcs (c : Cel) (o i : Value) (x : Wnt) : Array Value := #[.int .i64 c.at_, .int .i64 c.r0, .int .i64 c.r1, .int .i64 c.r2, .int .i64 c.r3, .int .i64 c.m0, .int .i64 c.m1, .int .i64 c.m2, .int .i64 c.m3, .int .i64 c.m4, .int .i64 c.m5, .int .i64 c.m6, .int .i64 c.m7, .int .i64 c.read, o, .int .i64 c.en, i, .int .i64 x.k, .int .i64 x.ch, .int .i64 x.reg, .int .i64 x.flag, .int .i64 x.val]
theorem rcs_reg (c : Cel) (o i : Value) (x : Wnt) {k : Int} (h0 : 0 ≤ k) (h1 : k < 4) : (rcs c o i x)[1 + k.toNat]? = some (.int .i64 (c.reg k)) := by
 rcases lt4 h0 h1 with rfl | rfl | rfl | rfl <;> rfl
theorem rcs_setReg (c : Cel) (o i : Value) (x : Wnt) {k : Int} (h0 : 0 ≤ k) (h1 : k < 4) (v : Int) : (rcs c o i x).setIfInBounds (1 + k.toNat) (.int .i64 v) = rcs (c.setReg k v) o i x := by
 rcases lt4 h0 h1 with rfl | rfl | rfl | rfl <;> rfl
theorem rcs_mem (c : Cel) (o i : Value) (x : Wnt) {k : Int} (h0 : 0 ≤ k) (h1 : k < 8) : (rcs c o i x)[5 + k.toNat]? = some (.int .i64 (c.memo k)) := by
 rcases lt8 h0 h1 with rfl | rfl | rfl | rfl | rfl | rfl | rfl | rfl <;> rfl
theorem rcs_setMem (c : Cel) (o i : Value) (x : Wnt) {k : Int} (h0 : 0 ≤ k) (h1 : k < 8) (v : Int) : (rcs c o i x).setIfInBounds (5 + k.toNat) (.int .i64 v) = rcs (c.setMem k v) o i x := by
 rcases lt8 h0 h1 with rfl | rfl | rfl | rfl | rfl | rfl | rfl | rfl <;> rfl
structure Rn (B : Nat) (w W : World) (g base : Nat) (c : Cel) (o i : Value) (x : Wnt) (xs : List Int) : Prop where
 r : Rw W g 185 (rcs c o i x)
 d : Below B w W
 own : W.ownsRow base 3 1 o xs.length (ints xs)
 g0 : B ≤ g
 b0 : B ≤ base
 no : ∀ k, o.ownBlock = some k → k ≠ g
 bs : base ≤ W.heap.size
theorem Rn.reg {B : Nat} {w W : World} {g base : Nat} {c : Cel} {o i : Value} {x : Wnt} {xs : List Int} (h : Rn B w W g base c o i x xs) {k : Int} (h0 : 0 ≤ k) (h1 : k < 4) (v : Int) :
  Rn B w (W.setCell ⟨g, 1 + k.toNat, none⟩ (.int .i64 v)) g base (c.setReg k v) o i x xs :=
 ⟨by rw [← rcs_setReg c o i x h0 h1 v]; exact h.r.set _ _, h.d.setCell h.g0 _, own_set h.own _ (fun e => h.no _ e rfl), h.g0, h.b0, h.no, by rw [size_set]; exact h.bs⟩
theorem Rn.mem {B : Nat} {w W : World} {g base : Nat} {c : Cel} {o i : Value} {x : Wnt} {xs : List Int} (h : Rn B w W g base c o i x xs) {k : Int} (h0 : 0 ≤ k) (h1 : k < 8) (v : Int) :
  Rn B w (W.setCell ⟨g, 5 + k.toNat, none⟩ (.int .i64 v)) g base (c.setMem k v) o i x xs :=
 ⟨by rw [← rcs_setMem c o i x h0 h1 v]; exact h.r.set _ _, h.d.setCell h.g0 _, own_set h.own _ (fun e => h.no _ e rfl), h.g0, h.b0, h.no, by rw [size_set]; exact h.bs⟩
theorem Rn.setAt {B : Nat} {w W : World} {g base : Nat} {c : Cel} {o i : Value} {x : Wnt} {xs : List Int} (h : Rn B w W g base c o i x xs) (v : Int) :
  Rn B w (W.setCell ⟨g, 0, none⟩ (.int .i64 v)) g base { c with at_ := v } o i x xs :=
 ⟨h.r.set _ _, h.d.setCell h.g0 _, own_set h.own _ (fun e => h.no _ e rfl), h.g0, h.b0, h.no, by rw [size_set]; exact h.bs⟩
theorem Rn.setEn {B : Nat} {w W : World} {g base : Nat} {c : Cel} {o i : Value} {x : Wnt} {xs : List Int} (h : Rn B w W g base c o i x xs) (v : Int) :
  Rn B w (W.setCell ⟨g, 15, none⟩ (.int .i64 v)) g base { c with en := v } o i x xs :=
 ⟨h.r.set _ _, h.d.setCell h.g0 _, own_set h.own _ (fun e => h.no _ e rfl), h.g0, h.b0, h.no, by rw [size_set]; exact h.bs⟩
theorem Rn.setRead {B : Nat} {w W : World} {g base : Nat} {c : Cel} {o i : Value} {x : Wnt} {xs : List Int} (h : Rn B w W g base c o i x xs) (v : Int) :
  Rn B w (W.setCell ⟨g, 13, none⟩ (.int .i64 v)) g base { c with read := v } o i x xs :=
 ⟨h.r.set _ _, h.d.setCell h.g0 _, own_set h.own _ (fun e => h.no _ e rfl), h.g0, h.b0, h.no, by rw [size_set]; exact h.bs⟩
theorem Rn.drew {B : Nat} {w W : World} {g base : Nat} {c : Cel} {o i : Value} {x : Wnt} {xs : List Int} (h : Rn B w W g base c o i x xs) : Rn B w W.drew g base c o i x xs :=
 ⟨h.r, h.d.drew, h.own, h.g0, h.b0, h.no, h.bs⟩
theorem Rn.lt {B : Nat} {w W : World} {g base : Nat} {c : Cel} {o i : Value} {x : Wnt} {xs : List Int} (h : Rn B w W g base c o i x xs) : g < W.heap.size := h.r.lt
theorem Rn.alloc {B : Nat} {w W : World} {g base : Nat} {c : Cel} {o i : Value} {x : Wnt} {xs : List Int} (h : Rn B w W g base c o i x xs) (ob : Obj) : Rn B w (W.alloc ob) g base c o i x xs :=
 ⟨h.r.alloc _, h.d.alloc (Nat.le_of_lt (Nat.lt_of_le_of_lt h.g0 h.lt)) _, own_up h.own ((Below.refl W.heap.size W).alloc (Nat.le_refl _) _) (own_lt h.own), h.g0, h.b0, h.no, by have := h.bs; simp; omega⟩
theorem Rn.wnt {B : Nat} {w W : World} {g base : Nat} {c : Cel} {o i : Value} {x : Wnt} {xs : List Int} (h : Rn B w W g base c o i x xs) (k ch reg flag val : Int) :
  Rn B w (((((W.setCell ⟨g, 17, none⟩ (.int .i64 k)).setCell ⟨g, 18, none⟩ (.int .i64 ch)).setCell ⟨g, 19, none⟩ (.int .i64 reg)).setCell ⟨g, 20, none⟩ (.int .i64 flag)).setCell ⟨g, 21, none⟩ (.int .i64 val)) g base c o i ⟨k, ch, reg, flag, val⟩ xs :=
 ⟨((((h.r.set _ _).set _ _).set _ _).set _ _).set _ _, ((((h.d.setCell h.g0 _).setCell h.g0 _).setCell h.g0 _).setCell h.g0 _).setCell h.g0 _,
  own_set (own_set (own_set (own_set (own_set h.own _ (fun e => h.no _ e rfl)) _ (fun e => h.no _ e rfl)) _ (fun e => h.no _ e rfl)) _ (fun e => h.no _ e rfl)) _ (fun e => h.no _ e rfl), h.g0, h.b0, h.no, by simp only [size_set]; exact h.bs⟩
theorem Rn.drewN {B : Nat} {w W : World} {g base : Nat} {c : Cel} {o i : Value} {x : Wnt} {xs : List Int} (h : Rn B w W g base c o i x xs) (n : Nat) : Rn B w (W.drewN n) g base c o i x xs :=
 ⟨h.r, ⟨h.d.os, h.d.tape, h.d.output, h.d.size, h.d.block⟩, h.own, h.g0, h.b0, h.no, h.bs⟩
def faultE : List PanicEntry := [{ v := .iface 9 (.string ⟨#[102, 97, 117, 108, 116]⟩), recovered := false }]
theorem post_panic {fn : Func} {R : Ending → World → Prop} {ch : List PanicEntry} {a : Act} {w : World} (hd : a.defers = []) (h : R (.panicked ch) w) : bodyPost Tryz.prog fn R (.panic ch) a w := by
 unfold bodyPost
 simp_all
theorem word_ok (W : World) (g : Nat) (b v : Int) (hb0 : 0 ≤ b) (hb1 : b < 4) (h0 : 0 ≤ v) (h1 : v < 8) (hc : W.cell? ⟨g, 1 + b.toNat, none⟩ = some (.int .i64 v)) :
  Calls Tryz.prog 173 #[.pointer (some ⟨g, 0, none⟩), .int .i64 b] W fun e W' => e = .returned (.int .i64 v) ∧ W' = W := by
 go_enter Tryz.func173, Tryz.ntmps173
 go_wp2
 go_ret
 exact ⟨rfl, rfl⟩
theorem word_bad (W : World) (g : Nat) (b v : Int) (hb0 : 0 ≤ b) (hb1 : b < 4) (h0 : v < 0 ∨ 8 ≤ v) (hc : W.cell? ⟨g, 1 + b.toNat, none⟩ = some (.int .i64 v)) :
  Calls Tryz.prog 173 #[.pointer (some ⟨g, 0, none⟩), .int .i64 b] W fun e W' => e = .panicked faultE ∧ W' = W := by
 by_cases hn : v < 0
 ·go_enter Tryz.func173, Tryz.ntmps173
  go_wp2
  exact post_panic rfl ⟨rfl, rfl⟩
 ·have h2 : 8 ≤ v := by omega
  clear h0
  go_enter Tryz.func173, Tryz.ntmps173
  go_wp2
  exact post_panic rfl ⟨rfl, rfl⟩
theorem codes_at {W : World} {v : Value} {l : List Ins} (h : Sl W 4 v l.length (codeC l)) (k : Nat) (hk : k < l.length) : ∃ b off cap, v = .slice (some ⟨b, off, none⟩) l.length cap ∧ b < W.heap.size ∧ W.cell? ⟨b, off + k * 4, none⟩ = some (.int .i64 l[k].op) ∧ W.cell? ⟨b, off + k * 4 + 1, none⟩ = some (.int .i64 l[k].a) ∧ W.cell? ⟨b, off + k * 4 + 2, none⟩ = some (.int .i64 l[k].b) ∧ W.cell? ⟨b, off + k * 4 + 3, none⟩ = some (.int .i64 l[k].n) := by
 obtain ⟨b, off, cap, rfl, h1, h2, h3⟩ := h.open om
 exact ⟨b, off, cap, rfl, h2, code_cells h3 k hk⟩
theorem fetch_ok (W : World) (g : Nat) (l : List Ins) (v : Value) (n : Nat) (hn : n < l.length) (hc : W.cell? ⟨g, 0, none⟩ = some (.int .i64 n)) (hg : g < W.heap.size) (hS : Sl W 4 v l.length (codeC l)) :
  Calls Tryz.prog 164 #[.pointer (some ⟨g, 0, none⟩), v] W fun e W' => e = .returned l[n].v ∧ Below W.heap.size W W' := by
 obtain ⟨b, off, cap, rfl, hb, c0, c1, c2, c3⟩ := codes_at hS n hn
 have h1 : (n : Int) < l.length := by omega
 have hg' : g ≠ W.heap.size := Nat.ne_of_lt hg
 have hb' : b ≠ W.heap.size := Nat.ne_of_lt hb
 clear hS
 go_enter Tryz.func164, Tryz.ntmps164
 go_wp2
 refine bodyPost_ret (v := l[n].v) ?_ rfl ⟨rfl, up0⟩
 unfold Ins.v
 simp [results, Tryz.results164, go_sem]
theorem fetch_bad (W : World) (g : Nat) (ao : Option Addr) (m cap : Nat) (n : Int) (hn : (m : Int) ≤ n) (hc : W.cell? ⟨g, 0, none⟩ = some (.int .i64 n)) (hg : g < W.heap.size) :
  Calls Tryz.prog 164 #[.pointer (some ⟨g, 0, none⟩), .slice ao m cap] W fun e W' => e = .panicked faultE ∧ Below W.heap.size W W' := by
 have hg' : g ≠ W.heap.size := Nat.ne_of_lt hg
 go_enter Tryz.func164, Tryz.ntmps164
 go_wp2
 exact post_panic rfl ⟨rfl, up0⟩
def takeI (inn : List Int) (r : Int) : Int := if r < inn.length then inn.getD r.toNat 0 else 0
def takeC (c : Cel) (n : Nat) : Cel := if c.read < n then { c with read := c.read + 1 } else c
def tellL (xs : List Int) (n : Int) : List Int := if xs.length < 16 then xs ++ [n] else xs
theorem take_any (B : Nat) (w V : World) (g base : Nat) (c : Cel) (o i : Value) (x : Wnt) (xs inn : List Int) (h : Rn B w V g base c o i x xs) (hS : Sl V 1 i inn.length (ints inn)) (hr0 : 0 ≤ c.read) (hr1 : c.read ≤ 12) :
  Calls Tryz.prog 174 #[.pointer (some ⟨g, 0, none⟩)] V fun e V' => e = .returned (.int .i64 (takeI inn c.read)) ∧ Rn B w V' g base (takeC c inn.length) o i x xs ∧ ∀ k, k ≠ g → V'.heap[k]? = V.heap[k]? := by
 have k13 : V.cell? ⟨g, 13, none⟩ = some (.int .i64 c.read) := h.r.cell rfl
 have k16 : V.cell? ⟨g, 16, none⟩ = some i := h.r.cell rfl
 have f13 : V.frozen? ⟨g, 13, none⟩ = false := h.r.fr _
 by_cases hlt : c.read < inn.length
 ·obtain ⟨r, hr⟩ : ∃ r : Nat, c.read = r := ⟨c.read.toNat, by omega⟩
  have hr2 : r < inn.length := by omega
  obtain ⟨b, off, cap, rfl, hcap, hb, hcc⟩ := hS.open om
  have kr := hcc r _ (ints_at inn r hr2)
  have e1 : takeI inn c.read = inn[r] := by simp [takeI, hr, hr2]
  have e2 : takeC c inn.length = { c with read := c.read + 1 } := by simp [takeC, hlt]
  rw [e1, e2]
  rw [hr] at k13 hlt ⊢
  have hrr : (r : Int) ≤ 12 := by omega
  have hr0' : (0 : Int) ≤ r := by omega
  have H := hd h
  clear h hS hcc e1 e2 hr hr0 hr1
  go_enter Tryz.func174, Tryz.ntmps174
  go_wp2
  go_quiet (fail)
  go_wp2
  go_quiet (fail)
  go_wp2
  go_ret
  exact ⟨rfl, (H.out.drewN _).setRead _, fun k hk => heap_setCell_other _ _ _ _ hk⟩
 ·obtain ⟨ao, cap, rfl⟩ := hS.form
  have e1 : takeI inn c.read = 0 := by simp [takeI, hlt]
  have e2 : takeC c inn.length = c := by simp [takeC, hlt]
  rw [e1, e2]
  have H := hd h
  clear h hS e1 e2
  go_enter Tryz.func174, Tryz.ntmps174
  go_wp2
  go_quiet (fail)
  go_wp2
  go_ret
  exact ⟨rfl, H.out.drewN _, fun k hk => rfl⟩
theorem tell_any (B : Nat) (w V : World) (g base : Nat) (c : Cel) (o i : Value) (x : Wnt) (xs : List Int) (n : Int) (h : Rn B w V g base c o i x xs) (hx : xs.length ≤ 16) :
  Calls Tryz.prog 175 #[.pointer (some ⟨g, 0, none⟩), .int .i64 n] V fun e V' => e = .returned (.tuple #[]) ∧ ∃ o', Rn B w V' g base c o' i x (tellL xs n) := by
 obtain ⟨i0, hi, hz0, hz1, hz2⟩ := info_parts infoInt
 have k14 : V.cell? ⟨g, 14, none⟩ = some o := h.r.cell rfl
 have hg : g < V.heap.size := h.lt
 have hg' : g ≠ V.heap.size := Nat.ne_of_lt hg
 obtain ⟨ao, cap, rfl⟩ := own_form h.own
 have H := hd h
 clear h
 by_cases hlt : xs.length < 16
 ·have hli : (xs.length : Int) < 16 := by omega
  go_enter Tryz.func175, Tryz.ntmps175
  go_wp2_with (at_builtin; refine wpList_append_sl rfl (.tmp 16) (.tmp 18) 33 rfl base 3 i0 _ 1 8 Tryz.underlying33 hi hz0 hz1 hz2 rfl (by decide) _ xs.length (ints xs) rfl (own_up H.out.own ((Below.refl V.heap.size V).alloc (Nat.le_refl _) _) (own_lt H.out.own)) _ 1 (ints [n]) rfl (sl_one_at V n 3 1 V.heap.size rfl (Nat.le_refl _)) (ints_cell _) (by unfold maxLen; omega) om (by have := H.out.bs; simp; omega) ?_)
  intro v' W ho hgr hat
  have hno := H.out.no
  have hr1 : Rw W g 185 (rcs c (.slice ao xs.length cap) i x) := (hgr.block g so (fun e => hno g e.symm rfl)).trans (H.out.r.alloc _)
  have hD : Below B w W := (H.out.alloc (.cells #[.int .i64 n] 3)).d.grown hgr (by have := H.out.g0; simp; omega) (fun k hk => Nat.le_trans H.out.b0 (own_block H.out.own k hk))
  have hgl : g < V.heap.size := hg
  have hno' : ∀ k, v'.ownBlock = some k → k ≠ g := fun k e => by
   rcases hat with h1 | h1
   ·exact hno k (h1 ▸ e)
   ·rw [h1] at e; simp at e; omega
  have hbs : base ≤ W.heap.size := by have := hgr.size; have := H.out.bs; simp at *; omega
  have h1 := hr1.cell (j := 14) (v := .slice ao xs.length cap) rfl
  have h2 := hr1.fr 14
  obtain ⟨ao', cap', rfl⟩ := own_form ho
  have e : tellL xs n = xs ++ [n] := by simp [tellL, hlt]
  have HR : Hid (Rn B w (W.setCell ⟨g, 14, none⟩ (.slice ao' (xs.length + 1) cap')) g base c (.slice ao' (xs.length + 1) cap') i x (xs ++ [n])) :=
   ⟨hr1.set _ _, hD.setCell H.out.g0 _, own_set (by simpa [ints] using ho) _ (fun e => hno' _ e rfl), H.out.g0, H.out.b0, hno', by rw [size_set]; exact hbs⟩
  have HE := hd e
  clear e hno hr1 hD hno' hbs ho hgr hat H
  go_wp2
  go_end0
  exact ⟨rfl, _, by rw [HE.out]; exact HR.out⟩
 ·have hli : ¬ (xs.length : Int) < 16 := by omega
  have e : tellL xs n = xs := by simp [tellL, hlt]
  rw [e]
  go_enter Tryz.func175, Tryz.ntmps175
  go_wp2
  go_end0
  exact ⟨rfl, _, H.out⟩
theorem do1 (B : Nat) (w W : World) (g base : Nat) (c : Cel) (o i : Value) (x : Wnt) (xs : List Int) (a b n : Int) (ha0 : 0 ≤ a) (ha1 : a < 4) (hb0 : 0 ≤ b) (hb1 : b < 4) (hat0 : 0 ≤ c.at_) (hat1 : c.at_ ≤ 20) (h : Rn B w W g base c o i x xs) :
  Calls Tryz.prog 163 #[.pointer (some ⟨g, 0, none⟩), .agg #[.int .i64 1, .int .i64 a, .int .i64 b, .int .i64 n]] W fun e W' => e = .returned (.tuple #[]) ∧ Rn B w W' g base { c.setReg a (n) with at_ := c.at_ + 1 } o i x xs := by
 have hg : g < W.heap.size := h.lt
 have hg' : g ≠ W.heap.size := Nat.ne_of_lt hg
 have k0 : W.cell? ⟨g, 0, none⟩ = some (.int .i64 c.at_) := h.r.cell rfl
 have ka : W.cell? ⟨g, 1 + a.toNat, none⟩ = some (.int .i64 (c.reg a)) := h.r.cell (rcs_reg _ _ _ _ ha0 ha1)
 have kb : W.cell? ⟨g, 1 + b.toNat, none⟩ = some (.int .i64 (c.reg b)) := h.r.cell (rcs_reg _ _ _ _ hb0 hb1)
 have fa : W.frozen? ⟨g, 1 + a.toNat, none⟩ = false := h.r.fr _
 have H := hd h
 clear h
 go_enter Tryz.func163, Tryz.ntmps163
 go_wp2
 go_region
 all_goals
  have H1 := hd (((H.out.reg ha0 ha1 (n)).alloc (.cells #[.int .i64 1, .int .i64 a, .int .i64 b, .int .i64 n] 83)).drew)
  clear H k0 ka kb fa
  generalize World.drew _ = W1 at H1 ⊢
  have q0 : W1.cell? ⟨g, 0, none⟩ = some (.int .i64 _) := H1.out.r.cell rfl
  have q1 : W1.frozen? ⟨g, 0, none⟩ = false := H1.out.r.fr _
  go_wp2
  go_end0
  exact ⟨rfl, H1.out.setAt _⟩
theorem do2 (B : Nat) (w W : World) (g base : Nat) (c : Cel) (o i : Value) (x : Wnt) (xs : List Int) (a b n : Int) (ha0 : 0 ≤ a) (ha1 : a < 4) (hb0 : 0 ≤ b) (hb1 : b < 4) (hat0 : 0 ≤ c.at_) (hat1 : c.at_ ≤ 20) (h : Rn B w W g base c o i x xs) :
  Calls Tryz.prog 163 #[.pointer (some ⟨g, 0, none⟩), .agg #[.int .i64 2, .int .i64 a, .int .i64 b, .int .i64 n]] W fun e W' => e = .returned (.tuple #[]) ∧ Rn B w W' g base { c.setReg a (c.reg b) with at_ := c.at_ + 1 } o i x xs := by
 have hg : g < W.heap.size := h.lt
 have hg' : g ≠ W.heap.size := Nat.ne_of_lt hg
 have k0 : W.cell? ⟨g, 0, none⟩ = some (.int .i64 c.at_) := h.r.cell rfl
 have ka : W.cell? ⟨g, 1 + a.toNat, none⟩ = some (.int .i64 (c.reg a)) := h.r.cell (rcs_reg _ _ _ _ ha0 ha1)
 have kb : W.cell? ⟨g, 1 + b.toNat, none⟩ = some (.int .i64 (c.reg b)) := h.r.cell (rcs_reg _ _ _ _ hb0 hb1)
 have fa : W.frozen? ⟨g, 1 + a.toNat, none⟩ = false := h.r.fr _
 have H := hd h
 clear h
 go_enter Tryz.func163, Tryz.ntmps163
 go_wp2
 go_region
 all_goals
  have H1 := hd (((H.out.reg ha0 ha1 (c.reg b)).alloc (.cells #[.int .i64 2, .int .i64 a, .int .i64 b, .int .i64 n] 83)).drew)
  clear H k0 ka kb fa
  generalize World.drew _ = W1 at H1 ⊢
  have q0 : W1.cell? ⟨g, 0, none⟩ = some (.int .i64 _) := H1.out.r.cell rfl
  have q1 : W1.frozen? ⟨g, 0, none⟩ = false := H1.out.r.fr _
  go_wp2
  go_end0
  exact ⟨rfl, H1.out.setAt _⟩
theorem do3 (B : Nat) (w W : World) (g base : Nat) (c : Cel) (o i : Value) (x : Wnt) (xs : List Int) (a b n : Int) (ha0 : 0 ≤ a) (ha1 : a < 4) (hb0 : 0 ≤ b) (hb1 : b < 4) (hat0 : 0 ≤ c.at_) (hat1 : c.at_ ≤ 20) (h : Rn B w W g base c o i x xs) :
  Calls Tryz.prog 163 #[.pointer (some ⟨g, 0, none⟩), .agg #[.int .i64 3, .int .i64 a, .int .i64 b, .int .i64 n]] W fun e W' => e = .returned (.tuple #[]) ∧ Rn B w W' g base { c.setReg a (wrap64 (c.reg a + c.reg b)) with at_ := c.at_ + 1 } o i x xs := by
 have hg : g < W.heap.size := h.lt
 have hg' : g ≠ W.heap.size := Nat.ne_of_lt hg
 have k0 : W.cell? ⟨g, 0, none⟩ = some (.int .i64 c.at_) := h.r.cell rfl
 have ka : W.cell? ⟨g, 1 + a.toNat, none⟩ = some (.int .i64 (c.reg a)) := h.r.cell (rcs_reg _ _ _ _ ha0 ha1)
 have kb : W.cell? ⟨g, 1 + b.toNat, none⟩ = some (.int .i64 (c.reg b)) := h.r.cell (rcs_reg _ _ _ _ hb0 hb1)
 have fa : W.frozen? ⟨g, 1 + a.toNat, none⟩ = false := h.r.fr _
 have H := hd h
 clear h
 go_enter Tryz.func163, Tryz.ntmps163
 go_wp2
 go_region
 all_goals
  have H1 := hd (((H.out.reg ha0 ha1 (wrap64 (c.reg a + c.reg b))).alloc (.cells #[.int .i64 3, .int .i64 a, .int .i64 b, .int .i64 n] 83)).drew)
  clear H k0 ka kb fa
  generalize World.drew _ = W1 at H1 ⊢
  have q0 : W1.cell? ⟨g, 0, none⟩ = some (.int .i64 _) := H1.out.r.cell rfl
  have q1 : W1.frozen? ⟨g, 0, none⟩ = false := H1.out.r.fr _
  go_wp2
  go_end0
  exact ⟨rfl, H1.out.setAt _⟩
theorem do4 (B : Nat) (w W : World) (g base : Nat) (c : Cel) (o i : Value) (x : Wnt) (xs : List Int) (a b n : Int) (ha0 : 0 ≤ a) (ha1 : a < 4) (hb0 : 0 ≤ b) (hb1 : b < 4) (hat0 : 0 ≤ c.at_) (hat1 : c.at_ ≤ 20) (h : Rn B w W g base c o i x xs) :
  Calls Tryz.prog 163 #[.pointer (some ⟨g, 0, none⟩), .agg #[.int .i64 4, .int .i64 a, .int .i64 b, .int .i64 n]] W fun e W' => e = .returned (.tuple #[]) ∧ Rn B w W' g base { c.setReg a (wrap64 (c.reg a - c.reg b)) with at_ := c.at_ + 1 } o i x xs := by
 have hg : g < W.heap.size := h.lt
 have hg' : g ≠ W.heap.size := Nat.ne_of_lt hg
 have k0 : W.cell? ⟨g, 0, none⟩ = some (.int .i64 c.at_) := h.r.cell rfl
 have ka : W.cell? ⟨g, 1 + a.toNat, none⟩ = some (.int .i64 (c.reg a)) := h.r.cell (rcs_reg _ _ _ _ ha0 ha1)
 have kb : W.cell? ⟨g, 1 + b.toNat, none⟩ = some (.int .i64 (c.reg b)) := h.r.cell (rcs_reg _ _ _ _ hb0 hb1)
 have fa : W.frozen? ⟨g, 1 + a.toNat, none⟩ = false := h.r.fr _
 have H := hd h
 clear h
 go_enter Tryz.func163, Tryz.ntmps163
 go_wp2
 go_region
 all_goals
  have H1 := hd (((H.out.reg ha0 ha1 (wrap64 (c.reg a - c.reg b))).alloc (.cells #[.int .i64 4, .int .i64 a, .int .i64 b, .int .i64 n] 83)).drew)
  clear H k0 ka kb fa
  generalize World.drew _ = W1 at H1 ⊢
  have q0 : W1.cell? ⟨g, 0, none⟩ = some (.int .i64 _) := H1.out.r.cell rfl
  have q1 : W1.frozen? ⟨g, 0, none⟩ = false := H1.out.r.fr _
  go_wp2
  go_end0
  exact ⟨rfl, H1.out.setAt _⟩
theorem ent_bit : Enters 145 := enters Tryz.func145 kr kr
theorem ent_word : Enters 173 := enters Tryz.func173 kr kr
theorem do5 (B : Nat) (w W : World) (g base : Nat) (c : Cel) (o i : Value) (x : Wnt) (xs : List Int) (a b n : Int) (ha0 : 0 ≤ a) (ha1 : a < 4) (hb0 : 0 ≤ b) (hb1 : b < 4) (hat0 : 0 ≤ c.at_) (hat1 : c.at_ ≤ 20) (h : Rn B w W g base c o i x xs) :
  Calls Tryz.prog 163 #[.pointer (some ⟨g, 0, none⟩), .agg #[.int .i64 5, .int .i64 a, .int .i64 b, .int .i64 n]] W fun e W' => e = .returned (.tuple #[]) ∧ Rn B w W' g base { c.setReg a (truthI (decide (c.reg a < c.reg b))) with at_ := c.at_ + 1 } o i x xs := by
 have hg : g < W.heap.size := h.lt
 have hg' : g ≠ W.heap.size := Nat.ne_of_lt hg
 have k0 : W.cell? ⟨g, 0, none⟩ = some (.int .i64 c.at_) := h.r.cell rfl
 have ka : W.cell? ⟨g, 1 + a.toNat, none⟩ = some (.int .i64 (c.reg a)) := h.r.cell (rcs_reg _ _ _ _ ha0 ha1)
 have kb : W.cell? ⟨g, 1 + b.toNat, none⟩ = some (.int .i64 (c.reg b)) := h.r.cell (rcs_reg _ _ _ _ hb0 hb1)
 have fa : W.frozen? ⟨g, 1 + a.toNat, none⟩ = false := h.r.fr _
 have H := hd h
 clear h
 go_enter Tryz.func163, Tryz.ntmps163
 go_wp2
 refine region_still (S := fun w' => w'.cell? ⟨g, 1 + a.toNat, none⟩ = some (.int .i64 (c.reg a)) ∧ w'.cell? ⟨g, 1 + b.toNat, none⟩ = some (.int .i64 (c.reg b)) ∧ w'.cell? ⟨W.heap.size, 1, none⟩ = some (.int .i64 a) ∧ w'.cell? ⟨W.heap.size, 2, none⟩ = some (.int .i64 b)) 25 kr ⟨cl_alloc _ hg ka, cl_alloc _ hg kb, (Rw.new W 83 _ rfl).cell rfl, (Rw.new W 83 _ rfl).cell rfl⟩ (fun hHeld => ?_)
 refine Still.t 0 [] hHeld ?_
 refine Still.t 1 [] hHeld ?_
 refine Still.t 2 [] hHeld ?_
 refine Still.t 3 [] hHeld ?_
 refine Still.t 4 [] hHeld ?_
 refine Still.t 5 [] hHeld ?_
 refine Still.t 6 [] hHeld ?_
 refine Still.t 7 [] hHeld ?_
 refine Still.t 8 [] hHeld ?_
 refine Still.t 9 [] hHeld ?_
 refine Still.t 10 [] hHeld ?_
 refine Still.t 11 [] hHeld ?_
 refine Still.t 12 [] hHeld ?_
 refine Still.t 13 [] hHeld ?_
 refine Still.t 14 [] hHeld ?_
 refine Still.t 15 [] hHeld ?_
 refine Still.t 16 [] hHeld ?_
 refine Still.t 17 [] hHeld ?_
 refine Still.t 18 [] hHeld ?_
 refine Still.t 19 [] hHeld ?_
 refine Still.t 21 [24, 23, 22] hHeld ?_
 refine Still.t 22 [24, 23] hHeld ?_
 refine Still.t 23 [24] hHeld ?_
 refine Still.o 20 rfl rfl (fun K hK => ?_)
 refine wp_call 145 _ _ rfl ent_bit #[.bool (decide (c.reg a < c.reg b))] ev ((bit_t _ _).mono ?_)
 rintro e w' ⟨rfl, rfl⟩
 refine ⟨_, rfl, hK _ _ (fun _ => hHeld) (fun _ => ?_)⟩
 clear hK K
 try simp only [Act.put, l1, l2, l3, l4, l5, l6]
 refine Still.t 24 [] hHeld ?_
 refine Still.o 25 rfl rfl (fun K hK => ?_)
 go_simp
 refine hK _ _ ab (fun _ => Still.vv ?_)
 clear hK K
 clear hHeld
 have H1 := hd (((H.out.reg ha0 ha1 (truthI (decide (c.reg a < c.reg b)))).alloc (.cells #[.int .i64 5, .int .i64 a, .int .i64 b, .int .i64 n] 83)).drew)
 clear H k0 ka kb fa
 generalize World.drew _ = W1 at H1 ⊢
 have q0 : W1.cell? ⟨g, 0, none⟩ = some (.int .i64 _) := H1.out.r.cell rfl
 have q1 : W1.frozen? ⟨g, 0, none⟩ = false := H1.out.r.fr _
 go_wp2
 go_end0
 exact ⟨rfl, H1.out.setAt _⟩
theorem do6 (B : Nat) (w W : World) (g base : Nat) (c : Cel) (o i : Value) (x : Wnt) (xs : List Int) (a b n : Int) (ha0 : 0 ≤ a) (ha1 : a < 4) (hb0 : 0 ≤ b) (hb1 : b < 4) (hat0 : 0 ≤ c.at_) (hat1 : c.at_ ≤ 20) (hm0 : 0 ≤ c.reg b) (hm1 : c.reg b < 8) (h : Rn B w W g base c o i x xs) :
  Calls Tryz.prog 163 #[.pointer (some ⟨g, 0, none⟩), .agg #[.int .i64 6, .int .i64 a, .int .i64 b, .int .i64 n]] W fun e W' => e = .returned (.tuple #[]) ∧ Rn B w W' g base { c.setReg a (c.memo (c.reg b)) with at_ := c.at_ + 1 } o i x xs := by
 have hg : g < W.heap.size := h.lt
 have hg' : g ≠ W.heap.size := Nat.ne_of_lt hg
 have k0 : W.cell? ⟨g, 0, none⟩ = some (.int .i64 c.at_) := h.r.cell rfl
 have ka : W.cell? ⟨g, 1 + a.toNat, none⟩ = some (.int .i64 (c.reg a)) := h.r.cell (rcs_reg _ _ _ _ ha0 ha1)
 have kb : W.cell? ⟨g, 1 + b.toNat, none⟩ = some (.int .i64 (c.reg b)) := h.r.cell (rcs_reg _ _ _ _ hb0 hb1)
 have fa : W.frozen? ⟨g, 1 + a.toNat, none⟩ = false := h.r.fr _
 have km : W.cell? ⟨g, 5 + (c.reg b).toNat, none⟩ = some (.int .i64 (c.memo (c.reg b))) := h.r.cell (rcs_mem _ _ _ _ hm0 hm1)
 have H := hd h
 clear h
 go_enter Tryz.func163, Tryz.ntmps163
 go_wp2
 refine region_still (S := fun w' => w'.cell? ⟨g, 5 + (c.reg b).toNat, none⟩ = some (.int .i64 (c.memo (c.reg b))) ∧ w'.cell? ⟨W.heap.size, 1, none⟩ = some (.int .i64 a) ∧ w'.cell? ⟨W.heap.size, 2, none⟩ = some (.int .i64 b)) 17 kr ⟨cl_alloc _ hg km, (Rw.new W 83 _ rfl).cell rfl, (Rw.new W 83 _ rfl).cell rfl⟩ (fun hHeld => ?_)
 refine Still.t 0 [] hHeld ?_
 refine Still.t 1 [] hHeld ?_
 refine Still.t 2 [] hHeld ?_
 refine Still.t 3 [] hHeld ?_
 refine Still.t 4 [] hHeld ?_
 refine Still.t 5 [] hHeld ?_
 refine Still.t 6 [] hHeld ?_
 refine Still.t 8 [] hHeld ?_
 refine Still.t 9 [] hHeld ?_
 refine Still.t 10 [] hHeld ?_
 refine Still.t 13 [16, 15, 14] hHeld ?_
 refine Still.t 14 [16, 15] hHeld ?_
 refine Still.t 15 [16] hHeld ?_
 refine Still.o 7 rfl rfl (fun K hK => ?_)
 refine wp_call 173 _ _ rfl ent_word #[.pointer (some ⟨g, 0, none⟩), .int .i64 b] ev ((word_ok _ g b (c.reg b) hb0 hb1 hm0 hm1 ((H.out.alloc (.cells #[.int .i64 6, .int .i64 a, .int .i64 b, .int .i64 n] 83)).drew.r.cell (rcs_reg _ _ _ _ hb0 hb1))).mono ?_)
 rintro e w' ⟨rfl, rfl⟩
 refine ⟨_, rfl, hK _ _ (fun _ => hHeld) (fun _ => ?_)⟩
 clear hK K
 try simp only [Act.put, l1, l2, l3, l4, l5, l6]
 refine Still.t 11 [] hHeld ?_
 refine Still.t 12 [] hHeld ?_
 refine Still.t 16 [] hHeld ?_
 refine Still.o 17 rfl rfl (fun K hK => ?_)
 go_simp
 refine hK _ _ ab (fun _ => Still.vv ?_)
 clear hK K
 clear hHeld
 have H1 := hd (((H.out.reg ha0 ha1 (c.memo (c.reg b))).alloc (.cells #[.int .i64 6, .int .i64 a, .int .i64 b, .int .i64 n] 83)).drew)
 clear H k0 ka kb fa km
 generalize World.drew _ = W1 at H1 ⊢
 have q0 : W1.cell? ⟨g, 0, none⟩ = some (.int .i64 _) := H1.out.r.cell rfl
 have q1 : W1.frozen? ⟨g, 0, none⟩ = false := H1.out.r.fr _
 go_wp2
 go_end0
 exact ⟨rfl, H1.out.setAt _⟩
theorem do6_bad (B : Nat) (w W : World) (g base : Nat) (c : Cel) (o i : Value) (x : Wnt) (xs : List Int) (a b n : Int) (ha0 : 0 ≤ a) (ha1 : a < 4) (hb0 : 0 ≤ b) (hb1 : b < 4) (hat0 : 0 ≤ c.at_) (hat1 : c.at_ ≤ 20) (hm : c.reg b < 0 ∨ 8 ≤ c.reg b) (h : Rn B w W g base c o i x xs) :
  Calls Tryz.prog 163 #[.pointer (some ⟨g, 0, none⟩), .agg #[.int .i64 6, .int .i64 a, .int .i64 b, .int .i64 n]] W fun e W' => e = .panicked faultE ∧ Rn B w W' g base c o i x xs ∧ Below W.heap.size W W' := by
 have hg : g < W.heap.size := h.lt
 have hg' : g ≠ W.heap.size := Nat.ne_of_lt hg
 have k0 : W.cell? ⟨g, 0, none⟩ = some (.int .i64 c.at_) := h.r.cell rfl
 have kb : W.cell? ⟨g, 1 + b.toNat, none⟩ = some (.int .i64 (c.reg b)) := h.r.cell (rcs_reg _ _ _ _ hb0 hb1)
 have H := hd h
 clear h
 go_enter Tryz.func163, Tryz.ntmps163
 go_wp2
 refine region_still (S := fun w' => w'.cell? ⟨W.heap.size, 1, none⟩ = some (.int .i64 a) ∧ w'.cell? ⟨W.heap.size, 2, none⟩ = some (.int .i64 b)) 17 kr ⟨(Rw.new W 83 _ rfl).cell rfl, (Rw.new W 83 _ rfl).cell rfl⟩ (fun hHeld => ?_)
 refine Still.t 0 [] hHeld ?_
 refine Still.t 1 [] hHeld ?_
 refine Still.t 2 [] hHeld ?_
 refine Still.t 3 [] hHeld ?_
 refine Still.t 4 [] hHeld ?_
 refine Still.t 5 [] hHeld ?_
 refine Still.t 6 [] hHeld ?_
 refine Still.t 8 [] hHeld ?_
 refine Still.t 9 [] hHeld ?_
 refine Still.t 10 [] hHeld ?_
 refine Still.t 13 [16, 15, 14] hHeld ?_
 refine Still.t 14 [16, 15] hHeld ?_
 refine Still.t 15 [16] hHeld ?_
 refine Still.o 7 rfl rfl (fun K hK => ?_)
 refine wp_call_panic 173 _ _ rfl ent_word #[.pointer (some ⟨g, 0, none⟩), .int .i64 b] ev faultE ((word_bad _ g b (c.reg b) hb0 hb1 hm ((H.out.alloc (.cells #[.int .i64 6, .int .i64 a, .int .i64 b, .int .i64 n] 83)).drew.r.cell (rcs_reg _ _ _ _ hb0 hb1))).mono ?_)
 rintro e w' ⟨rfl, rfl⟩
 refine ⟨rfl, ?_⟩
 clear hK K
 simp only [Exit.inBlock, Exit.then]
 exact post_panic rfl ⟨rfl, (H.out.alloc (.cells #[.int .i64 6, .int .i64 a, .int .i64 b, .int .i64 n] 83)).drew, ((Below.refl _ _).alloc (Nat.le_refl _) _).drew⟩
theorem do7 (B : Nat) (w W : World) (g base : Nat) (c : Cel) (o i : Value) (x : Wnt) (xs : List Int) (a b n : Int) (ha0 : 0 ≤ a) (ha1 : a < 4) (hb0 : 0 ≤ b) (hb1 : b < 4) (hat0 : 0 ≤ c.at_) (hat1 : c.at_ ≤ 20) (hm0 : 0 ≤ c.reg b) (hm1 : c.reg b < 8) (h : Rn B w W g base c o i x xs) :
  Calls Tryz.prog 163 #[.pointer (some ⟨g, 0, none⟩), .agg #[.int .i64 7, .int .i64 a, .int .i64 b, .int .i64 n]] W fun e W' => e = .returned (.tuple #[]) ∧ Rn B w W' g base { c.setMem (c.reg b) (c.reg a) with at_ := c.at_ + 1 } o i x xs := by
 have hg : g < W.heap.size := h.lt
 have hg' : g ≠ W.heap.size := Nat.ne_of_lt hg
 have k0 : W.cell? ⟨g, 0, none⟩ = some (.int .i64 c.at_) := h.r.cell rfl
 have ka : W.cell? ⟨g, 1 + a.toNat, none⟩ = some (.int .i64 (c.reg a)) := h.r.cell (rcs_reg _ _ _ _ ha0 ha1)
 have kb : W.cell? ⟨g, 1 + b.toNat, none⟩ = some (.int .i64 (c.reg b)) := h.r.cell (rcs_reg _ _ _ _ hb0 hb1)
 have km : W.cell? ⟨g, 5 + (c.reg b).toNat, none⟩ = some (.int .i64 (c.memo (c.reg b))) := h.r.cell (rcs_mem _ _ _ _ hm0 hm1)
 have fm : W.frozen? ⟨g, 5 + (c.reg b).toNat, none⟩ = false := h.r.fr _
 have H := hd h
 clear h
 go_enter Tryz.func163, Tryz.ntmps163
 go_wp2
 refine region_still (S := fun w' => w'.cell? ⟨g, 1 + a.toNat, none⟩ = some (.int .i64 (c.reg a)) ∧ w'.cell? ⟨W.heap.size, 1, none⟩ = some (.int .i64 a) ∧ w'.cell? ⟨W.heap.size, 2, none⟩ = some (.int .i64 b)) 17 kr ⟨cl_alloc _ hg ka, (Rw.new W 83 _ rfl).cell rfl, (Rw.new W 83 _ rfl).cell rfl⟩ (fun hHeld => ?_)
 refine Still.t 0 [] hHeld ?_
 refine Still.t 1 [] hHeld ?_
 refine Still.t 2 [] hHeld ?_
 refine Still.t 3 [] hHeld ?_
 refine Still.t 5 [] hHeld ?_
 refine Still.t 6 [] hHeld ?_
 refine Still.t 7 [] hHeld ?_
 refine Still.t 8 [] hHeld ?_
 refine Still.t 9 [] hHeld ?_
 refine Still.t 10 [] hHeld ?_
 refine Still.t 11 [] hHeld ?_
 refine Still.t 12 [] hHeld ?_
 refine Still.t 13 [16, 15, 14] hHeld ?_
 refine Still.t 14 [16, 15] hHeld ?_
 refine Still.t 15 [16] hHeld ?_
 refine Still.o 4 rfl rfl (fun K hK => ?_)
 refine wp_call 173 _ _ rfl ent_word #[.pointer (some ⟨g, 0, none⟩), .int .i64 b] ev ((word_ok _ g b (c.reg b) hb0 hb1 hm0 hm1 ((H.out.alloc (.cells #[.int .i64 7, .int .i64 a, .int .i64 b, .int .i64 n] 83)).drew.r.cell (rcs_reg _ _ _ _ hb0 hb1))).mono ?_)
 rintro e w' ⟨rfl, rfl⟩
 refine ⟨_, rfl, hK _ _ (fun _ => hHeld) (fun _ => ?_)⟩
 clear hK K
 try simp only [Act.put, l1, l2, l3, l4, l5, l6]
 refine Still.t 16 [] hHeld ?_
 refine Still.o 17 rfl rfl (fun K hK => ?_)
 go_simp
 refine hK _ _ ab (fun _ => Still.vv ?_)
 clear hK K
 clear hHeld
 have H1 := hd (((H.out.mem hm0 hm1 (c.reg a)).alloc (.cells #[.int .i64 7, .int .i64 a, .int .i64 b, .int .i64 n] 83)).drew)
 clear H k0 ka kb km fm
 generalize World.drew _ = W1 at H1 ⊢
 have q0 : W1.cell? ⟨g, 0, none⟩ = some (.int .i64 _) := H1.out.r.cell rfl
 have q1 : W1.frozen? ⟨g, 0, none⟩ = false := H1.out.r.fr _
 go_wp2
 go_end0
 exact ⟨rfl, H1.out.setAt _⟩
theorem do7_bad (B : Nat) (w W : World) (g base : Nat) (c : Cel) (o i : Value) (x : Wnt) (xs : List Int) (a b n : Int) (ha0 : 0 ≤ a) (ha1 : a < 4) (hb0 : 0 ≤ b) (hb1 : b < 4) (hat0 : 0 ≤ c.at_) (hat1 : c.at_ ≤ 20) (hm : c.reg b < 0 ∨ 8 ≤ c.reg b) (h : Rn B w W g base c o i x xs) :
  Calls Tryz.prog 163 #[.pointer (some ⟨g, 0, none⟩), .agg #[.int .i64 7, .int .i64 a, .int .i64 b, .int .i64 n]] W fun e W' => e = .panicked faultE ∧ Rn B w W' g base c o i x xs ∧ Below W.heap.size W W' := by
 have hg : g < W.heap.size := h.lt
 have hg' : g ≠ W.heap.size := Nat.ne_of_lt hg
 have k0 : W.cell? ⟨g, 0, none⟩ = some (.int .i64 c.at_) := h.r.cell rfl
 have ka : W.cell? ⟨g, 1 + a.toNat, none⟩ = some (.int .i64 (c.reg a)) := h.r.cell (rcs_reg _ _ _ _ ha0 ha1)
 have kb : W.cell? ⟨g, 1 + b.toNat, none⟩ = some (.int .i64 (c.reg b)) := h.r.cell (rcs_reg _ _ _ _ hb0 hb1)
 have H := hd h
 clear h
 go_enter Tryz.func163, Tryz.ntmps163
 go_wp2
 refine region_still (S := fun w' => w'.cell? ⟨g, 1 + a.toNat, none⟩ = some (.int .i64 (c.reg a)) ∧ w'.cell? ⟨W.heap.size, 1, none⟩ = some (.int .i64 a) ∧ w'.cell? ⟨W.heap.size, 2, none⟩ = some (.int .i64 b)) 17 kr ⟨cl_alloc _ hg ka, (Rw.new W 83 _ rfl).cell rfl, (Rw.new W 83 _ rfl).cell rfl⟩ (fun hHeld => ?_)
 refine Still.t 0 [] hHeld ?_
 refine Still.t 1 [] hHeld ?_
 refine Still.t 2 [] hHeld ?_
 refine Still.t 3 [] hHeld ?_
 refine Still.t 5 [] hHeld ?_
 refine Still.t 6 [] hHeld ?_
 refine Still.t 7 [] hHeld ?_
 refine Still.t 8 [] hHeld ?_
 refine Still.t 9 [] hHeld ?_
 refine Still.t 10 [] hHeld ?_
 refine Still.t 11 [] hHeld ?_
 refine Still.t 12 [] hHeld ?_
 refine Still.t 13 [16, 15, 14] hHeld ?_
 refine Still.t 14 [16, 15] hHeld ?_
 refine Still.t 15 [16] hHeld ?_
 refine Still.o 4 rfl rfl (fun K hK => ?_)
 refine wp_call_panic 173 _ _ rfl ent_word #[.pointer (some ⟨g, 0, none⟩), .int .i64 b] ev faultE ((word_bad _ g b (c.reg b) hb0 hb1 hm ((H.out.alloc (.cells #[.int .i64 7, .int .i64 a, .int .i64 b, .int .i64 n] 83)).drew.r.cell (rcs_reg _ _ _ _ hb0 hb1))).mono ?_)
 rintro e w' ⟨rfl, rfl⟩
 refine ⟨rfl, ?_⟩
 clear hK K
 simp only [Exit.inBlock, Exit.then]
 exact post_panic rfl ⟨rfl, (H.out.alloc (.cells #[.int .i64 7, .int .i64 a, .int .i64 b, .int .i64 n] 83)).drew, ((Below.refl _ _).alloc (Nat.le_refl _) _).drew⟩
end Go.Proofs.YtehhhiodfcdnmaaGreatDoor

/- A region that makes a row of numbers and a part of it, in whatever order: what holds on the way. -/
import Derived.Test.YtbmocfgkocncpaaDoorCellMath
namespace Go.Proofs.YtbmocfgkocncpaaDoor
set_option linter.unusedSimpArgs false
set_option linter.unusedVariables false
open Go.RowKit Go.Sort

/-- On the way: e2 the empty literal, o5 the copy, b7 the literal of one, g10 the new part, o8 the row that is made. -/
structure Mk (X W : World) (e2 : Option Nat) (o5 : Option Value) (b7 g10 : Option Nat) (o8 : Option Value) (inn : List Int) (n : Int) : Prop where
  d : Below X.heap.size X W
  e : ∀ b, e2 = some b → Rw W b 3 #[] ∧ X.heap.size ≤ b
  o : ∀ v, o5 = some v → W.ownsRow X.heap.size 3 1 v inn.length (ints inn)
  s : ∀ b, b7 = some b → Sl W 1 (.slice (some ⟨b, 0, none⟩) 1 1) 1 (ints [n])
  r : ∀ g, g10 = some g → Rw W g 25 #[.slice none 0 0, .slice none 0 0] ∧ X.heap.size ≤ g ∧ (∀ b, e2 = some b → b ≠ g) ∧ (∀ v, o5 = some v → v.ownBlock ≠ some g) ∧ (∀ v, o8 = some v → v.ownBlock ≠ some g)
  f : ∀ v, o8 = some v → W.ownsRow X.heap.size 3 1 v (inn.length + 1) (ints inn ++ ints [n])
section
variable {X W W' : World} {e2 : Option Nat} {o5 : Option Value} {b7 g10 : Option Nat} {o8 : Option Value} {inn : List Int} {n : Int}
theorem Mk.up (h : Mk X W e2 o5 b7 g10 o8 inn n) (hb : Below W.heap.size W W') : Mk X W' e2 o5 b7 g10 o8 inn n where
  d := h.d.trans (hb.mono h.d.size)
  e := fun b q => ⟨(h.e b q).1.up hb (h.e b q).1.lt, (h.e b q).2⟩
  o := fun v q => own_up (h.o v q) hb (own_lt (h.o v q))
  s := fun b q => (h.s b q).up hb
  r := fun g q => ⟨(h.r g q).1.up hb (h.r g q).1.lt, (h.r g q).2⟩
  f := fun v q => own_up (h.f v q) hb (own_lt (h.f v q))
theorem Mk.begin (X : World) (inn : List Int) (n : Int) : Mk X X.drew none none none none none inn n :=
  ⟨(Below.refl _ _).drew, by simp, by simp, by simp, by simp, by simp⟩
theorem Mk.alloc (h : Mk X W e2 o5 b7 g10 o8 inn n) (o : Obj) : Mk X (W.alloc o) e2 o5 b7 g10 o8 inn n := h.up ((Below.refl _ _).alloc (Nat.le_refl _) _)
theorem Mk.two (h : Mk X W none o5 b7 g10 o8 inn n) {b : Nat} (hb : b = W.heap.size) : Mk X (W.alloc (.cells #[] 3)) (some b) o5 b7 g10 o8 inn n :=
  have k := h.alloc (.cells #[] 3)
  ⟨k.d, fun b' q => by injection q with q; subst q; exact ⟨Rw.new _ _ _ hb, by rw [hb]; exact h.d.size⟩, k.o, k.s, fun g q => ⟨(k.r g q).1, (k.r g q).2.1, fun b' q' => by injection q' with q'; have := (h.r g q).1.lt; omega, (k.r g q).2.2.2⟩, k.f⟩
theorem Mk.seven (h : Mk X W e2 o5 none g10 o8 inn n) {b : Nat} (hb : b = W.heap.size) : Mk X (W.alloc (.cells #[.int .i64 n] 3)) e2 o5 (some b) g10 o8 inn n :=
  have k := h.alloc (.cells #[.int .i64 n] 3)
  ⟨k.d, k.e, k.o, fun b' q => by injection q with q; subst q; exact sl_one_at _ _ _ _ _ hb (Nat.le_refl _), k.r, k.f⟩
theorem Mk.ten (h : Mk X W e2 o5 b7 none o8 inn n) {g : Nat} (hg : g = W.heap.size) : Mk X (W.alloc (.cells #[.slice none 0 0, .slice none 0 0] 25)) e2 o5 b7 (some g) o8 inn n :=
  have k := h.alloc (.cells #[.slice none 0 0, .slice none 0 0] 25)
  ⟨k.d, k.e, k.o, k.s, fun g' q => by
    injection q with q
    subst q
    refine ⟨Rw.new _ _ _ hg, by rw [hg]; exact h.d.size, fun b q => ?_, fun v q e => ?_, fun v q e => ?_⟩
    · have := (h.e b q).1.lt; omega
    · have := own_lt (h.o v q) _ e; omega
    · have := own_lt (h.f v q) _ e; omega, k.f⟩
theorem Mk.five {b : Nat} (h : Mk X W (some b) o5 b7 g10 none inn n) {v : Value} (ho : W'.ownsRow X.heap.size 3 1 v inn.length (ints inn)) (hb : Below W.heap.size W W') (hk : ∀ k, v.ownBlock = some k → k = b ∨ k = W.heap.size) : Mk X W' none (some v) b7 g10 none inn n :=
  have k := h.up hb
  ⟨k.d, by simp, fun v' q => by injection q with q; subst q; exact ho, k.s, fun g q => ⟨(k.r g q).1, (k.r g q).2.1, by simp, fun v' q' e => by
    injection q' with q'
    subst q'
    have h1 := (h.r g q).1.lt
    have h2 := (h.r g q).2.2.1 b rfl
    rcases hk g e with h3 | h3 <;> omega, by simp⟩, by simp⟩
theorem Mk.eight {u : Value} (h : Mk X W e2 (some u) b7 g10 none inn n) {v : Value} (ho : W'.ownsRow X.heap.size 3 1 v (inn.length + 1) (ints inn ++ ints [n])) (hb : W.grownBy W' u.ownBlock) (hk : v.ownBlock = u.ownBlock ∨ v.ownBlock = some W.heap.size) : Mk X W' none none none g10 (some v) inn n :=
  ⟨h.d.grown hb h.d.size (fun k e => own_block (h.o u rfl) k e), by simp, by simp, by simp, fun g q => ⟨(hb.block g (h.r g q).1.lt (fun e => (h.r g q).2.2.2.1 u rfl e.symm)).trans (h.r g q).1, (h.r g q).2.1, by simp, by simp, fun v' q' e => by
    injection q' with q'
    subst q'
    rcases hk with h3 | h3
    · exact (h.r g q).2.2.2.1 u rfl (h3 ▸ e)
    · rw [h3] at e
      injection e with e
      have := (h.r g q).1.lt
      omega⟩, fun v' q => by injection q with q; subst q; exact ho⟩
/-- All is made. -/
structure Made (X W : World) (g : Nat) (v u : Value) (inn : List Int) (n : Int) : Prop where
  d : Below X.heap.size X W
  r : Rw W g 25 #[v, u]
  s : Sl W 1 u (inn ++ [n]).length (ints (inn ++ [n]))
theorem Mk.done {g : Nat} {u : Value} (h : Mk X W none none none (some g) (some u) inn n) (v : Value) : Made X (W.setRow g #[v, u]) g v u inn n :=
  ⟨below_row h.d (h.r g rfl).2.1 _, (h.r g rfl).1.row _, by
    have := Sl.row (own_sl (h.f u rfl)) (g := g) #[v, u] ((h.r g rfl).2.2.2.2 u rfl)
    simpa [ints] using this⟩
end
end Go.Proofs.YtbmocfgkocncpaaDoor

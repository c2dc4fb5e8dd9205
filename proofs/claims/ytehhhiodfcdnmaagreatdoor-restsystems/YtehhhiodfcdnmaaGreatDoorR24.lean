/- Memory of which numbers are changed, and what else stays; copies that are kept apart from their boxes. -/
import Derived.Test.YtehhhiodfcdnmaaGreatDoorR20
import Derived.Test.YtehhhiodfcdnmaaGreatDoorR18
import Derived.Test.YtehhhiodfcdnmaaGreatDoorR23
namespace Go.Proofs.YtehhhiodfcdnmaaGreatDoor
set_option linter.unusedSimpArgs false
set_option linter.unusedVariables false
open Go.RowKit Go.Sort
structure Fi (G H : Nat) (X w : World) : Prop where
 b : Below H X w
 z : w.heap.size = X.heap.size
 f : ∀ a, w.frozen? a = X.frozen? a
 e : ∀ a, (X.cell? a).isSome = true → (w.cell? a).isSome = true
 s : ∀ b o u, b ≠ G → X.cell? ⟨b, o, none⟩ = some u → (∀ m, u ≠ .int .i64 m) → w.cell? ⟨b, o, none⟩ = some u
theorem Fi.refl (G H : Nat) (X : World) : Fi G H X X := ⟨Below.refl _ _, rfl, fun _ => rfl, fun _ h => h, fun _ _ _ _ h _ => h⟩
theorem isSome_set {w : World} {a : Addr} (h : (w.cell? a).isSome = true) (b o : Nat) (v : Value) : ((w.setCell ⟨b, o, none⟩ v).cell? a).isSome = true :=
 World.isSome_setCells b [v] o w a h
theorem Fi.set {G H : Nat} {X w : World} (h : Fi G H X w) {b o : Nat} {m : Int} (hx : X.cell? ⟨b, o, none⟩ = some (.int .i64 m)) (hb : H ≤ b) (v : Value) : Fi G H X (w.setCell ⟨b, o, none⟩ v) :=
 ⟨h.b.setCell (p := ⟨b, o, none⟩) hb v, by rw [size_set]; exact h.z, fun a => by rw [World.frozen?_setCell]; exact h.f a, fun a ha => isSome_set (h.e a ha) b o v, fun c i u hc hu hn => by
  refine cl_set ?_ (h.s c i u hc hu hn)
  by_cases e : c = b ∧ i = o
  ·obtain ⟨rfl, rfl⟩ := e
   rw [hx] at hu
   injection hu with hu
   exact absurd hu.symm (hn m)
  ·omega⟩
theorem Fi.setI {G H : Nat} {X : World} {b : Nat} (hb : H ≤ b) : ∀ (us : List Value) (o : Nat) {w : World}, Fi G H X w → (∀ j, j < us.length → ∃ m, X.cell? ⟨b, o + j, none⟩ = some (.int .i64 m)) → Fi G H X (w.setCells b o us)
 | [], _, _, h, _ => h
 | u :: r, o, w, h, hx => by
  rw [World.setCells]
  obtain ⟨m, hm⟩ := hx 0 (by simp)
  refine Fi.setI hb r (o + 1) (h.set (b := b) (o := o) hm hb u) (fun j hj => ?_)
  obtain ⟨m', hm'⟩ := hx (j + 1) so
  exact ⟨m', by rw [show o + 1 + j = o + (j + 1) by omega]; exact hm'⟩
theorem Fi.setG {G H : Nat} {X w : World} (h : Fi G H X w) (hG : H ≤ G) (o : Nat) (us : List Value) : Fi G H X (w.setCells G o us) :=
 ⟨below_setCells us o h.b hG, by rw [size_setCells]; exact h.z, fun a => by rw [World.frozen?_setCells]; exact h.f a, fun a ha => World.isSome_setCells G us o w a (h.e a ha), fun c i u hc hu hn => by
  rw [World.cell?_setCells_out G us o w ⟨c, i, none⟩ (fun e _ => absurd e hc)]
  exact h.s c i u hc hu hn⟩
theorem Fi.can {G H : Nat} {X w : World} (h : Fi G H X w) {b o : Nat} {u : Value} (hx : X.cell? ⟨b, o, none⟩ = some u) (hf : X.frozen? ⟨b, o, none⟩ = false) : (∃ v, w.cell? ⟨b, o, none⟩ = some v) ∧ w.frozen? ⟨b, o, none⟩ = false :=
 ⟨Option.isSome_iff_exists.1 (h.e _ (by rw [hx]; rfl)), (h.f _).trans hf⟩
theorem Fi.there {G H : Nat} {X w : World} (h : Fi G H X w) {b o n : Nat} (ht : X.there b o n) : w.there b o n := fun j hj => ⟨h.e _ (ht j hj).1, (h.f _).trans (ht j hj).2⟩
structure Wr (H : Nat) (X : World) (v : Value) (n : Nat) : Prop where
 fm : ∃ a c, v = .slice a n c
 op : 0 < n → ∃ b off cap, v = .slice (some ⟨b, off, none⟩) n cap ∧ n ≤ cap ∧ H ≤ b ∧ b < X.heap.size ∧ ∀ j, j < n → (∃ m, X.cell? ⟨b, off + j, none⟩ = some (.int .i64 m)) ∧ X.frozen? ⟨b, off + j, none⟩ = false
theorem wr_of {H : Nat} {X : World} {v : Value} {xs : List Int} (h : Sl X 1 v xs.length (ints xs)) (hn : ∀ b, v.ownBlock = some b → H ≤ b) : Wr H X v xs.length := by
 refine ⟨h.form, fun h0 => ?_⟩
 obtain ⟨b, off, cap, rfl, hc, hb, hx, hz⟩ := h.openZ h0
 exact ⟨b, off, cap, rfl, hc, hn b rfl, hb, fun j hj => ⟨⟨_, hx j _ (ints_at xs j hj)⟩, hz j (by simpa [ints] using hj)⟩⟩
structure L1 (G H off : Nat) (X w : World) (os : List Value) (n : Nat) : Prop where
 fi : Fi G H X w
 r : ∀ k (h : k < os.length), n ≤ k → w.cell? ⟨G, off + k * 16 + 14, none⟩ = some os[k]
theorem L1.set {G H off : Nat} {X w : World} {os : List Value} {n : Nat} (h : L1 G H off X w os n) {b o : Nat} {m : Int} (hx : X.cell? ⟨b, o, none⟩ = some (.int .i64 m)) (hb : H ≤ b) (hG : b ≠ G) (v : Value) : L1 G H off X (w.setCell ⟨b, o, none⟩ v) os n :=
 ⟨h.fi.set hx hb v, fun k hk hn => cl_set (Or.inl (fun e => hG e.symm)) (h.r k hk hn)⟩
theorem L1.zero {G H off : Nat} {X w : World} {os : List Value} {n : Nat} (h : L1 G H off X w os n) (hG : H ≤ G) (us : List Value) (hu : us.length = 16) : L1 G H off X (w.setCells G (off + n * 16) us) os (n + 1) :=
 ⟨h.fi.setG hG _ _, fun k hk hn => by
  rw [World.cell?_setCells_out G us (off + n * 16) w ⟨G, off + k * 16 + 14, none⟩ (fun _ _ => Or.inr (by rw [hu]; show off + n * 16 + 16 ≤ off + k * 16 + 14; omega))]
  exact h.r k hk om⟩
def KeepsA (V : World) (A : Nat → Prop) (P : World → Prop) : Prop :=
 ∀ V' : World, V.heap.size ≤ V'.heap.size → (∀ b, b < V.heap.size → ¬ A b → V'.heap[b]? = V.heap[b]?) → P V'
theorem KeepsA.now {V : World} {A : Nat → Prop} {P : World → Prop} (h : KeepsA V A P) : P V := h V (Nat.le_refl _) (fun _ _ _ => rfl)
theorem KeepsA.up {V V' : World} {A : Nat → Prop} {P : World → Prop} (h : KeepsA V A P) (hb : Below V.heap.size V V') : KeepsA V' A P := fun V'' h1 h2 =>
 h V'' (Nat.le_trans hb.size h1) (fun b hb' ha => (h2 b (Nat.lt_of_lt_of_le hb' hb.size) ha).trans (hb.block b hb'))
theorem KeepsA.row {V : World} {A : Nat → Prop} {P : World → Prop} (h : KeepsA V A P) {g : Nat} (hg : A g) (cs : Array Value) : KeepsA (V.setRow g cs) A P := fun V'' h1 h2 =>
 h V'' (by rw [setRow_size] at h1; exact h1) (fun b hb ha => (h2 b (by rw [setRow_size]; exact hb) ha).trans (setRow_other V g b cs (fun e => ha (e ▸ hg))))
theorem KeepsA.new {V : World} {A A' : Nat → Prop} {P : World → Prop} (h : KeepsA V A P) (o : Obj) (hA : ∀ b, A' b → A b ∨ b = V.heap.size) : KeepsA (V.alloc o) A' P := fun V'' h1 h2 =>
 h V'' (by simp at h1; omega) (fun b hb ha => (h2 b so (fun h' => by
  rcases hA b h' with h3 | h3
  ·exact ha h3
  ·omega)).trans (Below.heap_alloc V o b hb))
theorem sl_agree {V V' : World} {size : Nat} {v : Value} {k : Nat} {xs : List Value} {n : Nat} (h : Sl V size v k xs) (hv : NewB n v) (hs : V.heap.size ≤ V'.heap.size) (ha : ∀ b, b < V.heap.size → n ≤ b → V'.heap[b]? = V.heap[b]?) : Sl V' size v k xs := by
 obtain ⟨h1, ao, cap, rfl, h3, h4⟩ := h
 refine ⟨h1, ao, cap, rfl, h3, fun hn => ?_⟩
 obtain ⟨b, off, rfl, hlt, hc, hz⟩ := h4 hn
 have hbn := hv b rfl
 refine ⟨b, off, rfl, Nat.lt_of_lt_of_le hlt hs, fun j u hj => ?_, hz.of (ha b hlt hbn)⟩
 have := hc j u hj
 unfold World.cell? at this ⊢
 simp only [ha b hlt hbn]
 exact this
theorem bld_sys {n base : Nat} {V : World} {g : Nat} {xp xc xs : Value} {S : SysD} (h : Bld n base V g xp xc xs S.parts S.chans S.slots) {A : Nat → Prop} (hA : ∀ b, A b → b < n) : KeepsA V A fun V' => Sys V' xp xc xs S := fun V' hs ha => by
 have hag : ∀ b, b < V.heap.size → n ≤ b → V'.heap[b]? = V.heap[b]? := fun b hb hn => ha b hb (fun h' => by have := hA b h'; omega)
 obtain ⟨l, h1, h2, h3⟩ := h.row
 have hb : NewB n xp := fun b e => by have := own_block h2 b e; have := h.gl; have := h.gn; omega
 have low : ∀ v, NewB (g + 1) v → NewB n v := fun v hv b e => by have := hv b e; have := h.gn; omega
 exact ⟨⟨l, h1, sl_agree (own_sl h2) hb hs hag, fun k hk hk' => ⟨sl_agree (h3 k hk hk').1.code (low _ (h3 k hk hk').2.1.1) hs hag, sl_agree (h3 k hk hk').1.inn (low _ (h3 k hk hk').2.1.2) hs hag⟩⟩, sl_agree h.c h.nc.1 hs hag, sl_agree h.s h.ns.1 hs hag⟩
theorem newV_wld {B : Nat} {V : World} {vc vl : Value} {D : WldD} (h : NewV B 0 V vc vl D.cells D.lines) {A : Nat → Prop} (hA : ∀ b, A b → b < B) : KeepsA V A fun V' => Wld V' vc vl D := fun V' hs ha => by
 have hag : ∀ b, b < V.heap.size → B ≤ b → V'.heap[b]? = V.heap[b]? := fun b hb hn => ha b hb (fun h' => by have := hA b h'; omega)
 obtain ⟨⟨ps, p1, p2, p3⟩, ⟨vs, q1, q2, q3⟩, a⟩ := h
 have hin : ∀ o, In B 0 V vc vl o → NewB B o := fun o h b e => (h b e).1.1
 exact ⟨⟨ps, p1, sl_agree (own_sl p2) (fun b e => own_block p2 b e) hs hag, fun k hk hk' => ⟨(p3 k hk hk').1, sl_agree (p3 k hk hk').2.1 (hin _ (p3 k hk hk').2.2) hs hag⟩⟩, ⟨vs, q1, sl_agree (own_sl q2) (fun b e => own_block q2 b e) hs hag, fun k hk hk' => sl_agree (q3 k hk hk').1 (hin _ (q3 k hk hk').2) hs hag⟩⟩
structure R3 (W V : World) (g7 g8 : Option Nat) (P1 P3 : Option (World → Prop)) (c7 c8 : Array Value) : Prop where
 d : Below W.heap.size W V
 a7 : ∀ g, g7 = some g → W.heap.size ≤ g ∧ Rw V g 26 c7
 a8 : ∀ g, g8 = some g → W.heap.size ≤ g ∧ Rw V g 30 c8
 ne : ∀ g g', g7 = some g → g8 = some g' → g ≠ g'
 k1 : ∀ P, P1 = some P → KeepsA V (fun b => g7 = some b ∨ g8 = some b) P
 k3 : ∀ P, P3 = some P → KeepsA V (fun b => g7 = some b ∨ g8 = some b) P
section
variable {W V V' : World} {g7 g8 : Option Nat} {P1 P3 : Option (World → Prop)} {c7 c8 : Array Value}
theorem R3.begin (W : World) (c7 c8 : Array Value) : R3 W W.drew none none none none c7 c8 := ⟨(Below.refl _ _).drew, by simp, by simp, by simp, by simp, by simp⟩
theorem R3.box (h : R3 W V g7 g8 P1 P3 c7 c8) : ∀ b, (g7 = some b ∨ g8 = some b) → b < V.heap.size := fun b hb => by
 rcases hb with hb | hb
 ·exact (h.a7 b hb).2.lt
 ·exact (h.a8 b hb).2.lt
theorem R3.call1 (h : R3 W V g7 g8 none P3 c7 c8) (hb : Below V.heap.size V V') {P : World → Prop} (hP : ∀ A : Nat → Prop, (∀ b, A b → b < V.heap.size) → KeepsA V' A P) : R3 W V' g7 g8 (some P) P3 c7 c8 :=
 ⟨h.d.trans (hb.mono h.d.size), fun g e => ⟨(h.a7 g e).1, (h.a7 g e).2.up hb (h.a7 g e).2.lt⟩, fun g e => ⟨(h.a8 g e).1, (h.a8 g e).2.up hb (h.a8 g e).2.lt⟩, h.ne, fun Q e => by injection e with e; subst e; exact hP _ h.box, fun Q e => (h.k3 Q e).up hb⟩
theorem R3.call3 (h : R3 W V g7 g8 P1 none c7 c8) (hb : Below V.heap.size V V') {P : World → Prop} (hP : ∀ A : Nat → Prop, (∀ b, A b → b < V.heap.size) → KeepsA V' A P) : R3 W V' g7 g8 P1 (some P) c7 c8 :=
 ⟨h.d.trans (hb.mono h.d.size), fun g e => ⟨(h.a7 g e).1, (h.a7 g e).2.up hb (h.a7 g e).2.lt⟩, fun g e => ⟨(h.a8 g e).1, (h.a8 g e).2.up hb (h.a8 g e).2.lt⟩, h.ne, fun Q e => (h.k1 Q e).up hb, fun Q e => by injection e with e; subst e; exact hP _ h.box⟩
theorem R3.new7 (h : R3 W V none g8 P1 P3 c7 c8) (c : Array Value) : R3 W (V.alloc (.cells c 26)) (some V.heap.size) g8 P1 P3 c c8 :=
 ⟨h.d.alloc h.d.size _, fun g e => by injection e with e; subst e; exact ⟨h.d.size, Rw.new _ _ _ rfl⟩, fun g e => ⟨(h.a8 g e).1, (h.a8 g e).2.alloc _⟩, fun g g' e e' => by injection e with e; subst e; have := (h.a8 g' e').2.lt; omega,
  fun P e => (h.k1 P e).new _ (fun b hb => by
   rcases hb with hb | hb
   ·injection hb with hb; exact .inr hb.symm
   ·exact .inl (.inr hb)), fun P e => (h.k3 P e).new _ (fun b hb => by
   rcases hb with hb | hb
   ·injection hb with hb; exact .inr hb.symm
   ·exact .inl (.inr hb))⟩
theorem R3.new8 (h : R3 W V g7 none P1 P3 c7 c8) (c : Array Value) : R3 W (V.alloc (.cells c 30)) g7 (some V.heap.size) P1 P3 c7 c :=
 ⟨h.d.alloc h.d.size _, fun g e => ⟨(h.a7 g e).1, (h.a7 g e).2.alloc _⟩, fun g e => by injection e with e; subst e; exact ⟨h.d.size, Rw.new _ _ _ rfl⟩, fun g g' e e' => by injection e' with e'; subst e'; have := (h.a7 g e).2.lt; omega,
  fun P e => (h.k1 P e).new _ (fun b hb => by
   rcases hb with hb | hb
   ·exact .inl (.inl hb)
   ·injection hb with hb; exact .inr hb.symm), fun P e => (h.k3 P e).new _ (fun b hb => by
   rcases hb with hb | hb
   ·exact .inl (.inl hb)
   ·injection hb with hb; exact .inr hb.symm)⟩
theorem R3.put7 {g : Nat} (h : R3 W V (some g) g8 P1 P3 c7 c8) (c : Array Value) : R3 W (V.setRow g c) (some g) g8 P1 P3 c c8 :=
 ⟨below_row h.d (h.a7 g rfl).1 _, fun g' e => by injection e with e; subst e; exact ⟨(h.a7 g rfl).1, (h.a7 g rfl).2.row _⟩, fun g' e => ⟨(h.a8 g' e).1, (h.a8 g' e).2.row_other _ (fun e' => h.ne g g' rfl e e'.symm)⟩, h.ne, fun P e => (h.k1 P e).row (.inl rfl) _, fun P e => (h.k3 P e).row (.inl rfl) _⟩
theorem R3.put8 {g : Nat} (h : R3 W V g7 (some g) P1 P3 c7 c8) (c : Array Value) : R3 W (V.setRow g c) g7 (some g) P1 P3 c7 c :=
 ⟨below_row h.d (h.a8 g rfl).1 _, fun g' e => ⟨(h.a7 g' e).1, (h.a7 g' e).2.row_other _ (fun e' => h.ne g' g e rfl e')⟩, fun g' e => by injection e with e; subst e; exact ⟨(h.a8 g rfl).1, (h.a8 g rfl).2.row _⟩, h.ne, fun P e => (h.k1 P e).row (.inr rfl) _, fun P e => (h.k3 P e).row (.inr rfl) _⟩
end
theorem Still.walk {P : Program} {md : Region.Mode} {ops : Array Oper} {Q : Exit → Act → World → Prop} {S : World → Prop} {z : Nat} {σ : Type} (dn : σ → Array Bool) (cnt : σ → Nat) (Inv : σ → Act → World → Prop)
  (h : ∀ s a w, Inv s a w → (cnt s = 0 ∧ Region.ready md ops (dn s) = [] ∧ Q .normal a w) ∨ ∃ rs c, cnt s = c + 1 ∧ Region.ready md ops (dn s) = rs ∧ rs ≠ [] ∧ ∀ i ∈ rs, wpOp P ops Q i (fun a' w' => (i ≠ z → S w') ∧ ∃ s', (dn s).setIfInBounds i true = dn s' ∧ cnt s' = c ∧ Inv s' a' w') a w) :
  ∀ n s a w, cnt s = n → Inv s a w → Still P md ops Q S z n (dn s) a w
 | 0, s, a, w, hn, hI => by
  rcases h s a w hI with ⟨_, hr, hq⟩ | ⟨rs, c, hc, _⟩
  ·exact ⟨hr, hq⟩
  ·omega
 | n + 1, s, a, w, hn, hI => by
  rcases h s a w hI with ⟨h0, _, _⟩ | ⟨rs, c, hc, hr, hne, hall⟩
  ·omega
  ·refine Still.all hr hne (fun i hi => wpOp_mono (fun a' w' h' => ?_) (hall i hi))
   obtain ⟨h1, s', e, hc', hI'⟩ := h'
   exact ⟨h1, by rw [e]; exact Still.walk dn cnt Inv h n s' a' w' om hI'⟩
theorem wpOp_one {P : Program} {ops : Array Oper} {Q : Exit → Act → World → Prop} {i : Nat} {o : Oper} {K : Act → World → Prop} {a : Act} {w : World} (ho : ops[i]? = some o) (hg : o.guard = none) (h : Oper.wp P o a w K Q) : wpOp P ops Q i K a w := by
 unfold wpOp
 simp only [ho, Region.wanted, hg, if_true]
 exact .inl h
theorem all_cons {p : Nat → Prop} {x : Nat} {rs : List Nat} (h0 : p x) (h : ∀ i ∈ rs, p i) : ∀ i ∈ x :: rs, p i := fun i hi => by
 rcases List.mem_cons.1 hi with rfl | hi
 ·exact h0
 ·exact h i hi
theorem all_nil {p : Nat → Prop} : ∀ i ∈ ([] : List Nat), p i := fun _ h => by cases h
inductive V7 where
 | o | l | c | a | m | b | s
def V7.ld : V7 → Bool
 | .o => false | .l => true | .c => true | .a => false | .m => true | .b => true | .s => true
def V7.call : V7 → Bool
 | .o => false | .l => false | .c => true | .a => false | .m => false | .b => true | .s => true
def V7.al : V7 → Bool
 | .o => false | .l => false | .c => false | .a => true | .m => true | .b => true | .s => true
def V7.st : V7 → Bool
 | .o => false | .l => false | .c => false | .a => false | .m => false | .b => false | .s => true
def V7.cnt : V7 → Nat
 | .o => 4 | .l => 3 | .c => 2 | .a => 3 | .m => 2 | .b => 1 | .s => 0
def dn3 (s : V7 × V7) : Array Bool := #[s.1.ld, s.1.call, s.2.ld, s.2.call, s.1.al, s.2.al, s.1.st, s.2.st]
def cnt3 (s : V7 × V7) : Nat := s.1.cnt + s.2.cnt
def opt {α : Type} (b : Bool) (x : α) : Option α := match b with
 | true => some x
 | false => none
def putO (a : Act) (d : Nat) : Option Value → Act
 | some v => a.put (some d) v
 | none => a
theorem put_comm (a : Act) {i j : Nat} (h : i ≠ j) (u v : Value) : (a.put (some i) u).put (some j) v = (a.put (some j) v).put (some i) u := by
 simp only [Act.put]
 rw [Array.setIfInBounds_comm _ _ h]
theorem eval_same (a : Act) {d : Nat} (h : d < a.tmps.size) (v : Value) : (a.put (some d) v).eval (.tmp d) = v := by
 simp [Act.put, Act.eval, Array.getD_eq_getD_getElem?, Array.getElem?_setIfInBounds, h]
theorem eval_ne (a : Act) {d t : Nat} (h : d ≠ t) (v : Value) : (a.put (some d) v).eval (.tmp t) = a.eval (.tmp t) := by
 simp [Act.put, Act.eval, Array.getD_eq_getD_getElem?, Array.getElem?_setIfInBounds, h]
theorem putO_ne (a : Act) {d t : Nat} (h : d ≠ t) (x : Option Value) : (putO a d x).eval (.tmp t) = a.eval (.tmp t) := by
 cases x with
 | none => rfl
 | some v => exact eval_ne a h v
theorem putO_size (a : Act) (d : Nat) (x : Option Value) : (putO a d x).tmps.size = a.tmps.size := by
 cases x with
 | none => rfl
 | some v => simp [putO, Act.put]
theorem putO_put (a : Act) {i j : Nat} (h : i ≠ j) (x : Option Value) (v : Value) : (putO a i x).put (some j) v = putO (a.put (some j) v) i x := by
 cases x with
 | none => rfl
 | some u => exact put_comm a h u v
def can (a : Act) (x32 x33 x34 x35 x7 x8 : Option Value) : Act := putO (putO (putO (putO (putO (putO (a) 32 x32) 33 x33) 34 x34) 35 x35) 7 x7) 8 x8
theorem can32 (a : Act) (x33 x34 x35 x7 x8 : Option Value) (v : Value) : (can a none x33 x34 x35 x7 x8).put (some 32) v = can a (some v) x33 x34 x35 x7 x8 := by
 unfold can
 rw [putO_put _ (by decide), putO_put _ (by decide), putO_put _ (by decide), putO_put _ (by decide), putO_put _ (by decide)]
 rfl
theorem can33 (a : Act) (x32 x34 x35 x7 x8 : Option Value) (v : Value) : (can a x32 none x34 x35 x7 x8).put (some 33) v = can a x32 (some v) x34 x35 x7 x8 := by
 unfold can
 rw [putO_put _ (by decide), putO_put _ (by decide), putO_put _ (by decide), putO_put _ (by decide)]
 rfl
theorem can34 (a : Act) (x32 x33 x35 x7 x8 : Option Value) (v : Value) : (can a x32 x33 none x35 x7 x8).put (some 34) v = can a x32 x33 (some v) x35 x7 x8 := by
 unfold can
 rw [putO_put _ (by decide), putO_put _ (by decide), putO_put _ (by decide)]
 rfl
theorem can35 (a : Act) (x32 x33 x34 x7 x8 : Option Value) (v : Value) : (can a x32 x33 x34 none x7 x8).put (some 35) v = can a x32 x33 x34 (some v) x7 x8 := by
 unfold can
 rw [putO_put _ (by decide), putO_put _ (by decide)]
 rfl
theorem can7 (a : Act) (x32 x33 x34 x35 x8 : Option Value) (v : Value) : (can a x32 x33 x34 x35 none x8).put (some 7) v = can a x32 x33 x34 x35 (some v) x8 := by
 unfold can
 rw [putO_put _ (by decide)]
 rfl
theorem can8 (a : Act) (x32 x33 x34 x35 x7 : Option Value) (v : Value) : (can a x32 x33 x34 x35 x7 none).put (some 8) v = can a x32 x33 x34 x35 x7 (some v) := by
 unfold can
 rfl
theorem ev32 (a : Act) (h : 32 < a.tmps.size) (x33 x34 x35 x7 x8 : Option Value) (v : Value) : (can a (some v) x33 x34 x35 x7 x8).eval (.tmp 32) = v := by
 unfold can
 rw [putO_ne _ (by decide), putO_ne _ (by decide), putO_ne _ (by decide), putO_ne _ (by decide), putO_ne _ (by decide)]
 exact eval_same _ h v
theorem ev33 (a : Act) (h : 33 < a.tmps.size) (x32 x34 x35 x7 x8 : Option Value) (v : Value) : (can a x32 (some v) x34 x35 x7 x8).eval (.tmp 33) = v := by
 unfold can
 rw [putO_ne _ (by decide), putO_ne _ (by decide), putO_ne _ (by decide), putO_ne _ (by decide)]
 exact eval_same _ (by simp only [putO_size]; exact h) v
theorem ev34 (a : Act) (h : 34 < a.tmps.size) (x32 x33 x35 x7 x8 : Option Value) (v : Value) : (can a x32 x33 (some v) x35 x7 x8).eval (.tmp 34) = v := by
 unfold can
 rw [putO_ne _ (by decide), putO_ne _ (by decide), putO_ne _ (by decide)]
 exact eval_same _ (by simp only [putO_size]; exact h) v
theorem ev35 (a : Act) (h : 35 < a.tmps.size) (x32 x33 x34 x7 x8 : Option Value) (v : Value) : (can a x32 x33 x34 (some v) x7 x8).eval (.tmp 35) = v := by
 unfold can
 rw [putO_ne _ (by decide), putO_ne _ (by decide)]
 exact eval_same _ (by simp only [putO_size]; exact h) v
theorem ev7 (a : Act) (h : 7 < a.tmps.size) (x32 x33 x34 x35 x8 : Option Value) (v : Value) : (can a x32 x33 x34 x35 (some v) x8).eval (.tmp 7) = v := by
 unfold can
 rw [putO_ne _ (by decide)]
 exact eval_same _ (by simp only [putO_size]; exact h) v
theorem ev8 (a : Act) (h : 8 < a.tmps.size) (x32 x33 x34 x35 x7 : Option Value) (v : Value) : (can a x32 x33 x34 x35 x7 (some v)).eval (.tmp 8) = v := by
 unfold can
 exact eval_same _ (by simp only [putO_size]; exact h) v
theorem ev3 (a : Act) (x32 x33 x34 x35 x7 x8 : Option Value) : (can a x32 x33 x34 x35 x7 x8).eval (.tmp 3) = a.eval (.tmp 3) := by
 unfold can
 rw [putO_ne _ (by decide), putO_ne _ (by decide), putO_ne _ (by decide), putO_ne _ (by decide), putO_ne _ (by decide), putO_ne _ (by decide)]
theorem ev4 (a : Act) (x32 x33 x34 x35 x7 x8 : Option Value) : (can a x32 x33 x34 x35 x7 x8).eval (.tmp 4) = a.eval (.tmp 4) := by
 unfold can
 rw [putO_ne _ (by decide), putO_ne _ (by decide), putO_ne _ (by decide), putO_ne _ (by decide), putO_ne _ (by decide), putO_ne _ (by decide)]
def Inv3 (w1 : World) (a0 : Act) (S : SysD) (D : WldD) (SY WL : Array Value) (s : V7 × V7) (a : Act) (V : World) : Prop :=
 ∃ (xp xc xs yc yl : Value) (g7 g8 : Nat), a = can a0 (opt s.1.ld (.agg SY)) (opt s.1.call (.agg #[xp, xc, xs])) (opt s.2.ld (.agg WL)) (opt s.2.call (.agg #[.int .i64 D.tick, yc, yl])) (opt s.1.al (.pointer (some ⟨g7, 0, none⟩))) (opt s.2.al (.pointer (some ⟨g8, 0, none⟩))) ∧
  R3 w1 V (opt s.1.al g7) (opt s.2.al g8) (opt s.1.call fun V => Sys V xp xc xs S) (opt s.2.call fun V => Wld V yc yl D) (match s.1.st with | true => #[xp, xc, xs] | false => #[.slice none 0 0, .slice none 0 0, .slice none 0 0]) (match s.2.st with | true => #[.int .i64 D.tick, yc, yl] | false => #[.int .i64 0, .slice none 0 0, .slice none 0 0])
section
variable {w1 : World} {a0 : Act} {S : SysD} {D : WldD} {SY WL : Array Value} {q t : V7} {a : Act} {V V' : World}
theorem Inv3.begin (w1 : World) (a0 : Act) (S : SysD) (D : WldD) (SY WL : Array Value) : Inv3 w1 a0 S D SY WL (.o, .o) a0 w1.drew :=
 ⟨undef, undef, undef, undef, undef, 0, 0, rfl, R3.begin _ _ _⟩
theorem Inv3.d (h : Inv3 w1 a0 S D SY WL (q, t) a V) : Below w1.heap.size w1 V := let ⟨_, _, _, _, _, _, _, _, h⟩ := h; h.d
theorem Inv3.e3 (h : Inv3 w1 a0 S D SY WL (q, t) a V) : a.eval (.tmp 3) = a0.eval (.tmp 3) := let ⟨_, _, _, _, _, _, _, h, _⟩ := h; by rw [h]; exact ev3 ..
theorem Inv3.e4 (h : Inv3 w1 a0 S D SY WL (q, t) a V) : a.eval (.tmp 4) = a0.eval (.tmp 4) := let ⟨_, _, _, _, _, _, _, h, _⟩ := h; by rw [h]; exact ev4 ..
theorem Inv3.ld1o (h : Inv3 w1 a0 S D SY WL (.o, t) a V) : Inv3 w1 a0 S D SY WL (.l, t) (a.put (some 32) (.agg SY)) V := by
 obtain ⟨xp, xc, xs, yc, yl, g7, g8, rfl, h⟩ := h
 exact ⟨xp, xc, xs, yc, yl, g7, g8, can32 .., h⟩
theorem Inv3.ld1a (h : Inv3 w1 a0 S D SY WL (.a, t) a V) : Inv3 w1 a0 S D SY WL (.m, t) (a.put (some 32) (.agg SY)) V := by
 obtain ⟨xp, xc, xs, yc, yl, g7, g8, rfl, h⟩ := h
 exact ⟨xp, xc, xs, yc, yl, g7, g8, can32 .., h⟩
theorem Inv3.ev1l (hz : 32 < a0.tmps.size) (h : Inv3 w1 a0 S D SY WL (.l, t) a V) : a.eval (.tmp 32) = .agg SY := by
 obtain ⟨xp, xc, xs, yc, yl, g7, g8, rfl, h⟩ := h
 exact ev32 a0 hz ..
theorem Inv3.call1l (h : Inv3 w1 a0 S D SY WL (.l, t) a V) {xp xc xs : Value} (hb : Below V.heap.size V V') (hP : ∀ A : Nat → Prop, (∀ b, A b → b < V.heap.size) → KeepsA V' A fun V => Sys V xp xc xs S) : Inv3 w1 a0 S D SY WL (.c, t) (a.put (some 33) (.agg #[xp, xc, xs])) V' := by
 obtain ⟨_, _, _, yc, yl, g7, g8, rfl, h⟩ := h
 exact ⟨xp, xc, xs, yc, yl, g7, g8, can33 .., R3.call1 h hb hP⟩
theorem Inv3.ev1m (hz : 32 < a0.tmps.size) (h : Inv3 w1 a0 S D SY WL (.m, t) a V) : a.eval (.tmp 32) = .agg SY := by
 obtain ⟨xp, xc, xs, yc, yl, g7, g8, rfl, h⟩ := h
 exact ev32 a0 hz ..
theorem Inv3.call1m (h : Inv3 w1 a0 S D SY WL (.m, t) a V) {xp xc xs : Value} (hb : Below V.heap.size V V') (hP : ∀ A : Nat → Prop, (∀ b, A b → b < V.heap.size) → KeepsA V' A fun V => Sys V xp xc xs S) : Inv3 w1 a0 S D SY WL (.b, t) (a.put (some 33) (.agg #[xp, xc, xs])) V' := by
 obtain ⟨_, _, _, yc, yl, g7, g8, rfl, h⟩ := h
 exact ⟨xp, xc, xs, yc, yl, g7, g8, can33 .., R3.call1 h hb hP⟩
theorem Inv3.al1o (h : Inv3 w1 a0 S D SY WL (.o, t) a V) : Inv3 w1 a0 S D SY WL (.a, t) (a.put (some 7) (.pointer (some ⟨V.heap.size, 0, none⟩))) (V.alloc (.cells #[.slice none 0 0, .slice none 0 0, .slice none 0 0] 26)) := by
 obtain ⟨xp, xc, xs, yc, yl, g7, g8, rfl, h⟩ := h
 exact ⟨xp, xc, xs, yc, yl, V.heap.size, g8, can7 .., R3.new7 h _⟩
theorem Inv3.al1l (h : Inv3 w1 a0 S D SY WL (.l, t) a V) : Inv3 w1 a0 S D SY WL (.m, t) (a.put (some 7) (.pointer (some ⟨V.heap.size, 0, none⟩))) (V.alloc (.cells #[.slice none 0 0, .slice none 0 0, .slice none 0 0] 26)) := by
 obtain ⟨xp, xc, xs, yc, yl, g7, g8, rfl, h⟩ := h
 exact ⟨xp, xc, xs, yc, yl, V.heap.size, g8, can7 .., R3.new7 h _⟩
theorem Inv3.al1c (h : Inv3 w1 a0 S D SY WL (.c, t) a V) : Inv3 w1 a0 S D SY WL (.b, t) (a.put (some 7) (.pointer (some ⟨V.heap.size, 0, none⟩))) (V.alloc (.cells #[.slice none 0 0, .slice none 0 0, .slice none 0 0] 26)) := by
 obtain ⟨xp, xc, xs, yc, yl, g7, g8, rfl, h⟩ := h
 exact ⟨xp, xc, xs, yc, yl, V.heap.size, g8, can7 .., R3.new7 h _⟩
theorem Inv3.st1 (hz : 33 < a0.tmps.size) (h : Inv3 w1 a0 S D SY WL (.b, t) a V) : ∃ g xp xc xs, a.eval (.tmp 7) = .pointer (some ⟨g, 0, none⟩) ∧ a.eval (.tmp 33) = .agg #[xp, xc, xs] ∧ Rw V g 26 #[.slice none 0 0, .slice none 0 0, .slice none 0 0] ∧ Sys V xp xc xs S ∧ Inv3 w1 a0 S D SY WL (.s, t) a (V.setRow g #[xp, xc, xs]) := by
 obtain ⟨xp, xc, xs, yc, yl, g7, g8, rfl, h⟩ := h
 exact ⟨g7, xp, xc, xs, ev7 a0 om .., ev33 a0 hz .., (R3.a7 h g7 rfl).2, (R3.k1 h _ rfl).now, xp, xc, xs, yc, yl, g7, g8, rfl, R3.put7 h _⟩
theorem Inv3.ld2o (h : Inv3 w1 a0 S D SY WL (q, .o) a V) : Inv3 w1 a0 S D SY WL (q, .l) (a.put (some 34) (.agg WL)) V := by
 obtain ⟨xp, xc, xs, yc, yl, g7, g8, rfl, h⟩ := h
 exact ⟨xp, xc, xs, yc, yl, g7, g8, can34 .., h⟩
theorem Inv3.ld2a (h : Inv3 w1 a0 S D SY WL (q, .a) a V) : Inv3 w1 a0 S D SY WL (q, .m) (a.put (some 34) (.agg WL)) V := by
 obtain ⟨xp, xc, xs, yc, yl, g7, g8, rfl, h⟩ := h
 exact ⟨xp, xc, xs, yc, yl, g7, g8, can34 .., h⟩
theorem Inv3.ev2l (hz : 34 < a0.tmps.size) (h : Inv3 w1 a0 S D SY WL (q, .l) a V) : a.eval (.tmp 34) = .agg WL := by
 obtain ⟨xp, xc, xs, yc, yl, g7, g8, rfl, h⟩ := h
 exact ev34 a0 hz ..
theorem Inv3.call2l (h : Inv3 w1 a0 S D SY WL (q, .l) a V) {yc yl : Value} (hb : Below V.heap.size V V') (hP : ∀ A : Nat → Prop, (∀ b, A b → b < V.heap.size) → KeepsA V' A fun V => Wld V yc yl D) : Inv3 w1 a0 S D SY WL (q, .c) (a.put (some 35) (.agg #[.int .i64 D.tick, yc, yl])) V' := by
 obtain ⟨xp, xc, xs, _, _, g7, g8, rfl, h⟩ := h
 exact ⟨xp, xc, xs, yc, yl, g7, g8, can35 .., R3.call3 h hb hP⟩
theorem Inv3.ev2m (hz : 34 < a0.tmps.size) (h : Inv3 w1 a0 S D SY WL (q, .m) a V) : a.eval (.tmp 34) = .agg WL := by
 obtain ⟨xp, xc, xs, yc, yl, g7, g8, rfl, h⟩ := h
 exact ev34 a0 hz ..
theorem Inv3.call2m (h : Inv3 w1 a0 S D SY WL (q, .m) a V) {yc yl : Value} (hb : Below V.heap.size V V') (hP : ∀ A : Nat → Prop, (∀ b, A b → b < V.heap.size) → KeepsA V' A fun V => Wld V yc yl D) : Inv3 w1 a0 S D SY WL (q, .b) (a.put (some 35) (.agg #[.int .i64 D.tick, yc, yl])) V' := by
 obtain ⟨xp, xc, xs, _, _, g7, g8, rfl, h⟩ := h
 exact ⟨xp, xc, xs, yc, yl, g7, g8, can35 .., R3.call3 h hb hP⟩
theorem Inv3.al2o (h : Inv3 w1 a0 S D SY WL (q, .o) a V) : Inv3 w1 a0 S D SY WL (q, .a) (a.put (some 8) (.pointer (some ⟨V.heap.size, 0, none⟩))) (V.alloc (.cells #[.int .i64 0, .slice none 0 0, .slice none 0 0] 30)) := by
 obtain ⟨xp, xc, xs, yc, yl, g7, g8, rfl, h⟩ := h
 exact ⟨xp, xc, xs, yc, yl, g7, V.heap.size, can8 .., R3.new8 h _⟩
theorem Inv3.al2l (h : Inv3 w1 a0 S D SY WL (q, .l) a V) : Inv3 w1 a0 S D SY WL (q, .m) (a.put (some 8) (.pointer (some ⟨V.heap.size, 0, none⟩))) (V.alloc (.cells #[.int .i64 0, .slice none 0 0, .slice none 0 0] 30)) := by
 obtain ⟨xp, xc, xs, yc, yl, g7, g8, rfl, h⟩ := h
 exact ⟨xp, xc, xs, yc, yl, g7, V.heap.size, can8 .., R3.new8 h _⟩
theorem Inv3.al2c (h : Inv3 w1 a0 S D SY WL (q, .c) a V) : Inv3 w1 a0 S D SY WL (q, .b) (a.put (some 8) (.pointer (some ⟨V.heap.size, 0, none⟩))) (V.alloc (.cells #[.int .i64 0, .slice none 0 0, .slice none 0 0] 30)) := by
 obtain ⟨xp, xc, xs, yc, yl, g7, g8, rfl, h⟩ := h
 exact ⟨xp, xc, xs, yc, yl, g7, V.heap.size, can8 .., R3.new8 h _⟩
theorem Inv3.st2 (hz : 35 < a0.tmps.size) (h : Inv3 w1 a0 S D SY WL (q, .b) a V) : ∃ g yc yl, a.eval (.tmp 8) = .pointer (some ⟨g, 0, none⟩) ∧ a.eval (.tmp 35) = .agg #[.int .i64 D.tick, yc, yl] ∧ Rw V g 30 #[.int .i64 0, .slice none 0 0, .slice none 0 0] ∧ Wld V yc yl D ∧ Inv3 w1 a0 S D SY WL (q, .s) a (V.setRow g #[.int .i64 D.tick, yc, yl]) := by
 obtain ⟨xp, xc, xs, yc, yl, g7, g8, rfl, h⟩ := h
 exact ⟨g8, yc, yl, ev8 a0 om .., ev35 a0 hz .., (R3.a8 h g8 rfl).2, (R3.k3 h _ rfl).now, xp, xc, xs, yc, yl, g7, g8, rfl, R3.put8 h _⟩
theorem Inv3.over (h : Inv3 w1 a0 S D SY WL (.s, .s) a V) : ∃ (xp xc xs yc yl : Value) (g7 g8 : Nat), a = can a0 (some (.agg SY)) (some (.agg #[xp, xc, xs])) (some (.agg WL)) (some (.agg #[.int .i64 D.tick, yc, yl])) (some (.pointer (some ⟨g7, 0, none⟩))) (some (.pointer (some ⟨g8, 0, none⟩))) ∧
  Below w1.heap.size w1 V ∧ Rw V g7 26 #[xp, xc, xs] ∧ Rw V g8 30 #[.int .i64 D.tick, yc, yl] ∧ Sys V xp xc xs S ∧ Wld V yc yl D := by
 obtain ⟨xp, xc, xs, yc, yl, g7, g8, rfl, h⟩ := h
 exact ⟨xp, xc, xs, yc, yl, g7, g8, rfl, R3.d h, (R3.a7 h g7 rfl).2, (R3.a8 h g8 rfl).2, (R3.k1 h _ rfl).now, (R3.k3 h _ rfl).now⟩
end
end Go.Proofs.YtehhhiodfcdnmaaGreatDoor

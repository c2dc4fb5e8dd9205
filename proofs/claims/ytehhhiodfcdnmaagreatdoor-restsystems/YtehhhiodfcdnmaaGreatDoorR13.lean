/- What an instruction does, told by plain mathematics; a runner's do, whatever the instruction. -/
import Derived.Test.YtehhhiodfcdnmaaGreatDoorR12
import Derived.Defers
import Derived.Recover
namespace Go.Proofs.YtehhhiodfcdnmaaGreatDoor
set_option linter.unusedSimpArgs false
set_option linter.unusedVariables false
set_option maxRecDepth 100000
set_option maxHeartbeats 4000000
open Go.RowKit Go.Sort
theorem chk0 {op a b n : Int} (h : chkI op a b n = 0) : (1 ≤ op ∧ op ≤ 15) ∧ (0 ≤ a ∧ a < 4) ∧ (0 ≤ b ∧ b < 4) ∧ ((op = 8 ∨ op = 9) → 0 ≤ n ∧ n ≤ 19) ∧ ((op = 12 ∨ op = 13) → 0 ≤ n ∧ n ≤ 5) := by
 unfold chkI at h
 split at h
 ·omega
 ·rename_i ho
  have hop : op = 1 ∨ op = 2 ∨ op = 3 ∨ op = 4 ∨ op = 5 ∨ op = 6 ∨ op = 7 ∨ op = 8 ∨ op = 9 ∨ op = 10 ∨ op = 11 ∨ op = 12 ∨ op = 13 ∨ op = 14 ∨ op = 15 := by omega
  rcases hop with rfl | rfl | rfl | rfl | rfl | rfl | rfl | rfl | rfl | rfl | rfl | rfl | rfl | rfl | rfl
  all_goals
   simp [chkRow, rowA, rowB, rowN, rowLo, rowHi, regB] at h
   omega
def doC (i : Ins) (inn xs : List Int) (c : Cel) (x : Wnt) : Option (Cel × List Int × Wnt) :=
 if i.op = 1 then some ({ c.setReg i.a i.n with at_ := c.at_ + 1 }, xs, x)
 else if i.op = 2 then some ({ c.setReg i.a (c.reg i.b) with at_ := c.at_ + 1 }, xs, x)
 else if i.op = 3 then some ({ c.setReg i.a (wrap64 (c.reg i.a + c.reg i.b)) with at_ := c.at_ + 1 }, xs, x)
 else if i.op = 4 then some ({ c.setReg i.a (wrap64 (c.reg i.a - c.reg i.b)) with at_ := c.at_ + 1 }, xs, x)
 else if i.op = 5 then some ({ c.setReg i.a (truthI (decide (c.reg i.a < c.reg i.b))) with at_ := c.at_ + 1 }, xs, x)
 else if i.op = 6 then (if c.reg i.b < 0 ∨ 8 ≤ c.reg i.b then none else some ({ c.setReg i.a (c.memo (c.reg i.b)) with at_ := c.at_ + 1 }, xs, x))
 else if i.op = 7 then (if c.reg i.b < 0 ∨ 8 ≤ c.reg i.b then none else some ({ c.setMem (c.reg i.b) (c.reg i.a) with at_ := c.at_ + 1 }, xs, x))
 else if i.op = 8 then some ({ c with at_ := i.n }, xs, x)
 else if i.op = 9 then some ({ c with at_ := if c.reg i.a = 0 then i.n else c.at_ + 1 }, xs, x)
 else if i.op = 10 then some ({ (takeC c inn.length).setReg i.a (takeI inn c.read) with at_ := c.at_ + 1 }, xs, x)
 else if i.op = 11 then some ({ c with at_ := c.at_ + 1 }, tellL xs (c.reg i.a), x)
 else if i.op = 12 then some ({ c with at_ := c.at_ + 1 }, xs, ⟨12, i.n, i.a, 0, c.reg i.a⟩)
 else if i.op = 13 then some ({ c with at_ := c.at_ + 1 }, xs, ⟨13, i.n, i.a, i.b, 0⟩)
 else if i.op = 14 then some ({ c with at_ := c.at_ + 1 }, xs, x)
 else some ({ c with en := 1, at_ := c.at_ }, xs, x)
theorem do_any (i : Ins) (hi : i.chk = 0) (B : Nat) (w W : World) (g base : Nat) (c : Cel) (o iv : Value) (x : Wnt) (xs inn : List Int) (hat0 : 0 ≤ c.at_) (hat1 : c.at_ ≤ 20) (hr0 : 0 ≤ c.read) (hr1 : c.read ≤ 12) (hx : xs.length ≤ 16)
  (hS : Sl W 1 iv inn.length (ints inn)) (h : Rn B w W g base c o iv x xs) :
  Calls Tryz.prog 163 #[.pointer (some ⟨g, 0, none⟩), i.v] W fun e W' =>
   (doC i inn xs c x = none ∧ e = .panicked faultE ∧ Rn B w W' g base c o iv x xs ∧ Below W.heap.size W W') ∨ (∃ c' xs' x' o', doC i inn xs c x = some (c', xs', x') ∧ e = .returned (.tuple #[]) ∧ Rn B w W' g base c' o' iv x' xs') := by
 obtain ⟨op, a, b, n⟩ := i
 obtain ⟨hop, ⟨ha0, ha1⟩, ⟨hb0, hb1⟩, hj, hc⟩ := chk0 (op := op) (a := a) (b := b) (n := n) hi
 have hop : op = 1 ∨ op = 2 ∨ op = 3 ∨ op = 4 ∨ op = 5 ∨ op = 6 ∨ op = 7 ∨ op = 8 ∨ op = 9 ∨ op = 10 ∨ op = 11 ∨ op = 12 ∨ op = 13 ∨ op = 14 ∨ op = 15 := by omega
 unfold Ins.v
 rcases hop with rfl | rfl | rfl | rfl | rfl | rfl | rfl | rfl | rfl | rfl | rfl | rfl | rfl | rfl | rfl
 ·exact (do1 B w W g base c o iv x xs a b n ha0 ha1 hb0 hb1 hat0 hat1 h).mono fun e W' ⟨h1, h2⟩ => .inr ⟨_, _, _, _, by simp [doC], h1, h2⟩
 ·exact (do2 B w W g base c o iv x xs a b n ha0 ha1 hb0 hb1 hat0 hat1 h).mono fun e W' ⟨h1, h2⟩ => .inr ⟨_, _, _, _, by simp [doC], h1, h2⟩
 ·exact (do3 B w W g base c o iv x xs a b n ha0 ha1 hb0 hb1 hat0 hat1 h).mono fun e W' ⟨h1, h2⟩ => .inr ⟨_, _, _, _, by simp [doC], h1, h2⟩
 ·exact (do4 B w W g base c o iv x xs a b n ha0 ha1 hb0 hb1 hat0 hat1 h).mono fun e W' ⟨h1, h2⟩ => .inr ⟨_, _, _, _, by simp [doC], h1, h2⟩
 ·exact (do5 B w W g base c o iv x xs a b n ha0 ha1 hb0 hb1 hat0 hat1 h).mono fun e W' ⟨h1, h2⟩ => .inr ⟨_, _, _, _, by simp [doC], h1, h2⟩
 ·by_cases hm : c.reg b < 0 ∨ 8 ≤ c.reg b
  ·exact (do6_bad B w W g base c o iv x xs a b n ha0 ha1 hb0 hb1 hat0 hat1 hm h).mono fun e W' ⟨h1, h2⟩ => .inl ⟨by simp [doC, hm], h1, h2⟩
  ·exact (do6 B w W g base c o iv x xs a b n ha0 ha1 hb0 hb1 hat0 hat1 om om h).mono fun e W' ⟨h1, h2⟩ => .inr ⟨_, _, _, _, by simp [doC, hm], h1, h2⟩
 ·by_cases hm : c.reg b < 0 ∨ 8 ≤ c.reg b
  ·exact (do7_bad B w W g base c o iv x xs a b n ha0 ha1 hb0 hb1 hat0 hat1 hm h).mono fun e W' ⟨h1, h2⟩ => .inl ⟨by simp [doC, hm], h1, h2⟩
  ·exact (do7 B w W g base c o iv x xs a b n ha0 ha1 hb0 hb1 hat0 hat1 om om h).mono fun e W' ⟨h1, h2⟩ => .inr ⟨_, _, _, _, by simp [doC, hm], h1, h2⟩
 ·exact (do8 B w W g base c o iv x xs a b n ha0 ha1 hb0 hb1 hat0 hat1 h).mono fun e W' ⟨h1, h2⟩ => .inr ⟨_, _, _, _, by simp [doC], h1, h2⟩
 ·exact (do9 B w W g base c o iv x xs a b n ha0 ha1 hb0 hb1 hat0 hat1 h).mono fun e W' ⟨h1, h2⟩ => .inr ⟨_, _, _, _, by simp [doC], h1, h2⟩
 ·exact (do10 B w W g base c o iv x xs a b n ha0 ha1 hb0 hb1 hat0 hat1 inn hS hr0 hr1 h).mono fun e W' ⟨h1, h2⟩ => .inr ⟨_, _, _, _, by simp [doC], h1, h2⟩
 ·exact (do11 B w W g base c o iv x xs a b n ha0 ha1 hb0 hb1 hat0 hat1 hx h).mono fun e W' ⟨h1, o', h2⟩ => .inr ⟨_, _, _, o', by simp [doC], h1, h2⟩
 ·exact (do12 B w W g base c o iv x xs a b n ha0 ha1 hb0 hb1 hat0 hat1 h).mono fun e W' ⟨h1, h2⟩ => .inr ⟨_, _, _, _, by simp [doC], h1, h2⟩
 ·exact (do13 B w W g base c o iv x xs a b n ha0 ha1 hb0 hb1 hat0 hat1 h).mono fun e W' ⟨h1, h2⟩ => .inr ⟨_, _, _, _, by simp [doC], h1, h2⟩
 ·exact (do14 B w W g base c o iv x xs a b n ha0 ha1 hb0 hb1 hat0 hat1 h).mono fun e W' ⟨h1, h2⟩ => .inr ⟨_, _, _, _, by simp [doC], h1, h2⟩
 ·exact (do15 B w W g base c o iv x xs a b n ha0 ha1 hb0 hb1 hat0 hat1 h).mono fun e W' ⟨h1, h2⟩ => .inr ⟨_, _, _, _, by simp [doC], h1, h2⟩
def runC (l : List Ins) (inn xs : List Int) (c : Cel) (x : Wnt) : Cel × List Int × Wnt :=
 match l[c.at_.toNat]? with
 | none => ({ c with en := 2 }, xs, x)
 | some i => (doC i inn xs c x).getD ({ c with en := 2 }, xs, x)
theorem catch_panicking (V : World) (gb g : Nat) (v : Int) (u : TypeId) (pv : Value) (older : List PanicEntry) (hp : V.cell? ⟨gb, 0, none⟩ = some (.pointer (some ⟨g, 0, none⟩))) (hc : V.cell? ⟨g, 15, none⟩ = some (.int .i64 v)) (hz : V.frozen? ⟨g, 15, none⟩ = false) :
  CallsD Tryz.prog 162 #[.pointer (some ⟨gb, 0, none⟩)] (.panicking ({ v := .iface u pv, recovered := false } :: older)) V fun e u' V' =>
   e = .returned (.tuple #[]) ∧ u' = .panicking ({ v := .iface u pv, recovered := true } :: older) ∧ V' = V.setCell ⟨g, 15, none⟩ (.int .i64 2) := by
 refine callsD_of_wpS Tryz.func162 rfl fun c₀ cs hu => ?_
 apply wpS_seq
 apply wpS_region
 simp [wpOpsS, go_sem, recoverD, hu, Tryz.ntmps162, Exit.thenS]
 refine wpS_cond (t := true) (by simp [Act.eval, Array.replicate]) ?_
 simp only [if_true]
 apply wpS_region
 simp [wpOpsS, go_sem, hp, hc, hz, bodyPostS, results, Tryz.results162]
theorem catch_idle (V : World) (gb : Nat) :
  CallsD Tryz.prog 162 #[.pointer (some ⟨gb, 0, none⟩)] .returning V fun e u' V' => e = .returned (.tuple #[]) ∧ u' = .returning ∧ V' = V := by
 refine callsD_of_wpS Tryz.func162 rfl fun c₀ cs hu => ?_
 apply wpS_seq
 apply wpS_region
 simp [wpOpsS, go_sem, recoverD, hu, Tryz.ntmps162, Exit.thenS]
 refine wpS_cond (t := false) (by simp [Act.eval, Array.replicate]) ?_
 simp only [Bool.false_eq_true, if_false]
 refine wpS_of_wp (wp_skip ?_)
 cases c₀
 simp_all [bodyPostS, results, Tryz.results162]
theorem ent_fetch : Enters 164 := enters Tryz.func164 kr kr
theorem ent_do : Enters 163 := enters Tryz.func163 kr kr
theorem Rn.up {B : Nat} {w W W' : World} {g base : Nat} {c : Cel} {o i : Value} {x : Wnt} {xs : List Int} (h : Rn B w W g base c o i x xs) (hb : Below W.heap.size W W') : Rn B w W' g base c o i x xs :=
 ⟨h.r.up hb h.lt, h.d.trans (hb.mono (Nat.le_of_lt (Nat.lt_of_le_of_lt h.g0 h.lt))), own_up h.own hb (own_lt h.own), h.g0, h.b0, h.no, Nat.le_trans h.bs hb.size⟩
theorem leaves_tmps {P : Program} {fn : Func} {tmps tmps' : Array Value} {R : Ending → World → Prop} (h : ∀ w', (results fn tmps).run P w' = (results fn tmps').run P w') : ∀ (ds : List Deferred) (u : FrameMode) (w : World), Leaves P fn tmps R ds u w → Leaves P fn tmps' R ds u w
 | [], .returning, w, hl => by
  obtain ⟨v, h1, h2⟩ := hl
  exact ⟨v, (h w).symm.trans h1, h2⟩
 | [], .panicking _, _, hl => hl
 | [], .run, _, hl => hl
 | d :: ds, u, w, hl => by
  obtain ⟨h0, fv, cap, f, args, h1, h2, h3⟩ := hl
  refine ⟨h0, fv, cap, f, args, h1, h2, h3.mono ?_⟩
  rintro (v | ch | _) u' w' hq
  ·exact leaves_tmps h ds _ _ hq
  ·exact leaves_tmps h ds _ _ hq
  ·exact hq
theorem step_panic {R : Ending → World → Prop} (dst : Option Tmp) (v : Value) (ch : List PanicEntry) (a : Act) (w : World) (h : bodyPostD Tryz.prog Tryz.f141 R (.panic ch) (a.put dst v) w) : bodyPostD Tryz.prog Tryz.f141 R (.panic ch) a w := by
 have hd : (a.put dst v).defers = a.defers := by cases dst <;> rfl
 change Leaves _ _ (a.put dst v).tmps R (a.put dst v).defers (.panicking ch) w at h
 change Leaves _ _ a.tmps R a.defers (.panicking ch) w
 rw [hd] at h
 refine leaves_tmps (fun w' => ?_) _ _ _ h
 simp [results, Tryz.results141]
theorem lt_of_cell {w : World} {a : Addr} {v : Value} (h : w.cell? a = some v) : a.block < w.heap.size := block_lt_of_cell h
theorem step_any (l : List Ins) (hl : firstE l = 0) (B : Nat) (w W : World) (g base : Nat) (c : Cel) (o iv v : Value) (x : Wnt) (xs inn : List Int) (hat0 : 0 ≤ c.at_) (hat1 : c.at_ ≤ 20) (hr0 : 0 ≤ c.read) (hr1 : c.read ≤ 12) (hx : xs.length ≤ 16)
  (hC : Sl W 4 v l.length (codeC l)) (hS : Sl W 1 iv inn.length (ints inn)) (h : Rn B w W g base c o iv x xs) :
  Calls Tryz.prog 141 #[.pointer (some ⟨g, 0, none⟩), v] W fun e W' => e = .returned (.tuple #[]) ∧ ∃ o', Rn B w W' g base (runC l inn xs c x).1 o' iv (runC l inn xs c x).2.2 (runC l inn xs c x).2.1 := by
 have hmf : ∀ (fn : Fn) (first cap : Array Value) (w : World), (Instr.makeFunc fn first cap).run Tryz.prog w = .ok (.func fn first cap) w := fun _ _ _ _ => rfl
 have hg : g < W.heap.size := h.lt
 have H := Lib.hid h
 have HC := Lib.hid hC
 have HS := Lib.hid hS
 have hB : Below W.heap.size W (W.alloc (.cells #[.pointer (some ⟨g, 0, none⟩)] 213)).drew := ((Below.refl _ _).alloc (Nat.le_refl _) _).drew
 have HB := Lib.hid hB
 obtain ⟨n, hn⟩ : ∃ n : Nat, c.at_ = n := ⟨c.at_.toNat, by omega⟩
 clear h hC hS hB
 by_cases hlt : n < l.length
 ·have hck : l[n].chk = 0 := firstE_zero hl n hlt
  have hrun : runC l inn xs c x = (doC l[n] inn xs c x).getD ({ c with en := 2 }, xs, x) := by
   unfold runC
   rw [hn, Int.toNat_natCast, List.getElem?_eq_getElem hlt]
  have HR := Lib.hid hrun
  have HN := Lib.hid hn
  clear hrun hl
  go_enter_defers Tryz.func141, Tryz.ntmps141
  go_wp2
  refine region_still (S := fun w' => w'.cell? ⟨W.heap.size, 0, none⟩ = some (.pointer (some ⟨g, 0, none⟩))) 4 kr ((Rw.new W 213 _ rfl).cell rfl) (fun hHeld => ?_)
  refine Still.takeBy (i := 0) [] (v := ?v1) kr kr rfl kr kr kr (fun ch a w h => step_panic _ _ ch a w h) (Or.inl ⟨by rfl, ?y1⟩) hHeld ?r1
  case y1 => (intro w' hSw; (try dsimp only at hSw); go_simp; try with_reducible rfl)
  simp only [Act.put, l1, l2, l3, l4, l5, l6]
  refine Still.takeBy (i := 1) [3] (v := ?v2) kr kr rfl kr kr kr (fun ch a w h => step_panic _ _ ch a w h) (Or.inl ⟨by rfl, ?y2⟩) hHeld ?r2
  case y2 => (intro w' hSw; (try dsimp only at hSw); go_simp; try with_reducible rfl)
  simp only [Act.put, l1, l2, l3, l4, l5, l6]
  refine Still.takeBy (i := 2) [3] (v := ?v3) kr kr rfl kr kr kr (fun ch a w h => step_panic _ _ ch a w h) (Or.inl ⟨by rfl, ?y3⟩) hHeld ?r3
  case y3 => (intro w' hSw; (try dsimp only at hSw); go_simp; try with_reducible rfl)
  simp only [Act.put, l1, l2, l3, l4, l5, l6]
  refine Still.o 3 rfl rfl (fun K hK => ?_)
  refine wp_call 164 _ _ rfl ent_fetch #[.pointer (some ⟨g, 0, none⟩), v] ev ((fetch_ok _ g l v n hlt (by rw [← HN.out]; exact (H.out.up HB.out).r.cell rfl) (H.out.up HB.out).lt (HC.out.up HB.out)).mono ?_)
  rintro e V ⟨rfl, hb⟩
  have hq : V.cell? ⟨W.heap.size, 0, none⟩ = some (.pointer (some ⟨g, 0, none⟩)) := bcl hb (by simp) ((Rw.new W 213 _ rfl).cell rfl)
  have HBB : Hid (Below W.heap.size W V) := HB.out.trans (hb.mono (by simp))
  refine ⟨_, rfl, hK _ _ (fun _ => hq) (fun _ => ?_)⟩
  clear hK K hb
  try simp only [Act.put, l1, l2, l3, l4, l5, l6]
  refine Still.o 4 rfl rfl (fun K hK => ?_)
  refine wp_call_or 163 _ _ rfl ent_do #[.pointer (some ⟨g, 0, none⟩), l[n].v] ev faultE ((do_any l[n] hck B w V g base c o iv x xs inn hat0 hat1 hr0 hr1 hx (HS.out.up HBB.out) (H.out.up HBB.out)).mono ?_)
  rintro e V1 (⟨hd, rfl, hR, hb⟩ | ⟨c', xs', x', o', hd, rfl, hR⟩)
  ·refine .inr ⟨rfl, ?_⟩
   clear hK K
   have hq1 := bcl hb (lt_of_cell hq) hq
   have HRR := Lib.hid hR
   have HE : Hid (runC l inn xs c x = ({ c with en := 2 }, xs, x)) := by
    show runC l inn xs c x = _
    rw [HR.out, hd]
    rfl
   clear hR hd hb HR
   refine leaves_cons (f := 162) (args := #[.pointer (some ⟨W.heap.size, 0, none⟩)]) (by simp) (by simp [go_sem]) ?_
   refine (catch_panicking V1 W.heap.size g c.en _ _ [] hq1 (HRR.out.r.cell rfl) (HRR.out.r.fr _)).mono ?_
   rintro e u' V2 ⟨rfl, rfl, rfl⟩
   refine ⟨.tuple #[], by simp [results, Tryz.results141], rfl, ?_⟩
   rw [HE.out]
   exact ⟨o, HRR.out.setEn 2⟩
  ·refine .inl ⟨_, rfl, ?_⟩
   refine hK _ _ ab (fun _ => Still.vv ?_)
   clear hK K
   have HRR := Lib.hid hR
   have HE : Hid (runC l inn xs c x = (c', xs', x')) := by
    show runC l inn xs c x = _
    rw [HR.out, hd]
    rfl
   clear hR hd HR
   go_wp2
   refine leaves_cons (f := 162) (args := #[.pointer (some ⟨W.heap.size, 0, none⟩)]) (by simp) (by simp [go_sem]) ?_
   refine (catch_idle V1 W.heap.size).mono ?_
   rintro e u' V2 ⟨rfl, rfl, rfl⟩
   refine ⟨.tuple #[], by simp [results, Tryz.results141], rfl, ?_⟩
   rw [HE.out]
   exact ⟨o', HRR.out⟩
 ·have hrun : runC l inn xs c x = ({ c with en := 2 }, xs, x) := by
   unfold runC
   rw [hn, Int.toNat_natCast, List.getElem?_eq_none om]
  have HE := Lib.hid hrun
  have HN := Lib.hid hn
  obtain ⟨ao, cap, rfl⟩ := HC.out.form
  clear hrun hl
  go_enter_defers Tryz.func141, Tryz.ntmps141
  go_wp2
  refine region_still (S := fun w' => w'.cell? ⟨W.heap.size, 0, none⟩ = some (.pointer (some ⟨g, 0, none⟩))) 4 kr ((Rw.new W 213 _ rfl).cell rfl) (fun hHeld => ?_)
  refine Still.takeBy (i := 0) [] (v := ?v4) kr kr rfl kr kr kr (fun ch a w h => step_panic _ _ ch a w h) (Or.inl ⟨by rfl, ?y4⟩) hHeld ?r4
  case y4 => (intro w' hSw; (try dsimp only at hSw); go_simp; try with_reducible rfl)
  simp only [Act.put, l1, l2, l3, l4, l5, l6]
  refine Still.takeBy (i := 1) [3] (v := ?v5) kr kr rfl kr kr kr (fun ch a w h => step_panic _ _ ch a w h) (Or.inl ⟨by rfl, ?y5⟩) hHeld ?r5
  case y5 => (intro w' hSw; (try dsimp only at hSw); go_simp; try with_reducible rfl)
  simp only [Act.put, l1, l2, l3, l4, l5, l6]
  refine Still.takeBy (i := 2) [3] (v := ?v6) kr kr rfl kr kr kr (fun ch a w h => step_panic _ _ ch a w h) (Or.inl ⟨by rfl, ?y6⟩) hHeld ?r6
  case y6 => (intro w' hSw; (try dsimp only at hSw); go_simp; try with_reducible rfl)
  simp only [Act.put, l1, l2, l3, l4, l5, l6]
  refine Still.o 3 rfl rfl (fun K hK => ?_)
  refine wp_call_panic 164 _ _ rfl ent_fetch #[.pointer (some ⟨g, 0, none⟩), .slice ao l.length cap] ev faultE ((fetch_bad _ g ao l.length cap n om (by rw [← HN.out]; exact (H.out.up HB.out).r.cell rfl) (H.out.up HB.out).lt).mono ?_)
  rintro e V1 ⟨rfl, hb⟩
  refine ⟨rfl, ?_⟩
  clear hK K
  have hq1 : V1.cell? ⟨W.heap.size, 0, none⟩ = some (.pointer (some ⟨g, 0, none⟩)) := bcl hb (by simp) ((Rw.new W 213 _ rfl).cell rfl)
  have HRR : Hid (Rn B w V1 g base c o iv x xs) := H.out.up (HB.out.trans (hb.mono (by simp)))
  clear hb
  refine leaves_cons (f := 162) (args := #[.pointer (some ⟨W.heap.size, 0, none⟩)]) (by simp) (by simp [go_sem]) ?_
  refine (catch_panicking V1 W.heap.size g c.en _ _ [] hq1 (HRR.out.r.cell rfl) (HRR.out.r.fr _)).mono ?_
  rintro e u' V2 ⟨rfl, rfl, rfl⟩
  refine ⟨.tuple #[], by simp [results, Tryz.results141], rfl, ?_⟩
  rw [HE.out]
  exact ⟨o, HRR.out.setEn 2⟩
end Go.Proofs.YtehhhiodfcdnmaaGreatDoor

/- The errors of Step: checkStep and the reference's StepError. -/
import Derived.Test.YtehhhiodfcdnmaaGreatDoorR5
import Derived.Test.YtehhhiodfcdnmaaGreatDoorR0
import Derived.Deep.AppendLies
import Derived.Test.YtehhhiodfcdnmaaGreatDoorR2
import Derived.Deep.MidRow
namespace Go.Proofs.YtehhhiodfcdnmaaGreatDoor
set_option linter.unusedSimpArgs false
set_option linter.unusedVariables false
set_option maxRecDepth 100000
set_option maxHeartbeats 4000000
open Go.RowKit Go.Sort
def stepE (d : Int) (i : Nat) (f : Bool) (r : Int) : Int := if d != 0 then d else if 12 < i then 2 else if !f then 1 else if (i : Int) < r then 1 else 0
def partV (v u : Value) : Value := .agg #[v, u]
theorem checkStep_any (l : List Ins) (v : Value) (iao : Option Addr) (i icap : Nat) (c : Cel) (ao : Option Addr) (n cap : Nat) (d : Int) (hd : chkC l = d) (f : Bool) (hf : c.fine n = f) (w : World) (he : Env w) (hS : Sl w 4 v l.length (codeC l)) :
  Calls Tryz.prog 139 #[partV v (.slice iao i icap), c.v (.slice ao n cap)] w fun e w' => e = .returned (.int .i64 (stepE d i f c.read)) ∧ Below w.heap.size w w' := by
 have hE : c.err n = if f then 0 else 1 := by rw [← hf]; rfl
 have hcc : ∀ w, Calls Tryz.prog 115 #[c.v (.slice ao n cap)] w fun e w' => e = .returned (.int .i64 (if f then 0 else 1)) ∧ Below w.heap.size w w' := fun w => hE ▸ cellCheck_any c ao n cap w
 have hkk : ∀ w, Env w → Sl w 4 v l.length (codeC l) → Calls Tryz.prog 89 #[v] w fun e w' => e = .returned (.int .i64 d) ∧ Below w.heap.size w w' := fun w he hS => hd ▸ codeCheck_any l v w he hS
 have HC := Lib.hid hcc
 have HK := Lib.hid hkk
 have HS := Lib.hid hS
 clear hE hf hcc hkk hS hd
 unfold Cel.v at HC
 unfold Cel.v partV
 go_enter Tryz.func139, Tryz.ntmps139
 go_wp2_with fail
 refine (HK.out _ (he.up up0) (HS.out.up up0)).mono ?_
 rintro e w1 ⟨rfl, b1⟩
 have k0 : w1.cell? ⟨w.heap.size + 1, 0, none⟩ = some (.int .i64 c.at_) := bcl b1 (by simp) (by simp)
 have k1 : w1.cell? ⟨w.heap.size + 1, 1, none⟩ = some (.int .i64 c.r0) := bcl b1 (by simp) (by simp)
 have k2 : w1.cell? ⟨w.heap.size + 1, 2, none⟩ = some (.int .i64 c.r1) := bcl b1 (by simp) (by simp)
 have k3 : w1.cell? ⟨w.heap.size + 1, 3, none⟩ = some (.int .i64 c.r2) := bcl b1 (by simp) (by simp)
 have k4 : w1.cell? ⟨w.heap.size + 1, 4, none⟩ = some (.int .i64 c.r3) := bcl b1 (by simp) (by simp)
 have k5 : w1.cell? ⟨w.heap.size + 1, 5, none⟩ = some (.int .i64 c.m0) := bcl b1 (by simp) (by simp)
 have k6 : w1.cell? ⟨w.heap.size + 1, 6, none⟩ = some (.int .i64 c.m1) := bcl b1 (by simp) (by simp)
 have k7 : w1.cell? ⟨w.heap.size + 1, 7, none⟩ = some (.int .i64 c.m2) := bcl b1 (by simp) (by simp)
 have k8 : w1.cell? ⟨w.heap.size + 1, 8, none⟩ = some (.int .i64 c.m3) := bcl b1 (by simp) (by simp)
 have k9 : w1.cell? ⟨w.heap.size + 1, 9, none⟩ = some (.int .i64 c.m4) := bcl b1 (by simp) (by simp)
 have k10 : w1.cell? ⟨w.heap.size + 1, 10, none⟩ = some (.int .i64 c.m5) := bcl b1 (by simp) (by simp)
 have k11 : w1.cell? ⟨w.heap.size + 1, 11, none⟩ = some (.int .i64 c.m6) := bcl b1 (by simp) (by simp)
 have k12 : w1.cell? ⟨w.heap.size + 1, 12, none⟩ = some (.int .i64 c.m7) := bcl b1 (by simp) (by simp)
 have k13 : w1.cell? ⟨w.heap.size + 1, 13, none⟩ = some (.int .i64 c.read) := bcl b1 (by simp) (by simp)
 have k14 : w1.cell? ⟨w.heap.size + 1, 14, none⟩ = some (.slice ao n cap) := bcl b1 (by simp) (by simp)
 have k15 : w1.cell? ⟨w.heap.size + 1, 15, none⟩ = some (.int .i64 c.en) := bcl b1 (by simp) (by simp)
 have p1 : w1.cell? ⟨w.heap.size, 1, none⟩ = some (.slice iao i icap) := bcl b1 so (cl_alloc _ (by simp) (by simp))
 have hz1 : w.heap.size + 1 < w1.heap.size := by have := b1.size; simp at this; omega
 have u1 : Below w.heap.size w w1 := by
  refine Below.trans ?_ (b1.mono so)
  exact up0
 clear b1 HK
 by_cases h0 : d = 0
 ·subst h0
  by_cases h1 : 12 < i
  ·have h1' : (12 : Int) < i := by omega
   go_wp2
   go_ret
   exact ⟨ret_int (by simp [stepE, h1]), u1⟩
  ·have h1' : ¬ (12 : Int) < i := by omega
   go_wp2_with fail
   refine (HC.out _).mono ?_
   rintro e w2 ⟨rfl, b2⟩
   have k13 := bcl b2 hz1 k13
   have p1 := bcl b2 (Nat.lt_of_succ_lt hz1) p1
   have u2 := u1.trans (b2.mono u1.size)
   clear b2 HC k0 k1 k2 k3 k4 k5 k6 k7 k8 k9 k10 k11 k12 k14 k15
   cases f
   all_goals go_wp2
   all_goals go_ret
   all_goals refine ⟨ret_int ?_, u2⟩
   all_goals first
    | (simp_all [stepE]; done)
    | (unfold stepE; rw [if_neg (by simp), if_neg h1, if_neg (by simp), if_neg om])
 ·have h0' : (d != 0) = true := by simpa using h0
  go_wp2
  go_ret
  exact ⟨ret_int (by simp [stepE, h0]), u1⟩
section
variable {P : Program}
theorem run_append_sl (w : World) (t ty : TypeId) (base : Nat) (e : TypeId) (i : TypeInfo) (z : Value) (size bytes : Nat) (ht : P.underlying t = some (.slice e)) (hi : P.info? e = some i) (hz : i.zero = some z)
  (hsize : i.size = size) (hby : i.bytes = bytes) (hzs : z.cells.size = size) (hsz : 0 < size) (v : Value) (n : Nat) (xs : List Value) (hown : w.ownsRow base e size v n xs)
  (u : Value) (m : Nat) (news : List Value) (hS : Sl w size u m news) (h1 : ∀ u ∈ news, u.oneCell' = true) (h63 : n + m ≤ maxLen) (hbytes : (n + m) * bytes ≤ 140737488355328) (hbase : base ≤ w.heap.size) :
  ∃ v' w', (Builtin.append_ #[t, t] ty #[v, u]).run P w = .ok v' w' ∧ w'.ownsRow base e size v' (n + m) (xs ++ news) ∧ w.grownBy w' v.ownBlock ∧ (v'.ownBlock = v.ownBlock ∨ v'.ownBlock = some w.heap.size) := by
 by_cases hm : m = 0
 ·subst hm
  have hnn : news = [] := List.eq_nil_of_length_eq_zero (by simpa using hS.1)
  subst hnn
  obtain ⟨ao, cap, rfl⟩ := hS.form
  cases ao with
  | some ad =>
   obtain ⟨v', w', hr, h2, h3, _, h5⟩ := run_append_own_at (P := P) w base t ty e i z size bytes ht hi hz hsize hby hzs hsz v n xs hown ad 0 cap [] (by simp) (by simp) (by simp) h63 hbytes hbase
   exact ⟨v', w', hr, h2, h3, h5⟩
  | none =>
   refine ⟨v, w, ?_, by simpa using hown, ⟨rfl, rfl, rfl, Nat.le_refl _, fun _ _ _ => rfl⟩, .inl rfl⟩
   rcases hown.2 with ⟨rfl, rfl⟩ | ⟨g, cap', cur, rfl, hbg, hg, hnc, hcm, hcs, htake⟩
   ·simp [Builtin.append_, run_underlying ht, sizeOf, typeInfo, hi, Builtin.lenOf, Builtin.firstCells, loadCells, loadCellsFrom]
   ·simp [Builtin.append_, run_underlying ht, sizeOf, typeInfo, hi, Builtin.lenOf, Builtin.firstCells, loadCells, loadCellsFrom, hnc, storeCells]
 ·obtain ⟨b, off, cap, rfl, _, _, hc⟩ := hS.open om
  obtain ⟨v', w', hr, h2, h3, _, h5⟩ := run_append_own_at (P := P) w base t ty e i z size bytes ht hi hz hsize hby hzs hsz v n xs hown ⟨b, off, none⟩ m cap news hS.1 (sl_src hc) h1 h63 hbytes hbase
  exact ⟨v', w', hr, h2, h3, h5⟩
theorem wp_append_sl {o : Oper} {a : Act} {w : World} {K : Act → World → Prop} {Q : Exit → Act → World → Prop} (s x : Operand) (t : TypeId)
  (ho : o.op = .call { callee := .builtin .append, args := #[s, x], argTypes := #[t, t] })
  (base : Nat) (e : TypeId) (i : TypeInfo) (z : Value) (size bytes : Nat) (ht : P.underlying t = some (.slice e)) (hi : P.info? e = some i) (hz : i.zero = some z)
  (hsize : i.size = size) (hby : i.bytes = bytes) (hzs : z.cells.size = size) (hsz : 0 < size) (v : Value) (n : Nat) (xs : List Value) (hs : a.eval s = v) (hown : w.ownsRow base e size v n xs)
  (u : Value) (m : Nat) (news : List Value) (hx : a.eval x = u) (hS : Sl w size u m news) (h1 : ∀ u ∈ news, u.oneCell' = true) (h63 : n + m ≤ maxLen) (hbytes : (n + m) * bytes ≤ 140737488355328) (hbase : base ≤ w.heap.size)
  (h : ∀ v' w', w'.ownsRow base e size v' (n + m) (xs ++ news) → w.grownBy w' v.ownBlock → (v'.ownBlock = v.ownBlock ∨ v'.ownBlock = some w.heap.size) → K (a.put o.dst v') w') : o.wp P a w K Q := by
 obtain ⟨v', w', hr, h2, h3, h5⟩ := run_append_sl (P := P) w t o.type base e i z size bytes ht hi hz hsize hby hzs hsz v n xs hown u m news hS h1 h63 hbytes hbase
 unfold Oper.wp execOp
 simp only [ho, resolve, invoke, builtin, Sem.run_bind, Sem.run_pure, Result.andThen_ok, List.map_toArray, List.map_cons, List.map_nil, hs, hx, hr]
 exact h v' w' h2 h3 h5
theorem run_append_lit (w : World) (t ty : TypeId) (base : Nat) (e : TypeId) (i : TypeInfo) (z : Value) (size bytes : Nat) (ht : P.underlying t = some (.slice e)) (hi : P.info? e = some i) (hz : i.zero = some z)
  (hsize : i.size = size) (hby : i.bytes = bytes) (hzs : z.cells.size = size) (hsz : 0 < size) (B : Nat) (hown : w.ownsRow base e size (.slice (some ⟨B, 0, none⟩) 0 0) 0 [])
  (u : Value) (m : Nat) (news : List Value) (hS : Sl w size u m news) (h1 : ∀ u ∈ news, u.oneCell' = true) (h63 : m ≤ maxLen) (hbytes : m * bytes ≤ 140737488355328) (hbase : base ≤ w.heap.size) :
  ∃ v' w', (Builtin.append_ #[t, t] ty #[.slice (some ⟨B, 0, none⟩) 0 0, u]).run P w = .ok v' w' ∧ w'.ownsRow base e size v' m news ∧ Below w.heap.size w w' ∧ (∀ k, v'.ownBlock = some k → k = B ∨ k = w.heap.size) := by
 by_cases hm : m = 0
 ·subst hm
  have hnn : news = [] := List.eq_nil_of_length_eq_zero (by simpa using hS.1)
  subst hnn
  obtain ⟨ao, cap, rfl⟩ := hS.form
  refine ⟨_, w, ?_, hown, Below.refl _ _, fun k hk => .inl (by simpa [Value.ownBlock, eq_comm] using hk)⟩
  cases ao with
  | some ad => simp [Builtin.append_, run_underlying ht, sizeOf, typeInfo, hi, Builtin.lenOf, Builtin.firstCells, loadCells, loadCellsFrom, storeCells]
  | none => simp [Builtin.append_, run_underlying ht, sizeOf, typeInfo, hi, Builtin.lenOf, Builtin.firstCells, loadCells, loadCellsFrom, storeCells]
 ·obtain ⟨b, off, cap, rfl, _, _, hc⟩ := hS.open om
  obtain ⟨v', w', hr, h2, _, _, _⟩ := run_append_own_at (P := P) w base t ty e i z size bytes ht hi hz hsize hby hzs hsz _ 0 [] hown ⟨b, off, none⟩ m cap news hS.1 (sl_src hc) h1 (by simpa using h63) (by simpa using hbytes) hbase
  have hr2 := run_append_grow (P := P) w t ty e i z ht hi hz ⟨B, 0, none⟩ 0 0 [] (by simp) (by simp) ⟨b, off, none⟩ m cap news (by rw [hsize]; exact hS.1) (sl_src hc) om (by unfold maxLen at h63; omega) (growslice_fits om (by rw [hby]; simpa using hbytes))
  have hw := hr.symm.trans hr2
  injection hw with hv hw
  refine ⟨v', w', hr, by simpa using h2, ?_, fun k hk => .inr ?_⟩
  ·rw [hw]
   exact (Below.refl _ _).drew.alloc (Nat.le_refl _) _
  ·rw [hv] at hk
   simpa [Value.ownBlock, eq_comm] using hk
theorem wp_append_lit {o : Oper} {a : Act} {w : World} {K : Act → World → Prop} {Q : Exit → Act → World → Prop} (s x : Operand) (t : TypeId)
  (ho : o.op = .call { callee := .builtin .append, args := #[s, x], argTypes := #[t, t] })
  (base : Nat) (e : TypeId) (i : TypeInfo) (z : Value) (size bytes : Nat) (ht : P.underlying t = some (.slice e)) (hi : P.info? e = some i) (hz : i.zero = some z)
  (hsize : i.size = size) (hby : i.bytes = bytes) (hzs : z.cells.size = size) (hsz : 0 < size) (B : Nat) (hs : a.eval s = .slice (some ⟨B, 0, none⟩) 0 0) (hown : w.heap[B]? = some (.cells #[] e (0, 0))) (hB : base ≤ B)
  (u : Value) (m : Nat) (news : List Value) (hx : a.eval x = u) (hS : Sl w size u m news) (h1 : ∀ u ∈ news, u.oneCell' = true) (h63 : m ≤ maxLen) (hbytes : m * bytes ≤ 140737488355328)
  (h : ∀ v' w', w'.ownsRow base e size v' m news → Below w.heap.size w w' → (∀ k, v'.ownBlock = some k → k = B ∨ k = w.heap.size) → K (a.put o.dst v') w') : o.wp P a w K Q := by
 have hBl : B < w.heap.size := by
  rcases Nat.lt_or_ge B w.heap.size with h | h
  ·exact h
  ·rw [Array.getElem?_eq_none h] at hown; cases hown
 obtain ⟨v', w', hr, h2, h3, h5⟩ := run_append_lit (P := P) w t o.type base e i z size bytes ht hi hz hsize hby hzs hsz B ⟨by simp, .inr ⟨B, 0, #[], rfl, hB, hown, Nat.le_refl _, Nat.zero_le _, by simp, by simp⟩⟩ u m news hS h1 h63 hbytes om
 unfold Oper.wp execOp
 simp only [ho, resolve, invoke, builtin, Sem.run_bind, Sem.run_pure, Result.andThen_ok, List.map_toArray, List.map_cons, List.map_nil, hs, hx, hr]
 exact h v' w' h2 h3 h5
theorem step_append_lit {ops : Array Oper} {o : Oper} {a : Act} {w : World} {K : Act → World → Prop} {Q : Exit → Act → World → Prop} {E : Prop} (hgd : o.guard = none) (s x : Operand) (t : TypeId)
  (ho : o.op = .call { callee := .builtin .append, args := #[s, x], argTypes := #[t, t] })
  (base : Nat) (e : TypeId) (i : TypeInfo) (z : Value) (size bytes : Nat) (ht : P.underlying t = some (.slice e)) (hi : P.info? e = some i) (hz : i.zero = some z)
  (hsize : i.size = size) (hby : i.bytes = bytes) (hzs : z.cells.size = size) (hsz : 0 < size) (B : Nat) (hs : a.eval s = .slice (some ⟨B, 0, none⟩) 0 0) (hown : w.heap[B]? = some (.cells #[] e (0, 0))) (hB : base ≤ B)
  (u : Value) (m : Nat) (news : List Value) (hx : a.eval x = u) (hS : Sl w size u m news) (h1 : ∀ u ∈ news, u.oneCell' = true) (h63 : m ≤ maxLen) (hbytes : m * bytes ≤ 140737488355328)
  (h : ∀ v' w', w'.ownsRow base e size v' m news → Below w.heap.size w w' → (∀ k, v'.ownBlock = some k → k = B ∨ k = w.heap.size) → K (a.put o.dst v') w') :
  if Region.wanted o (yielded ops a.tmps) = true then Oper.wp P o a w K Q else E := by
 have hw : Region.wanted o (yielded ops a.tmps) = true := by simp [Region.wanted, hgd]
 rw [if_pos hw]
 exact wp_append_lit s x t ho base e i z size bytes ht hi hz hsize hby hzs hsz B hs hown hB u m news hx hS h1 h63 hbytes h
theorem wpList_append_sl {ops : Array Oper} {rest : List Oper} {o : Oper} {a : Act} {w : World} {Q : Exit → Act → World → Prop} (hgd : o.guard = none) (s x : Operand) (t : TypeId)
  (ho : o.op = .call { callee := .builtin .append, args := #[s, x], argTypes := #[t, t] })
  (base : Nat) (e : TypeId) (i : TypeInfo) (z : Value) (size bytes : Nat) (ht : P.underlying t = some (.slice e)) (hi : P.info? e = some i) (hz : i.zero = some z)
  (hsize : i.size = size) (hby : i.bytes = bytes) (hzs : z.cells.size = size) (hsz : 0 < size) (v : Value) (n : Nat) (xs : List Value) (hs : a.eval s = v) (hown : w.ownsRow base e size v n xs)
  (u : Value) (m : Nat) (news : List Value) (hx : a.eval x = u) (hS : Sl w size u m news) (h1 : ∀ u ∈ news, u.oneCell' = true) (h63 : n + m ≤ maxLen) (hbytes : (n + m) * bytes ≤ 140737488355328) (hbase : base ≤ w.heap.size)
  (h : ∀ v' w', w'.ownsRow base e size v' (n + m) (xs ++ news) → w.grownBy w' v.ownBlock → (v'.ownBlock = v.ownBlock ∨ v'.ownBlock = some w.heap.size) → wpList P ops Q rest (a.put o.dst v') w') : wpList P ops Q (o :: rest) a w :=
 wpList_plain hgd fun _ hK => wp_append_sl s x t ho base e i z size bytes ht hi hz hsize hby hzs hsz v n xs hs hown u m news hx hS h1 h63 hbytes hbase fun v' w' h1 h2 h3 => hK _ _ (h v' w' h1 h2 h3)
theorem wpList_append_nil {ops : Array Oper} {rest : List Oper} {o : Oper} {a : Act} {w : World} {Q : Exit → Act → World → Prop} (hgd : o.guard = none) (s x : Operand) (t : TypeId)
  (ho : o.op = .call { callee := .builtin .append, args := #[s, x], argTypes := #[t, t] })
  (e : TypeId) (i : TypeInfo) (z : Value) (size bytes : Nat) (ht : P.underlying t = some (.slice e)) (hi : P.info? e = some i) (hz : i.zero = some z)
  (hsize : i.size = size) (hby : i.bytes = bytes) (hzs : z.cells.size = size) (hsz : 0 < size) (hs : a.eval s = .slice none 0 0)
  (u : Value) (m : Nat) (news : List Value) (hx : a.eval x = u) (hS : Sl w size u m news) (h1 : ∀ u ∈ news, u.oneCell' = true) (h63 : m ≤ maxLen) (hbytes : m * bytes ≤ 140737488355328)
  (h : ∀ v' w', w'.ownsRow w.heap.size e size v' m news → Below w.heap.size w w' → wpList P ops Q rest (a.put o.dst v') w') : wpList P ops Q (o :: rest) a w :=
 wpList_append_sl hgd s x t ho w.heap.size e i z size bytes ht hi hz hsize hby hzs hsz _ 0 [] hs (World.ownsRow_nil _ _ _ _) u m news hx hS h1 (by simpa using h63) (by simpa using hbytes) (Nat.le_refl _)
  fun v' w' g1 g2 _ => h v' w' (by simpa using g1) ((Below.refl _ _).grown g2 (Nat.le_refl _) (fun k hk => by cases hk))
theorem wpList_append_lit {ops : Array Oper} {rest : List Oper} {o : Oper} {a : Act} {w : World} {Q : Exit → Act → World → Prop} (hgd : o.guard = none) (s x : Operand) (t : TypeId)
  (ho : o.op = .call { callee := .builtin .append, args := #[s, x], argTypes := #[t, t] })
  (base : Nat) (e : TypeId) (i : TypeInfo) (z : Value) (size bytes : Nat) (ht : P.underlying t = some (.slice e)) (hi : P.info? e = some i) (hz : i.zero = some z)
  (hsize : i.size = size) (hby : i.bytes = bytes) (hzs : z.cells.size = size) (hsz : 0 < size) (B : Nat) (hs : a.eval s = .slice (some ⟨B, 0, none⟩) 0 0) (hown : w.heap[B]? = some (.cells #[] e (0, 0))) (hB : base ≤ B)
  (u : Value) (m : Nat) (news : List Value) (hx : a.eval x = u) (hS : Sl w size u m news) (h1 : ∀ u ∈ news, u.oneCell' = true) (h63 : m ≤ maxLen) (hbytes : m * bytes ≤ 140737488355328)
  (h : ∀ v' w', w'.ownsRow base e size v' m news → Below w.heap.size w w' → (∀ k, v'.ownBlock = some k → k = B ∨ k = w.heap.size) → wpList P ops Q rest (a.put o.dst v') w') : wpList P ops Q (o :: rest) a w :=
 wpList_plain hgd fun _ hK => wp_append_lit s x t ho base e i z size bytes ht hi hz hsize hby hzs hsz B hs hown hB u m news hx hS h1 h63 hbytes fun v' w' h1 h2 h3 => hK _ _ (h v' w' h1 h2 h3)
end
def Cel.cs (c : Cel) (o : Value) : Array Value := #[.int .i64 c.at_, .int .i64 c.r0, .int .i64 c.r1, .int .i64 c.r2, .int .i64 c.r3, .int .i64 c.m0, .int .i64 c.m1, .int .i64 c.m2, .int .i64 c.m3, .int .i64 c.m4, .int .i64 c.m5, .int .i64 c.m6, .int .i64 c.m7, .int .i64 c.read, o, .int .i64 c.en]
theorem Cel.v_cs (c : Cel) (o : Value) : c.v o = .agg (c.cs o) := rfl
theorem Cel.cs_one (c : Cel) (o : Value) (h : o.oneCell' = true) : (c.cs o).all (·.oneCell') = true := by
 simp [Cel.cs, h]
 simp [Value.oneCell']
def celZ : Cel := ⟨0, 0, 0, 0, 0, 0, 0, 0, 0, 0, 0, 0, 0, 0, 0⟩
theorem infoInt : (Tryz.prog.info? 3).map (fun i => (i.zero, i.size, i.bytes)) = some (some (.int .i64 0), 1, 8) := by kernel_rfl
theorem sizeCell : (Tryz.prog.info? 35).map (·.size) = some 16 := by kernel_rfl
theorem copied_any (c : Cel) (xs : List Int) (hx : xs.length ≤ 1000) (v : Value) (w : World) (hS : Sl w 1 v xs.length (ints xs)) :
  Calls Tryz.prog 140 #[c.v v] w fun e w' => ∃ v', e = .returned (c.v v') ∧ w'.ownsRow w.heap.size 3 1 v' xs.length (ints xs) ∧ Below w.heap.size w w' := by
 obtain ⟨i0, hi, hz0, hz1, hz2⟩ := info_parts infoInt
 rw [Cel.v_cs]
 have h14 : (c.cs v)[14]? = some v := rfl
 have HS := hd hS
 clear hS
 go_enter Tryz.func140, Tryz.ntmps140
 go_wp2_with (at_builtin; refine wpList_append_nil rfl (.const (.slice none 0 0)) (.tmp 4) 33 rfl 3 i0 _ 1 8 Tryz.underlying33 hi hz0 hz1 hz2 rfl (by decide) rfl v xs.length (ints xs) rfl (HS.out.up up0) (ints_cell xs) (by unfold maxLen; omega) om ?_)
 intro v' W ho hb
 have z2 : w.heap.size + 2 ≤ W.heap.size := by have := hb.size; simp at this; omega
 have D : Below w.heap.size w W := by
  refine Below.trans ?_ (hb.mono o3)
  exact up0
 have r1 : Rw W w.heap.size 35 (c.cs v) := Rw.up ((Rw.new w _ _ rfl).alloc _) hb o3
 have r2 : Rw W (w.heap.size + 1) 35 (celZ.cs (.slice none 0 0)) := (Rw.new _ 35 _ (by simp)).up hb o3
 have k1 := r1.cell h14
 have k2 := r1.fr 14
 have hv := own_block ho
 obtain ⟨ao, cap, rfl⟩ := own_form ho
 have R1 := hd (r1.set 14 (.slice ao xs.length cap))
 have R2 := hd (r2.set_other (a := ⟨w.heap.size, 14, none⟩) (.slice ao xs.length cap) (by simp))
 have DD := hd (D.setCell (p := ⟨w.heap.size, 14, none⟩) (Nat.le_refl _) (.slice ao xs.length cap))
 have HO := hd (own_set (a := ⟨w.heap.size, 14, none⟩) ho (.slice ao xs.length cap) (fun e => by have := hv _ e; simp at this; omega))
 clear r1 r2 D hb ho HS h14
 go_wp2_with (first | (refine wpList_load_row rfl 35 (.tmp 1) rfl w.heap.size rfl 35 (c.cs (.slice ao xs.length cap)) (0, 0) _ R1.out Tryz.underlying35 rfl sizeCell ?_) | (refine wpList_store_row rfl 35 (.tmp 2) (.tmp 7) rfl (w.heap.size + 1) (c.cs (.slice ao xs.length cap)) rfl rfl 35 _ R2.out sizeCell rfl (c.cs_one _ rfl) ?_))
 refine bodyPost_ret (results_cell_row Tryz.results140 _ _ (w.heap.size + 1) 35 (c.cs (.slice ao xs.length cap)) (0, 0) _ rfl (R2.out.row _) Tryz.underlying35 rfl sizeCell) rfl ⟨_, rfl, ?_, below_row DD.out om _⟩
 exact own_low (own_row HO.out _ (fun e => by have := hv _ e; omega)) om
theorem ownCell_any (c : Cel) (xs : List Int) (hx : xs.length ≤ 1000) (v : Value) (w : World) (hS : Sl w 1 v xs.length (ints xs)) :
  Calls Tryz.prog 38 #[c.v v] w fun e w' => ∃ v', e = .returned (c.v v') ∧ w'.ownsRow w.heap.size 3 1 v' xs.length (ints xs) ∧ Below w.heap.size w w' := by
 obtain ⟨i0, hi, hz0, hz1, hz2⟩ := info_parts infoInt
 rw [Cel.v_cs]
 have h14 : (c.cs v)[14]? = some v := rfl
 have HS := hd hS
 clear hS
 go_enter Tryz.func38, Tryz.ntmps38
 go_wp2_with (at_builtin; refine wpList_append_lit rfl (.tmp 3) (.tmp 5) 33 rfl (w.heap.size + 2) 3 i0 _ 1 8 Tryz.underlying33 hi hz0 hz1 hz2 rfl (by decide) (w.heap.size + 2) rfl (Rw.new _ 3 _ (by simp)) (Nat.le_refl _) v xs.length (ints xs) rfl (HS.out.up up0) (ints_cell xs) (by unfold maxLen; omega) om ?_)
 intro v' W ho hb _
 have z2 : w.heap.size + 2 ≤ W.heap.size := by have := hb.size; simp at this; omega
 have D : Below w.heap.size w W := by
  refine Below.trans ?_ (hb.mono o3)
  exact up0
 have r1 : Rw W w.heap.size 35 (c.cs v) := Rw.up (((Rw.new w _ _ rfl).alloc _).alloc _) hb o3
 have r2 : Rw W (w.heap.size + 1) 35 (celZ.cs (.slice none 0 0)) := Rw.up ((Rw.new _ 35 _ (by simp)).alloc _) hb o3
 have k1 := r1.cell h14
 have k2 := r1.fr 14
 have hv := own_block ho
 obtain ⟨ao, cap, rfl⟩ := own_form ho
 have R1 := hd (r1.set 14 (.slice ao xs.length cap))
 have R2 := hd (r2.set_other (a := ⟨w.heap.size, 14, none⟩) (.slice ao xs.length cap) (by simp))
 have DD := hd (D.setCell (p := ⟨w.heap.size, 14, none⟩) (Nat.le_refl _) (.slice ao xs.length cap))
 have HO := hd (own_set (a := ⟨w.heap.size, 14, none⟩) ho (.slice ao xs.length cap) (fun e => by have := hv _ e; simp at this; omega))
 clear r1 r2 D hb ho HS h14
 go_wp2_with (first | (refine wpList_load_row rfl 35 (.tmp 1) rfl w.heap.size rfl 35 (c.cs (.slice ao xs.length cap)) (0, 0) _ R1.out Tryz.underlying35 rfl sizeCell ?_) | (refine wpList_store_row rfl 35 (.tmp 2) (.tmp 8) rfl (w.heap.size + 1) (c.cs (.slice ao xs.length cap)) rfl rfl 35 _ R2.out sizeCell rfl (c.cs_one _ rfl) ?_))
 refine bodyPost_ret (results_cell_row Tryz.results38 _ _ (w.heap.size + 1) 35 (c.cs (.slice ao xs.length cap)) (0, 0) _ rfl (R2.out.row _) Tryz.underlying35 rfl sizeCell) rfl ⟨_, rfl, ?_, below_row DD.out om _⟩
 exact own_low (own_row HO.out _ (fun e => by have := hv _ e; omega)) om
structure CelD where
 c : Cel
 out : List Int
structure WldD where
 tick : Int
 cells : List CelD
 lines : List (List Int)
def celC (p : Cel × Value) : List Value := (p.1.cs p.2).toList
theorem celC_len (p : Cel × Value) : (celC p).length = 16 := rfl
def CellsR (w : World) (v : Value) (ds : List CelD) : Prop :=
 ∃ ps : List (Cel × Value), ps.length = ds.length ∧ Sl w 16 v ds.length (rowC celC ps) ∧ ∀ k (hk : k < ds.length) (hk' : k < ps.length), ps[k].1 = ds[k].c ∧ Sl w 1 ps[k].2 ds[k].out.length (ints ds[k].out)
theorem CellsR.up {w w' : World} {v : Value} {ds : List CelD} (h : CellsR w v ds) (hb : Below w.heap.size w w') : CellsR w' v ds := by
 obtain ⟨ps, h1, h2, h3⟩ := h
 exact ⟨ps, h1, h2.up hb, fun k hk hk' => ⟨(h3 k hk hk').1, (h3 k hk hk').2.up hb⟩⟩
theorem CellsR.form {w : World} {v : Value} {ds : List CelD} (h : CellsR w v ds) : ∃ ao cap, v = .slice ao ds.length cap := by
 obtain ⟨ps, h1, h2, h3⟩ := h
 exact h2.form
theorem CellsR.open {w : World} {v : Value} {ds : List CelD} (h : CellsR w v ds) (hn : 0 < ds.length) :
  ∃ b off cap, v = .slice (some ⟨b, off, none⟩) ds.length cap ∧ ds.length ≤ cap ∧ b < w.heap.size ∧ ∀ k (hk : k < ds.length), ∃ ao oc, w.rangeAt b (off + k * 16) (ds[k].c.cs (.slice ao ds[k].out.length oc)).toList ∧ Sl w 1 (.slice ao ds[k].out.length oc) ds[k].out.length (ints ds[k].out) := by
 obtain ⟨ps, h1, h2, h3⟩ := h
 obtain ⟨b, off, cap, e, hcap, hb, hc⟩ := h2.open hn
 refine ⟨b, off, cap, e, hcap, hb, fun k hk => ?_⟩
 have hk' : k < ps.length := by omega
 obtain ⟨e1, s1⟩ := h3 k hk hk'
 obtain ⟨ao, oc, e2⟩ := s1.form
 refine ⟨ao, oc, fun j u hj => ?_, e2 ▸ s1⟩
 have hj16 : j < 16 := by have := (List.getElem?_eq_some_iff.1 hj).1; simpa [Cel.cs] using this
 rw [Nat.add_assoc]
 refine hc (k * 16 + j) u ?_
 rw [rowC_at (s := 16) (f := celC) celC_len ps k j hk' hj16, celC, e1, e2]
 exact hj
def LinesR (w : World) (v : Value) (ls : List (List Int)) : Prop :=
 ∃ vs : List Value, vs.length = ls.length ∧ Sl w 1 v ls.length vs ∧ ∀ k (hk : k < ls.length) (hk' : k < vs.length), Sl w 1 vs[k] ls[k].length (ints ls[k])
theorem LinesR.up {w w' : World} {v : Value} {ls : List (List Int)} (h : LinesR w v ls) (hb : Below w.heap.size w w') : LinesR w' v ls := by
 obtain ⟨vs, h1, h2, h3⟩ := h
 exact ⟨vs, h1, h2.up hb, fun k hk hk' => (h3 k hk hk').up hb⟩
theorem LinesR.form {w : World} {v : Value} {ls : List (List Int)} (h : LinesR w v ls) : ∃ ao cap, v = .slice ao ls.length cap := by
 obtain ⟨vs, h1, h2, h3⟩ := h
 exact h2.form
theorem LinesR.open {w : World} {v : Value} {ls : List (List Int)} (h : LinesR w v ls) (hn : 0 < ls.length) :
  ∃ b off cap, v = .slice (some ⟨b, off, none⟩) ls.length cap ∧ ls.length ≤ cap ∧ b < w.heap.size ∧ ∀ k (hk : k < ls.length), ∃ ao oc, w.cell? ⟨b, off + k, none⟩ = some (.slice ao ls[k].length oc) ∧ Sl w 1 (.slice ao ls[k].length oc) ls[k].length (ints ls[k]) := by
 obtain ⟨vs, h1, h2, h3⟩ := h
 obtain ⟨b, off, cap, e, hcap, hb, hc⟩ := h2.open hn
 refine ⟨b, off, cap, e, hcap, hb, fun k hk => ?_⟩
 have hk' : k < vs.length := by omega
 have s1 := h3 k hk hk'
 obtain ⟨ao, oc, e2⟩ := s1.form
 exact ⟨ao, oc, hc k _ (by rw [List.getElem?_eq_getElem hk', e2]), e2 ▸ s1⟩
structure Wld (w : World) (vc vl : Value) (D : WldD) : Prop where
 c : CellsR w vc D.cells
 l : LinesR w vl D.lines
theorem Wld.up {w w' : World} {vc vl : Value} {D : WldD} (h : Wld w vc vl D) (hb : Below w.heap.size w w') : Wld w' vc vl D := ⟨h.c.up hb, h.l.up hb⟩
def celB (p : Prt) (d : CelD) : Bool := d.c.fine d.out.length && decide (d.c.read ≤ p.inn.length)
def cellsB : List Prt → List CelD → Bool
 | [], [] => true
 | p :: ps, d :: ds => celB p d && cellsB ps ds
 | _, _ => false
theorem cellsB_len : ∀ {ps : List Prt} {ds : List CelD}, cellsB ps ds = true → ds.length = ps.length
 | [], [], _ => rfl
 | p :: ps, d :: ds, h => by simp [cellsB] at h; simp [cellsB_len h.2]
 | [], _ :: _, h => by simp [cellsB] at h
 | _ :: _, [], h => by simp [cellsB] at h
theorem cellsB_yes : ∀ {ps : List Prt} {ds : List CelD}, ds.length = ps.length → (∀ k (h : k < ps.length) (h' : k < ds.length), celB ps[k] ds[k] = true) → cellsB ps ds = true
 | [], [], _, _ => rfl
 | p :: ps, d :: ds, h, ha => by
  rw [cellsB, show celB p d = true from ha 0 (by simp) (by simp), cellsB_yes (by simpa using h) (fun k h1 h2 => ha (k + 1) (by simpa using h1) (by simpa using h2))]
  rfl
 | [], _ :: _, h, _ => by simp at h
 | _ :: _, [], h, _ => by simp at h
theorem cellsB_at : ∀ {ps : List Prt} {ds : List CelD}, cellsB ps ds = true → ∀ k (h : k < ps.length) (h' : k < ds.length), celB ps[k] ds[k] = true
 | p :: ps, d :: ds, h, 0, _, _ => by simp [cellsB] at h; exact h.1
 | p :: ps, d :: ds, h, k + 1, h1, h2 => by simp [cellsB] at h; exact cellsB_at h.2 k (by simpa using h1) (by simpa using h2)
theorem cellsB_no {ps : List Prt} {ds : List CelD} (k : Nat) (h : k < ps.length) (h' : k < ds.length) (hb : celB ps[k] ds[k] = false) : cellsB ps ds = false := by
 cases e : cellsB ps ds with
 | false => rfl
 | true => rw [cellsB_at e k h h'] at hb; cases hb
def linesB : List Chn → List (List Int) → Bool
 | [], [] => true
 | c :: cs, l :: ls => decide (chkL c.kd l.length = 0) && linesB cs ls
 | _, _ => false
theorem linesB_len : ∀ {cs : List Chn} {ls : List (List Int)}, linesB cs ls = true → ls.length = cs.length
 | [], [], _ => rfl
 | p :: ps, d :: ds, h => by simp [linesB] at h; simp [linesB_len h.2]
 | [], _ :: _, h => by simp [linesB] at h
 | _ :: _, [], h => by simp [linesB] at h
theorem linesB_yes : ∀ {cs : List Chn} {ls : List (List Int)}, ls.length = cs.length → (∀ k (h : k < cs.length) (h' : k < ls.length), chkL cs[k].kd ls[k].length = 0) → linesB cs ls = true
 | [], [], _, _ => rfl
 | p :: ps, d :: ds, h, ha => by
  rw [linesB, show chkL p.kd d.length = 0 from ha 0 (by simp) (by simp), linesB_yes (by simpa using h) (fun k h1 h2 => ha (k + 1) (by simpa using h1) (by simpa using h2))]
  rfl
 | [], _ :: _, h, _ => by simp at h
 | _ :: _, [], h, _ => by simp at h
theorem linesB_at : ∀ {cs : List Chn} {ls : List (List Int)}, linesB cs ls = true → ∀ k (h : k < cs.length) (h' : k < ls.length), chkL cs[k].kd ls[k].length = 0
 | p :: ps, d :: ds, h, 0, _, _ => by simp [linesB] at h; exact h.1
 | p :: ps, d :: ds, h, k + 1, h1, h2 => by simp [linesB] at h; exact linesB_at h.2 k (by simpa using h1) (by simpa using h2)
theorem linesB_no {cs : List Chn} {ls : List (List Int)} (k : Nat) (h : k < cs.length) (h' : k < ls.length) (hb : chkL cs[k].kd ls[k].length ≠ 0) : linesB cs ls = false := by
 cases e : linesB cs ls with
 | false => rfl
 | true => exact absurd (linesB_at e k h h') hb
def chkW (S : SysD) (D : WldD) : Int := if chkS S ≠ 0 then chkS S else if withinB D.tick 0 300 && cellsB S.parts D.cells && linesB S.chans D.lines then 0 else 1
section
variable {P : Program} {ops : Array Oper} {Q : Exit → Act → World → Prop} {md : Region.Mode} {S : World → Prop}
theorem Still.oneG {z i : Nat} {o : Oper} {rs : List Nat} {n : Nat} {done : Array Bool} {a : Act} {w : World} (ho : ops[i]? = some o) (hw : Region.wanted o (yielded ops a.tmps) = true)
  (h : ∀ K : Act → World → Prop, (∀ a' w', (i ≠ z → S w') → ((i ≠ z → S w') → Still P md ops Q S z n (done.setIfInBounds i true) a' w') → K a' w') → Oper.wp P o a w K Q)
  (hs : ∀ j ∈ rs, wpOp P ops Q j (fun a' w' => (j ≠ z → S w') ∧ Still P md ops Q S z n (done.setIfInBounds j true) a' w') a w) :
  ∀ j ∈ i :: rs, wpOp P ops Q j (fun a' w' => (j ≠ z → S w') ∧ Still P md ops Q S z n (done.setIfInBounds j true) a' w') a w := by
 intro j hj
 rcases List.mem_cons.1 hj with rfl | hj
 ·unfold wpOp
  simp only [ho, hw, if_true]
  exact .inl (h _ fun a' w' h1 h2 => ⟨h1, h2 h1⟩)
 ·exact hs j hj
end
end Go.Proofs.YtehhhiodfcdnmaaGreatDoor

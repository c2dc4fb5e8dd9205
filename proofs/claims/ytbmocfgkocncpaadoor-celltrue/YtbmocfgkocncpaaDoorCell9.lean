/- What an instruction does, told by plain mathematics; a runner's do, whatever the instruction. -/
import Derived.Test.YtbmocfgkocncpaaDoorCell6
import Derived.Test.YtbmocfgkocncpaaDoorCell7
import Derived.Test.YtbmocfgkocncpaaDoorCell8
namespace Go.Proofs.YtbmocfgkocncpaaDoor
set_option linter.unusedSimpArgs false
set_option linter.unusedVariables false
open Go.RowKit Go.Sort

set_option maxRecDepth 10000 in
theorem chk0 {op a b n : Int} (h : chkI op a b n = 0) : (1 ≤ op ∧ op ≤ 15) ∧ (0 ≤ a ∧ a < 4) ∧ (0 ≤ b ∧ b < 4) ∧ ((op = 8 ∨ op = 9) → 0 ≤ n ∧ n ≤ 19) ∧ ((op = 12 ∨ op = 13) → 0 ≤ n ∧ n ≤ 5) := by
  unfold chkI at h
  split at h
  · omega
  · rename_i ho
    have hop : op = 1 ∨ op = 2 ∨ op = 3 ∨ op = 4 ∨ op = 5 ∨ op = 6 ∨ op = 7 ∨ op = 8 ∨ op = 9 ∨ op = 10 ∨ op = 11 ∨ op = 12 ∨ op = 13 ∨ op = 14 ∨ op = 15 := by omega
    rcases hop with rfl | rfl | rfl | rfl | rfl | rfl | rfl | rfl | rfl | rfl | rfl | rfl | rfl | rfl | rfl
    all_goals
      simp [chkRow, rowA, rowB, rowN, rowLo, rowHi, regB] at h
      omega

/-- What an instruction makes of a cell; none: a fault. -/
def doC (i : Ins) (inn xs : List Int) (c : Cel) (x : Wnt) : Option (Cel × List Int × Wnt) :=
  if i.op = 1 then some ({ c.setReg i.a i.n with at_ := c.at_ + 1 }, xs, x)
  else if i.op = 2 then some ({ c.setReg i.a (c.reg i.b) with at_ := c.at_ + 1 }, xs, x)
  else if i.op = 3 then some ({ c.setReg i.a (wrap64 (c.reg i.a + c.reg i.b)) with at_ := c.at_ + 1 }, xs, x)
  else if i.op = 4 then some ({ c.setReg i.a (wrap64 (c.reg i.a - c.reg i.b)) with at_ := c.at_ + 1 }, xs, x)
  else if i.op = 5 then some ({ c.setReg i.a (truthI (decide (c.reg i.a < c.reg i.b))) with at_ := c.at_ + 1 }, xs, x)
  else if i.op = 6 then (if c.reg i.b < 0 ∨ 8 ≤ c.reg i.b then none else some ({ c.setReg i.a (c.memo (c.reg i.b)) with at_ := c.at_ + 1 }, xs, x))
  else if i.op = 7 then (if c.reg i.b < 0 ∨ 8 ≤ c.reg i.b then none else some ({ c.setMem (c.reg i.b) (c.reg i.a) with at_ := c.at_ + 1 }, xs, x))
  else if i.op = 8 then some ({ c with at_ := i.n }, xs, x)
  else if i.op = 9 then some ({ c with at_ := if c.reg i.a = 0 then i.n else c.at_ + 1 }, xs, x)
  else if i.op = 10 then some ({ (takeC c inn.length).setReg i.a (takeI inn c.read) with at_ := c.at_ + 1 }, xs, x)
  else if i.op = 11 then some ({ c with at_ := c.at_ + 1 }, tellL xs (c.reg i.a), x)
  else if i.op = 12 then some ({ c with at_ := c.at_ + 1 }, xs, ⟨12, i.n, i.a, 0, c.reg i.a⟩)
  else if i.op = 13 then some ({ c with at_ := c.at_ + 1 }, xs, ⟨13, i.n, i.a, i.b, 0⟩)
  else if i.op = 14 then some ({ c with at_ := c.at_ + 1 }, xs, x)
  else some ({ c with en := 1, at_ := c.at_ }, xs, x)

theorem do_any (i : Ins) (hi : i.chk = 0) (B : Nat) (w W : World) (g base : Nat) (c : Cel) (o iv : Value) (x : Wnt) (xs inn : List Int) (hat0 : 0 ≤ c.at_) (hat1 : c.at_ ≤ 20) (hr0 : 0 ≤ c.read) (hr1 : c.read ≤ 12) (hx : xs.length ≤ 16)
    (hS : Sl W 1 iv inn.length (ints inn)) (h : Rn B w W g base c o iv x xs) :
    Calls Tryd.prog 31 #[.pointer (some ⟨g, 0, none⟩), i.v] W fun e W' =>
      (doC i inn xs c x = none ∧ e = .panicked faultE ∧ Rn B w W' g base c o iv x xs ∧ Below W.heap.size W W') ∨ (∃ c' xs' x' o', doC i inn xs c x = some (c', xs', x') ∧ e = .returned (.tuple #[]) ∧ Rn B w W' g base c' o' iv x' xs') := by
  obtain ⟨op, a, b, n⟩ := i
  obtain ⟨hop, ⟨ha0, ha1⟩, ⟨hb0, hb1⟩, hj, hc⟩ := chk0 (op := op) (a := a) (b := b) (n := n) hi
  have hop : op = 1 ∨ op = 2 ∨ op = 3 ∨ op = 4 ∨ op = 5 ∨ op = 6 ∨ op = 7 ∨ op = 8 ∨ op = 9 ∨ op = 10 ∨ op = 11 ∨ op = 12 ∨ op = 13 ∨ op = 14 ∨ op = 15 := by omega
  unfold Ins.v
  rcases hop with rfl | rfl | rfl | rfl | rfl | rfl | rfl | rfl | rfl | rfl | rfl | rfl | rfl | rfl | rfl
  · exact (do1 B w W g base c o iv x xs a b n ha0 ha1 hb0 hb1 hat0 hat1 h).mono fun e W' ⟨h1, h2⟩ => .inr ⟨_, _, _, _, by simp [doC], h1, h2⟩
  · exact (do2 B w W g base c o iv x xs a b n ha0 ha1 hb0 hb1 hat0 hat1 h).mono fun e W' ⟨h1, h2⟩ => .inr ⟨_, _, _, _, by simp [doC], h1, h2⟩
  · exact (do3 B w W g base c o iv x xs a b n ha0 ha1 hb0 hb1 hat0 hat1 h).mono fun e W' ⟨h1, h2⟩ => .inr ⟨_, _, _, _, by simp [doC], h1, h2⟩
  · exact (do4 B w W g base c o iv x xs a b n ha0 ha1 hb0 hb1 hat0 hat1 h).mono fun e W' ⟨h1, h2⟩ => .inr ⟨_, _, _, _, by simp [doC], h1, h2⟩
  · exact (do5 B w W g base c o iv x xs a b n ha0 ha1 hb0 hb1 hat0 hat1 h).mono fun e W' ⟨h1, h2⟩ => .inr ⟨_, _, _, _, by simp [doC], h1, h2⟩
  · by_cases hm : c.reg b < 0 ∨ 8 ≤ c.reg b
    · exact (do6_bad B w W g base c o iv x xs a b n ha0 ha1 hb0 hb1 hat0 hat1 hm h).mono fun e W' ⟨h1, h2⟩ => .inl ⟨by simp [doC, hm], h1, h2⟩
    · exact (do6 B w W g base c o iv x xs a b n ha0 ha1 hb0 hb1 hat0 hat1 (by omega) (by omega) h).mono fun e W' ⟨h1, h2⟩ => .inr ⟨_, _, _, _, by simp [doC, hm], h1, h2⟩
  · by_cases hm : c.reg b < 0 ∨ 8 ≤ c.reg b
    · exact (do7_bad B w W g base c o iv x xs a b n ha0 ha1 hb0 hb1 hat0 hat1 hm h).mono fun e W' ⟨h1, h2⟩ => .inl ⟨by simp [doC, hm], h1, h2⟩
    · exact (do7 B w W g base c o iv x xs a b n ha0 ha1 hb0 hb1 hat0 hat1 (by omega) (by omega) h).mono fun e W' ⟨h1, h2⟩ => .inr ⟨_, _, _, _, by simp [doC, hm], h1, h2⟩
  · exact (do8 B w W g base c o iv x xs a b n ha0 ha1 hb0 hb1 hat0 hat1 h).mono fun e W' ⟨h1, h2⟩ => .inr ⟨_, _, _, _, by simp [doC], h1, h2⟩
  · exact (do9 B w W g base c o iv x xs a b n ha0 ha1 hb0 hb1 hat0 hat1 h).mono fun e W' ⟨h1, h2⟩ => .inr ⟨_, _, _, _, by simp [doC], h1, h2⟩
  · exact (do10 B w W g base c o iv x xs a b n ha0 ha1 hb0 hb1 hat0 hat1 inn hS hr0 hr1 h).mono fun e W' ⟨h1, h2⟩ => .inr ⟨_, _, _, _, by simp [doC], h1, h2⟩
  · exact (do11 B w W g base c o iv x xs a b n ha0 ha1 hb0 hb1 hat0 hat1 hx h).mono fun e W' ⟨h1, o', h2⟩ => .inr ⟨_, _, _, o', by simp [doC], h1, h2⟩
  · exact (do12 B w W g base c o iv x xs a b n ha0 ha1 hb0 hb1 hat0 hat1 h).mono fun e W' ⟨h1, h2⟩ => .inr ⟨_, _, _, _, by simp [doC], h1, h2⟩
  · exact (do13 B w W g base c o iv x xs a b n ha0 ha1 hb0 hb1 hat0 hat1 h).mono fun e W' ⟨h1, h2⟩ => .inr ⟨_, _, _, _, by simp [doC], h1, h2⟩
  · exact (do14 B w W g base c o iv x xs a b n ha0 ha1 hb0 hb1 hat0 hat1 h).mono fun e W' ⟨h1, h2⟩ => .inr ⟨_, _, _, _, by simp [doC], h1, h2⟩
  · exact (do15 B w W g base c o iv x xs a b n ha0 ha1 hb0 hb1 hat0 hat1 h).mono fun e W' ⟨h1, h2⟩ => .inr ⟨_, _, _, _, by simp [doC], h1, h2⟩

/-- A step of a cell that runs. -/
def runC (l : List Ins) (inn xs : List Int) (c : Cel) (x : Wnt) : Cel × List Int × Wnt :=
  match l[c.at_.toNat]? with
  | none => ({ c with en := 2 }, xs, x)
  | some i => (doC i inn xs c x).getD ({ c with en := 2 }, xs, x)
end Go.Proofs.YtbmocfgkocncpaaDoor

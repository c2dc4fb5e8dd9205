/- Rows of flat things, as cells. -/
import Derived.Test.YtbmocfgkocncpaaDoorCBase
namespace Go.Proofs.YtbmocfgkocncpaaDoor
set_option linter.unusedSimpArgs false
set_option linter.unusedVariables false
open Go.RowKit Go.Sort

def rowC {α : Type} (f : α → List Value) (l : List α) : List Value := l.flatMap f
theorem rowC_len {α : Type} {f : α → List Value} {s : Nat} (hs : ∀ x, (f x).length = s) : ∀ l : List α, (rowC f l).length = l.length * s
  | [] => by simp [rowC]
  | x :: r => by
    have := rowC_len hs r
    unfold rowC at this ⊢
    rw [List.flatMap_cons, List.length_append, this, hs x, List.length_cons, Nat.succ_mul]; omega
theorem rowC_at {α : Type} {f : α → List Value} {s : Nat} (hs : ∀ x, (f x).length = s) : ∀ (l : List α) (k j : Nat) (h : k < l.length), j < s → (rowC f l)[k * s + j]? = (f l[k])[j]?
  | x :: r, 0, j, _, hj => by
    unfold rowC
    rw [List.flatMap_cons, List.getElem?_append_left (by rw [hs]; omega)]; simp
  | x :: r, k + 1, j, h, hj => by
    have := rowC_at hs r k j (by simpa using h) hj
    unfold rowC at this ⊢
    rw [List.flatMap_cons, List.getElem?_append_right (by rw [hs, Nat.succ_mul]; omega)]
    rw [show (k + 1) * s + j - (f x).length = k * s + j by rw [hs, Nat.succ_mul]; omega, this]
    rfl

end Go.Proofs.YtbmocfgkocncpaaDoor

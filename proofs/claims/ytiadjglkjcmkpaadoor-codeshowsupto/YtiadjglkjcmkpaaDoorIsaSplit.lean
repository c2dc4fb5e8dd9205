/- A part of the proofs over this seat's laws: what a function of the program, or of the reference, answers and leaves, told by its theorems below. -/
import Derived.Test.YtiadjglkjcmkpaaDoorIsaMath
import Derived.Deep.AppendLies
import Derived.Deep.LoopGhost
namespace Go.Proofs.YtiadjglkjcmkpaaDoor
set_option linter.unusedSimpArgs false
set_option linter.unusedVariables false
open Go.RowKit Go.Sort

/-- The pieces of a text at a letter, at most so many: what the piece at hand holds by now, what is left. -/
def splitG (c : UInt8) : Nat → List UInt8 → List UInt8 → List (List UInt8)
  | m, cur, [] => if m = 0 then [] else [cur]
  | m, cur, x :: r => if m = 0 then [] else if x = c then cur :: splitG c (m - 1) [] r else splitG c m (cur ++ [x]) r
def splitF (c : UInt8) (most : Nat) (l : List UInt8) : List (List UInt8) := splitG c most [] l
theorem splitG_zero (c : UInt8) (cur l : List UInt8) : splitG c 0 cur l = [] := by cases l <;> simp [splitG]
theorem splitG_end (c : UInt8) (m : Nat) (cur : List UInt8) (h : 0 < m) : splitG c m cur [] = [cur] := by simp [splitG]; omega
theorem splitG_hit (c : UInt8) (m : Nat) (cur r : List UInt8) (h : 0 < m) : splitG c m cur (c :: r) = cur :: splitG c (m - 1) [] r := by
  rw [splitG, if_neg (by omega), if_pos rfl]
theorem splitG_miss (c x : UInt8) (m : Nat) (cur r : List UInt8) (h : 0 < m) (hx : x ≠ c) : splitG c m cur (x :: r) = splitG c m (cur ++ [x]) r := by
  rw [splitG, if_neg (by omega), if_neg hx]

/-- Texts as the cells of a slice. -/
def strs (ps : List (List UInt8)) : List Value := ps.map fun p => .string ⟨p.toArray⟩

theorem info9 : (Tryd.prog.info? 9).map (fun i => (i.zero, i.size, i.bytes)) = some (some (.string ⟨#[]⟩), 1, 16) := by kernel_rfl

/-- Where the loop stands. -/
def SplitInv (c : UInt8) (most : Nat) (l : List UInt8) (ps : List (List UInt8)) (fr i : Nat) : Prop :=
  ps.length ≤ most ∧ ((i ≤ l.length ∧ fr ≤ i ∧ ps ++ splitG c (most - ps.length) ((l.drop fr).take (i - fr)) (l.drop i) = splitF c most l) ∨ (i = l.length + 1 ∧ ps = splitF c most l))

theorem inv_start (c : UInt8) (most : Nat) (l : List UInt8) : SplitInv c most l [] 0 0 :=
  ⟨Nat.zero_le _, Or.inl ⟨Nat.zero_le _, Nat.le_refl _, by simp [splitF]⟩⟩
theorem inv_out {c : UInt8} {most : Nat} {l : List UInt8} {ps : List (List UInt8)} {fr i : Nat} (h : SplitInv c most l ps fr i) (ho : l.length < i ∨ most ≤ ps.length) : ps = splitF c most l := by
  rcases h.2 with ⟨h1, h2, h3⟩ | ⟨_, h3⟩
  · rcases ho with ho | ho
    · omega
    · rw [show most - ps.length = 0 by omega, splitG_zero, List.append_nil] at h3
      exact h3
  · exact h3
theorem inv_end {c : UInt8} {most : Nat} {l : List UInt8} {ps : List (List UInt8)} {fr i : Nat} (h : SplitInv c most l ps fr i) (hm : ps.length < most) (hi : i = l.length) : SplitInv c most l (ps ++ [(l.drop fr).take (i - fr)]) (i + 1) (i + 1) := by
  refine ⟨by simp; omega, Or.inr ⟨by omega, ?_⟩⟩
  rcases h.2 with ⟨h1, h2, h3⟩ | ⟨h3, _⟩
  · rw [← h3, hi, List.drop_length, splitG_end _ _ _ (by omega)]
  · omega
theorem inv_hit {c : UInt8} {most : Nat} {l : List UInt8} {ps : List (List UInt8)} {fr i : Nat} (h : SplitInv c most l ps fr i) (hm : ps.length < most) (hi : i < l.length) (hc : l[i] = c) : SplitInv c most l (ps ++ [(l.drop fr).take (i - fr)]) (i + 1) (i + 1) := by
  refine ⟨by simp; omega, Or.inl ⟨by omega, Nat.le_refl _, ?_⟩⟩
  rcases h.2 with ⟨h1, h2, h3⟩ | ⟨h3, _⟩
  · rw [List.drop_eq_getElem_cons hi, hc, splitG_hit _ _ _ _ (by omega)] at h3
    rw [← h3]
    simp [Nat.sub_sub]
  · omega
theorem inv_miss {c : UInt8} {most : Nat} {l : List UInt8} {ps : List (List UInt8)} {fr i : Nat} (h : SplitInv c most l ps fr i) (hm : ps.length < most) (hi : i < l.length) (hc : l[i] ≠ c) : SplitInv c most l ps fr (i + 1) := by
  refine ⟨h.1, Or.inl ?_⟩
  rcases h.2 with ⟨h1, h2, h3⟩ | ⟨h3, _⟩
  · refine ⟨by omega, by omega, ?_⟩
    rw [List.drop_eq_getElem_cons hi, splitG_miss _ _ _ _ _ (by omega) hc] at h3
    rw [← h3, show i + 1 - fr = (i - fr) + 1 by omega, List.take_add_one]
    congr 3
    rw [List.getElem?_drop, show fr + (i - fr) = i by omega, List.getElem?_eq_getElem hi]
    rfl
  · omega
theorem inv_le {c : UInt8} {most : Nat} {l : List UInt8} {ps : List (List UInt8)} {fr i : Nat} (h : SplitInv c most l ps fr i) (hi : i ≤ l.length) : fr ≤ i := by
  rcases h.2 with ⟨h1, h2, h3⟩ | ⟨h3, _⟩
  · exact h2
  · omega

theorem own_form {w : World} {base : Nat} {e : TypeId} {size : Nat} {v : Value} {n : Nat} {xs : List Value} (h : w.ownsRow base e size v n xs) : ∃ ao cap, v = .slice ao n cap := by
  rcases h.2 with ⟨rfl, rfl⟩ | ⟨g, cap, cur, rfl, _⟩
  · exact ⟨none, 0, rfl⟩
  · exact ⟨_, _, rfl⟩

theorem ext_eq (l : List UInt8) (fr k : Nat) : (⟨l.toArray⟩ : ByteArray).extract fr k = ⟨((l.drop fr).take (k - fr)).toArray⟩ := by
  apply ByteArray.ext
  simp
theorem ba_at (l : List UInt8) (k : Nat) (h : k < l.length) : (⟨l.toArray⟩ : ByteArray)[k]'h = l[k] := rfl
theorem one_new (w : World) (v : Value) (t : TypeId) : ∀ j u, [v][j]? = some u → (w.alloc (.cells #[v] t)).cell? ((⟨w.heap.size, 0, none⟩ : Addr).add j) = some u := by
  intro j u hj
  match j, hj with
  | 0, hj => simp at hj; subst hj; simp [Addr.add]
  | j + 1, hj => simp at hj
theorem one_cell (s : ByteArray) : ∀ u ∈ [Value.string s], u.oneCell' = true := by
  intro u hu; simp at hu; subst hu; rfl
theorem own_block {w : World} {base : Nat} {e : TypeId} {size : Nat} {v : Value} {n : Nat} {xs : List Value} (h : w.ownsRow base e size v n xs) : ∀ k, v.ownBlock = some k → base ≤ k := by
  intro k hk
  rcases h.2 with ⟨rfl, _⟩ | ⟨g, cap, cur, rfl, hb, _⟩
  · cases hk
  · simp [Value.ownBlock] at hk; omega
/-- Behind the append: the pieces are one more; what was there stays. -/
theorem split_step {w wr w1 : World} {v v' : Value} {ps : List (List UInt8)} {pc : List UInt8} {o : Obj} (hbel : Below w.heap.size w wr) (hown0 : wr.ownsRow w.heap.size 9 1 v ps.length (strs ps))
    (hown1 : w1.ownsRow w.heap.size 9 1 v' (ps.length + 1) (strs ps ++ [.string ⟨pc.toArray⟩])) (hgrow : (wr.alloc o).grownBy w1 v.ownBlock) :
    w1.ownsRow w.heap.size 9 1 v' (ps ++ [pc]).length (strs (ps ++ [pc])) ∧ Below w.heap.size w w1 := by
  refine ⟨by simpa [strs] using hown1, ?_⟩
  exact (hbel.alloc hbel.size o).grown hgrow (by have := hbel.size; simp; omega) (own_block hown0)

set_option maxRecDepth 100000 in
set_option maxHeartbeats 2000000 in
theorem split_any (l : List UInt8) (c : UInt8) (most : Nat) (hm : most ≤ 100) (hs : l.length < 4294967281) (w : World) :
    Calls Tryd.prog 36 #[.string ⟨l.toArray⟩, .int .u8 c.toNat, .int .i64 most] w fun e w' => ∃ v, e = .returned v ∧ w'.ownsRow w.heap.size 9 1 v (splitF c most l).length (strs (splitF c most l)) ∧ Below w.heap.size w w' := by
  obtain ⟨i0, hi, hz0, hz1, hz2⟩ := info_parts info9
  go_enter Tryd.func36, Tryd.ntmps36
  go_wp2
  go_loopw [7, 8, 9] (fun v f i wr => ∃ (ps : List (List UInt8)) (fr k : Nat), f = .int .i64 fr ∧ i = .int .i64 k ∧ k ≤ l.length + 1 ∧ fr ≤ l.length + 1 ∧ Hid (SplitInv c most l ps fr k) ∧ ps.length ≤ most ∧ wr.ownsRow w.heap.size 9 1 v ps.length (strs ps) ∧ Below w.heap.size w wr)
    (fun _ _ i _ => l.length + 2 - (intOf i).toNat)
  case atStart => exact ⟨[], 0, 0, rfl, rfl, by omega, by omega, inv_start c most l, Nat.zero_le _, World.ownsRow_nil _ _ _ _, Below.refl _ _⟩
  case round =>
    obtain ⟨ps, fr, k, rfl, rfl, hk, hfr, hinv, hps, hown, hbel⟩ := hrel
    obtain ⟨ao, cap, rfl⟩ := own_form hown
    have hbs := hbel.size
    by_cases h1 : k ≤ l.length
    · by_cases h2 : ps.length < most
      · by_cases h3 : k = l.length
        · have h3' : ((k : Int) == (l.length : Int)) = true := by simp; omega
          have H3 := Lib.hid h3
          clear h3
          have hfk := inv_le hinv h1
          obtain ⟨pc, hpc⟩ : ∃ pc, pc = (l.drop fr).take (k - fr) := ⟨_, rfl⟩
          have hext : (⟨l.toArray⟩ : ByteArray).extract fr k = ⟨pc.toArray⟩ := by rw [hpc]; exact ext_eq l fr k
          have HPC := Lib.hid hpc
          clear hpc
          go_wp2_with (at_builtin; refine wpList_append_lies _ rfl (.tmp 33) (.tmp 38) 62 rfl w.heap.size 9 i0 (.string ⟨#[]⟩) 1 16 Tryd.underlying62 hi hz0 hz1 hz2 rfl (by decide) (.slice ao ps.length cap) ps.length (strs ps) rfl (hown.alloc _) ⟨wr.heap.size, 0, none⟩ 1 1 [.string ⟨pc.toArray⟩] rfl rfl (one_new wr _ 9) (one_cell _) (by decide) (by unfold maxLen; omega) (by omega) (by simp; omega) (wr.heap.size + 1) (by simp) ?_; intro g cap1 w1 hown1 hgrow hat hglt)
          have R := split_step hbel hown hown1 hgrow
          clear hown1 hgrow hown hat hext
          go_wp2
          go_roundw
          case rel => exact ⟨ps ++ [pc], k + 1, k + 1, by go_num, by go_num, by omega, by omega, by rw [HPC.out]; exact inv_end hinv h2 H3.out, by simp; omega, R.1, R.2⟩
          case measure => simp [intOf]; omega
        · have h3' : ((k : Int) == (l.length : Int)) = false := by simp; omega
          have hlt : k < l.length := by omega
          by_cases h4 : l[k] = c
          · have h4' : ((((⟨l.toArray⟩ : ByteArray)[k]'hlt).toNat : Int) == (c.toNat : Int)) = true := by rw [ba_at l k hlt, h4]; simp
            have H4 := Lib.hid h4
            clear h4
            have hfk := inv_le hinv h1
            obtain ⟨pc, hpc⟩ : ∃ pc, pc = (l.drop fr).take (k - fr) := ⟨_, rfl⟩
            have hext : (⟨l.toArray⟩ : ByteArray).extract fr k = ⟨pc.toArray⟩ := by rw [hpc]; exact ext_eq l fr k
            have HPC := Lib.hid hpc
            clear hpc
            go_wp2_with (at_builtin; refine wpList_append_lies _ rfl (.tmp 33) (.tmp 38) 62 rfl w.heap.size 9 i0 (.string ⟨#[]⟩) 1 16 Tryd.underlying62 hi hz0 hz1 hz2 rfl (by decide) (.slice ao ps.length cap) ps.length (strs ps) rfl (hown.alloc _) ⟨wr.heap.size, 0, none⟩ 1 1 [.string ⟨pc.toArray⟩] rfl rfl (one_new wr _ 9) (one_cell _) (by decide) (by unfold maxLen; omega) (by omega) (by simp; omega) (wr.heap.size + 1) (by simp) ?_; intro g cap1 w1 hown1 hgrow hat hglt)
            have R := split_step hbel hown hown1 hgrow
            clear hown1 hgrow hown hat hext
            go_wp2
            go_roundw
            case rel => exact ⟨ps ++ [pc], k + 1, k + 1, by go_num, by go_num, by omega, by omega, by rw [HPC.out]; exact inv_hit hinv h2 hlt H4.out, by simp; omega, R.1, R.2⟩
            case measure => simp [intOf]; omega
          · have h4' : ((((⟨l.toArray⟩ : ByteArray)[k]'hlt).toNat : Int) == (c.toNat : Int)) = false := by
              rw [ba_at l k hlt]; simp; intro e; exact h4 (UInt8.toNat_inj.1 (by omega))
            have H4 := Lib.hid h4
            clear h4
            go_wp2
            go_roundw
            case rel => exact ⟨ps, fr, k + 1, rfl, by go_num, by omega, by omega, inv_miss hinv h2 hlt H4.out, hps, hown, hbel⟩
            case measure => simp [intOf]; omega
      · have HO := Lib.hid (inv_out hinv (Or.inr (by omega)))
        go_wp2
        go_ret
        exact ⟨_, rfl, by rw [← HO.out]; exact hown, hbel⟩
    · have HO := Lib.hid (inv_out hinv (Or.inl (by omega)))
      go_wp2
      go_ret
      exact ⟨_, rfl, by rw [← HO.out]; exact hown, hbel⟩

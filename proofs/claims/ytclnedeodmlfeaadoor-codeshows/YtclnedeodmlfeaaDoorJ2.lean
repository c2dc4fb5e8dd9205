/- A part of the proofs over this seat's laws: what a function of the program, or of the reference, answers and leaves, told by its theorems below. -/
import Derived.Test.YtclnedeodmlfeaaDoorJ1
import Derived.Deep.AppendLies
import Derived.Deep.LoopGhost
import Derived.WalkKit
import Derived.ArgAppend
namespace Go.Proofs.YtclnedeodmlfeaaDoor
set_option linter.unusedSimpArgs false
set_option linter.unusedVariables false
open Go.RowKit Go.Sort
def splitG (c : UInt8) : Nat → List UInt8 → List UInt8 → List (List UInt8)
  | m, cur, [] => if m = 0 then [] else [cur]
  | m, cur, x :: r => if m = 0 then [] else if x = c then cur :: splitG c (m - 1) [] r else splitG c m (cur ++ [x]) r
def splitF (c : UInt8) (most : Nat) (l : List UInt8) : List (List UInt8) := splitG c most [] l
theorem splitG_zero (c : UInt8) (cur l : List UInt8) : splitG c 0 cur l = [] := by cases l <;> simp [splitG]
theorem splitG_end (c : UInt8) (m : Nat) (cur : List UInt8) (h : 0 < m) : splitG c m cur [] = [cur] := by simp [splitG]; omega
theorem splitG_hit (c : UInt8) (m : Nat) (cur r : List UInt8) (h : 0 < m) : splitG c m cur (c :: r) = cur :: splitG c (m - 1) [] r := by
  rw [splitG, if_neg (by omega), if_pos rfl]
theorem splitG_miss (c x : UInt8) (m : Nat) (cur r : List UInt8) (h : 0 < m) (hx : x ≠ c) : splitG c m cur (x :: r) = splitG c m (cur ++ [x]) r := by
  rw [splitG, if_neg (by omega), if_neg hx]
def strs (ps : List (List UInt8)) : List Value := ps.map fun p => .string ⟨p.toArray⟩
theorem info9 : (Tryd.prog.info? 9).map (fun i => (i.zero, i.size, i.bytes)) = some (some (.string ⟨#[]⟩), 1, 16) := by kernel_rfl
def SplitInv (c : UInt8) (most : Nat) (l : List UInt8) (ps : List (List UInt8)) (fr i : Nat) : Prop :=
  ps.length ≤ most ∧ ((i ≤ l.length ∧ fr ≤ i ∧ ps ++ splitG c (most - ps.length) ((l.drop fr).take (i - fr)) (l.drop i) = splitF c most l) ∨ (i = l.length + 1 ∧ ps = splitF c most l))
theorem inv_start (c : UInt8) (most : Nat) (l : List UInt8) : SplitInv c most l [] 0 0 :=
  ⟨Nat.zero_le _, Or.inl ⟨Nat.zero_le _, Nat.le_refl _, by simp [splitF]⟩⟩
theorem inv_out {c : UInt8} {most : Nat} {l : List UInt8} {ps : List (List UInt8)} {fr i : Nat} (h : SplitInv c most l ps fr i) (ho : l.length < i ∨ most ≤ ps.length) : ps = splitF c most l := by
  rcases h.2 with ⟨h1, h2, h3⟩ | ⟨_, h3⟩
  · rcases ho with ho | ho
    · omega
    · rw [show most - ps.length = 0 by omega, splitG_zero, List.append_nil] at h3
      exact h3
  · exact h3
theorem inv_end {c : UInt8} {most : Nat} {l : List UInt8} {ps : List (List UInt8)} {fr i : Nat} (h : SplitInv c most l ps fr i) (hm : ps.length < most) (hi : i = l.length) : SplitInv c most l (ps ++ [(l.drop fr).take (i - fr)]) (i + 1) (i + 1) := by
  refine ⟨by simp; omega, Or.inr ⟨by omega, ?_⟩⟩
  rcases h.2 with ⟨h1, h2, h3⟩ | ⟨h3, _⟩
  · rw [← h3, hi, List.drop_length, splitG_end _ _ _ (by omega)]
  · omega
theorem inv_hit {c : UInt8} {most : Nat} {l : List UInt8} {ps : List (List UInt8)} {fr i : Nat} (h : SplitInv c most l ps fr i) (hm : ps.length < most) (hi : i < l.length) (hc : l[i] = c) : SplitInv c most l (ps ++ [(l.drop fr).take (i - fr)]) (i + 1) (i + 1) := by
  refine ⟨by simp; omega, Or.inl ⟨by omega, Nat.le_refl _, ?_⟩⟩
  rcases h.2 with ⟨h1, h2, h3⟩ | ⟨h3, _⟩
  · rw [List.drop_eq_getElem_cons hi, hc, splitG_hit _ _ _ _ (by omega)] at h3
    rw [← h3]
    simp [Nat.sub_sub]
  · omega
theorem inv_miss {c : UInt8} {most : Nat} {l : List UInt8} {ps : List (List UInt8)} {fr i : Nat} (h : SplitInv c most l ps fr i) (hm : ps.length < most) (hi : i < l.length) (hc : l[i] ≠ c) : SplitInv c most l ps fr (i + 1) := by
  refine ⟨h.1, Or.inl ?_⟩
  rcases h.2 with ⟨h1, h2, h3⟩ | ⟨h3, _⟩
  · refine ⟨by omega, by omega, ?_⟩
    rw [List.drop_eq_getElem_cons hi, splitG_miss _ _ _ _ _ (by omega) hc] at h3
    rw [← h3, show i + 1 - fr = (i - fr) + 1 by omega, List.take_add_one]
    congr 3
    rw [List.getElem?_drop, show fr + (i - fr) = i by omega, List.getElem?_eq_getElem hi]
    rfl
  · omega
theorem inv_le {c : UInt8} {most : Nat} {l : List UInt8} {ps : List (List UInt8)} {fr i : Nat} (h : SplitInv c most l ps fr i) (hi : i ≤ l.length) : fr ≤ i := by
  rcases h.2 with ⟨h1, h2, h3⟩ | ⟨h3, _⟩
  · exact h2
  · omega
theorem own_form {w : World} {base : Nat} {e : TypeId} {size : Nat} {v : Value} {n : Nat} {xs : List Value} (h : w.ownsRow base e size v n xs) : ∃ ao cap, v = .slice ao n cap := by
  rcases h.2 with ⟨rfl, rfl⟩ | ⟨g, cap, cur, rfl, _⟩
  · exact ⟨none, 0, rfl⟩
  · exact ⟨_, _, rfl⟩
theorem ext_eq (l : List UInt8) (fr k : Nat) : (⟨l.toArray⟩ : ByteArray).extract fr k = ⟨((l.drop fr).take (k - fr)).toArray⟩ := by
  apply ByteArray.ext
  simp
theorem ba_at (l : List UInt8) (k : Nat) (h : k < l.length) : (⟨l.toArray⟩ : ByteArray)[k]'h = l[k] := rfl
theorem one_new (w : World) (v : Value) (t : TypeId) : ∀ j u, [v][j]? = some u → (w.alloc (.cells #[v] t)).cell? ((⟨w.heap.size, 0, none⟩ : Addr).add j) = some u := by
  intro j u hj
  match j, hj with
  | 0, hj => simp at hj; subst hj; simp [Addr.add]
  | j + 1, hj => simp at hj
theorem one_cell (s : ByteArray) : ∀ u ∈ [Value.string s], u.oneCell' = true := by
  intro u hu; simp at hu; subst hu; rfl
theorem own_block {w : World} {base : Nat} {e : TypeId} {size : Nat} {v : Value} {n : Nat} {xs : List Value} (h : w.ownsRow base e size v n xs) : ∀ k, v.ownBlock = some k → base ≤ k := by
  intro k hk
  rcases h.2 with ⟨rfl, _⟩ | ⟨g, cap, cur, rfl, hb, _⟩
  · cases hk
  · simp [Value.ownBlock] at hk; omega
theorem split_step {w wr w1 : World} {v v' : Value} {ps : List (List UInt8)} {pc : List UInt8} {o : Obj} (hbel : Below w.heap.size w wr) (hown0 : wr.ownsRow w.heap.size 9 1 v ps.length (strs ps))
    (hown1 : w1.ownsRow w.heap.size 9 1 v' (ps.length + 1) (strs ps ++ [.string ⟨pc.toArray⟩])) (hgrow : (wr.alloc o).grownBy w1 v.ownBlock) :
    w1.ownsRow w.heap.size 9 1 v' (ps ++ [pc]).length (strs (ps ++ [pc])) ∧ Below w.heap.size w w1 := by
  refine ⟨by simpa [strs] using hown1, ?_⟩
  exact (hbel.alloc hbel.size o).grown hgrow (by have := hbel.size; simp; omega) (own_block hown0)
set_option maxRecDepth 100000 in
set_option maxHeartbeats 2000000 in
theorem split_any (l : List UInt8) (c : UInt8) (most : Nat) (hm : most ≤ 100) (hs : l.length < 281474976710657) (w : World) :
    Calls Tryd.prog 36 #[.string ⟨l.toArray⟩, .int .u8 c.toNat, .int .i64 most] w fun e w' => ∃ v, e = .returned v ∧ w'.ownsRow w.heap.size 9 1 v (splitF c most l).length (strs (splitF c most l)) ∧ Below w.heap.size w w' := by
  obtain ⟨i0, hi, hz0, hz1, hz2⟩ := info_parts info9
  go_enter Tryd.func36, Tryd.ntmps36
  go_wp2
  go_loopw [7, 8, 9] (fun v f i wr => ∃ (ps : List (List UInt8)) (fr k : Nat), f = .int .i64 fr ∧ i = .int .i64 k ∧ k ≤ l.length + 1 ∧ fr ≤ l.length + 1 ∧ Hid (SplitInv c most l ps fr k) ∧ ps.length ≤ most ∧ wr.ownsRow w.heap.size 9 1 v ps.length (strs ps) ∧ Below w.heap.size w wr)
    (fun _ _ i _ => l.length + 2 - (intOf i).toNat)
  case atStart => exact ⟨[], 0, 0, rfl, rfl, by omega, by omega, inv_start c most l, Nat.zero_le _, World.ownsRow_nil _ _ _ _, Below.refl _ _⟩
  case round =>
    obtain ⟨ps, fr, k, rfl, rfl, hk, hfr, hinv, hps, hown, hbel⟩ := hrel
    obtain ⟨ao, cap, rfl⟩ := own_form hown
    have hbs := hbel.size
    by_cases h1 : k ≤ l.length
    · by_cases h2 : ps.length < most
      · by_cases h3 : k = l.length
        · have h3' : ((k : Int) == (l.length : Int)) = true := by simp; omega
          have H3 := Lib.hid h3
          clear h3
          have hfk := inv_le hinv h1
          obtain ⟨pc, hpc⟩ : ∃ pc, pc = (l.drop fr).take (k - fr) := ⟨_, rfl⟩
          have hext : (⟨l.toArray⟩ : ByteArray).extract fr k = ⟨pc.toArray⟩ := by rw [hpc]; exact ext_eq l fr k
          have HPC := Lib.hid hpc
          clear hpc
          go_wp2_with (at_builtin; refine wpList_append_lies _ rfl (.tmp 33) (.tmp 38) 62 rfl w.heap.size 9 i0 (.string ⟨#[]⟩) 1 16 Tryd.underlying62 hi hz0 hz1 hz2 rfl (by decide) (.slice ao ps.length cap) ps.length (strs ps) rfl (hown.alloc _) ⟨wr.heap.size, 0, none⟩ 1 1 [.string ⟨pc.toArray⟩] rfl rfl (one_new wr _ 9) (one_cell _) (by decide) (by unfold maxLen; omega) (by omega) (by simp; omega) (wr.heap.size + 1) (by simp) ?_; intro g cap1 w1 hown1 hgrow hat hglt)
          have R := split_step hbel hown hown1 hgrow
          clear hown1 hgrow hown hat hext
          go_wp2
          go_roundw
          case rel => exact ⟨ps ++ [pc], k + 1, k + 1, by go_num, by go_num, by omega, by omega, by rw [HPC.out]; exact inv_end hinv h2 H3.out, by simp; omega, R.1, R.2⟩
          case measure => simp [intOf]; omega
        · have h3' : ((k : Int) == (l.length : Int)) = false := by simp; omega
          have hlt : k < l.length := by omega
          by_cases h4 : l[k] = c
          · have h4' : ((((⟨l.toArray⟩ : ByteArray)[k]'hlt).toNat : Int) == (c.toNat : Int)) = true := by rw [ba_at l k hlt, h4]; simp
            have H4 := Lib.hid h4
            clear h4
            have hfk := inv_le hinv h1
            obtain ⟨pc, hpc⟩ : ∃ pc, pc = (l.drop fr).take (k - fr) := ⟨_, rfl⟩
            have hext : (⟨l.toArray⟩ : ByteArray).extract fr k = ⟨pc.toArray⟩ := by rw [hpc]; exact ext_eq l fr k
            have HPC := Lib.hid hpc
            clear hpc
            go_wp2_with (at_builtin; refine wpList_append_lies _ rfl (.tmp 33) (.tmp 38) 62 rfl w.heap.size 9 i0 (.string ⟨#[]⟩) 1 16 Tryd.underlying62 hi hz0 hz1 hz2 rfl (by decide) (.slice ao ps.length cap) ps.length (strs ps) rfl (hown.alloc _) ⟨wr.heap.size, 0, none⟩ 1 1 [.string ⟨pc.toArray⟩] rfl rfl (one_new wr _ 9) (one_cell _) (by decide) (by unfold maxLen; omega) (by omega) (by simp; omega) (wr.heap.size + 1) (by simp) ?_; intro g cap1 w1 hown1 hgrow hat hglt)
            have R := split_step hbel hown hown1 hgrow
            clear hown1 hgrow hown hat hext
            go_wp2
            go_roundw
            case rel => exact ⟨ps ++ [pc], k + 1, k + 1, by go_num, by go_num, by omega, by omega, by rw [HPC.out]; exact inv_hit hinv h2 hlt H4.out, by simp; omega, R.1, R.2⟩
            case measure => simp [intOf]; omega
          · have h4' : ((((⟨l.toArray⟩ : ByteArray)[k]'hlt).toNat : Int) == (c.toNat : Int)) = false := by
              rw [ba_at l k hlt]; simp; intro e; exact h4 (UInt8.toNat_inj.1 (by omega))
            have H4 := Lib.hid h4
            clear h4
            go_wp2
            go_roundw
            case rel => exact ⟨ps, fr, k + 1, rfl, by go_num, by omega, by omega, inv_miss hinv h2 hlt H4.out, hps, hown, hbel⟩
            case measure => simp [intOf]; omega
      · have HO := Lib.hid (inv_out hinv (Or.inr (by omega)))
        go_wp2
        go_ret
        exact ⟨_, rfl, by rw [← HO.out]; exact hown, hbel⟩
    · have HO := Lib.hid (inv_out hinv (Or.inl (by omega)))
      go_wp2
      go_ret
      exact ⟨_, rfl, by rw [← HO.out]; exact hown, hbel⟩
end Go.Proofs.YtclnedeodmlfeaaDoor

namespace Go.Proofs.YtclnedeodmlfeaaDoor
set_option linter.unusedSimpArgs false
set_option linter.unusedVariables false
open Go.RowKit Go.Sort
def stepZ (z : Int) (b : UInt8) : Int := wrap64 (wrap64 (10 * z) - ((b.toNat : Int) - 48) % 256)
def saidF (l : List UInt8) : Int := if l.length = 0 ∨ 20 < l.length then 0 else if l.headD 0 = 45 then l.tail.foldl stepZ 0 else wrap64 (-(l.foldl stepZ 0))
theorem said_out (l : List UInt8) (h : l.length = 0 ∨ 20 < l.length) (w : World) : Calls Tryd.prog 37 #[.string ⟨l.toArray⟩] w fun e w' => e = .returned (.int .i64 0) ∧ w' = w := by
  by_cases h0 : l.length = 0
  · have e0 : ((l.length : Int) == 0) = true := beq_iff_eq.2 (by omega)
    clear h
    go_enter Tryd.func37, Tryd.ntmps37
    go_wp2
    go_ret
    exact ⟨rfl, rfl⟩
  · have e0 : ((l.length : Int) == 0) = false := by rw [beq_eq_false_iff_ne]; omega
    have e1 : (20 : Int) < l.length := by omega
    clear h h0
    go_enter Tryd.func37, Tryd.ntmps37
    go_wp2
    go_ret
    exact ⟨rfl, rfl⟩
set_option maxRecDepth 100000 in
set_option maxHeartbeats 1000000 in
theorem said_in (c : UInt8) (r : List UInt8) (h20 : (c :: r).length ≤ 20) (mb : Bool) (hmb0 : ((c.toNat : Int) == 45) = mb) (w : World) :
    Calls Tryd.prog 37 #[.string ⟨(c :: r).toArray⟩] w fun e w' => e = .returned (.int .i64 (if mb then r.foldl stepZ 0 else wrap64 (-((c :: r).foldl stepZ 0)))) ∧ w' = w := by
  obtain ⟨l, hl⟩ : ∃ l, l = c :: r := ⟨_, rfl⟩
  have h0 : 0 < l.length := by rw [hl]; simp
  have hmb : ((((⟨l.toArray⟩ : ByteArray)[0]'h0).toNat : Int) == 45) = mb := by rw [ba_at l 0 h0]; subst hl; exact hmb0
  have hz : ∀ d, l.drop d = (c :: r).drop d := fun d => by rw [hl]
  rw [← hl] at h20 ⊢
  have HL := Lib.hid hl
  clear hl hmb0 hz
  have e0 : ((l.length : Int) == 0) = false := by rw [beq_eq_false_iff_ne]; omega
  have e20 : ¬ (20 : Int) < l.length := by omega
  obtain ⟨res, hres⟩ : ∃ res : Int, res = (if mb then r.foldl stepZ 0 else wrap64 (-(l.foldl stepZ 0))) := ⟨_, rfl⟩
  rw [← hres]
  have HR := Lib.hid hres
  clear hres
  go_enter Tryd.func37, Tryd.ntmps37
  go_wp2
  go_loop [3, 5] (fun n i => ∃ (k : Nat) (z : Int), k ≤ l.length ∧ i = .int .i64 k ∧ n = .int .i64 z ∧ Hid (z = ((l.take k).drop (if mb then 1 else 0)).foldl stepZ 0)) (fun _ i => l.length - (intOf i).toNat)
  case atStart => exact ⟨0, 0, Nat.zero_le _, rfl, rfl, by show (0 : Int) = _; cases mb <;> simp⟩
  case round =>
    obtain ⟨k, z, hk, rfl, rfl, HZ⟩ := hrel
    by_cases hlt : k < l.length
    · have hsn : l.take (k + 1) = l.take k ++ [l[k]] := by rw [List.take_add_one, List.getElem?_eq_getElem hlt]; rfl
      by_cases hk0 : k = 0
      · subst hk0
        cases mb
        · have HZ2 : Hid (wrap64 (wrap64 (10 * z) - ((((⟨l.toArray⟩ : ByteArray)[0]'h0).toNat : Int) - 48) % 256) = ((l.take (0 + 1)).drop 0).foldl stepZ 0) := by
            show _ = _
            rw [hsn, HZ.out]; rfl
          clear hsn HZ
          go_wp2
          go_round
          case rel => exact ⟨1, _, by omega, by go_num, rfl, HZ2⟩
          case measure => simp [intOf]; omega
        · have HZ2 : Hid (z = ((l.take (0 + 1)).drop 1).foldl stepZ 0) := by
            show _ = _
            rw [HZ.out]; simp
          clear hsn HZ
          go_wp2
          go_round
          case rel => exact ⟨1, _, by omega, by go_num, rfl, HZ2⟩
          case measure => simp [intOf]; omega
      · have hkp : (0 : Int) < k := by omega
        have HZ2 : Hid (wrap64 (wrap64 (10 * z) - ((((⟨l.toArray⟩ : ByteArray)[k]'hlt).toNat : Int) - 48) % 256) = ((l.take (k + 1)).drop (if mb then 1 else 0)).foldl stepZ 0) := by
          show _ = _
          rw [hsn, HZ.out, List.drop_append_of_le_length (by simp; split <;> omega), List.foldl_append]
          rfl
        clear hsn HZ
        go_wp2
        go_round
        case rel => exact ⟨k + 1, _, by omega, by go_num, rfl, HZ2⟩
        case measure => simp [intOf]; omega
    · obtain rfl : k = l.length := by omega
      have hz := HZ.out
      rw [List.take_length] at hz
      have hr := HR.out
      have hl := HL.out
      cases mb
      · have HE : Hid (wrap64 (-z) = res) := by
          show _ = _
          rw [hr, hz]; simp
        clear hz hr hl HZ HR HL
        go_wp2
        go_ret
        exact ⟨ret_int HE.out, rfl⟩
      · have HE : Hid (z = res) := by
          show _ = _
          rw [hr, hz, hl]; simp
        clear hz hr hl HZ HR HL
        go_wp2
        go_ret
        exact ⟨ret_int HE.out, rfl⟩
theorem said_any (l : List UInt8) (w : World) : Calls Tryd.prog 37 #[.string ⟨l.toArray⟩] w fun e w' => e = .returned (.int .i64 (saidF l)) ∧ w' = w := by
  unfold saidF
  by_cases h : l.length = 0 ∨ 20 < l.length
  · rw [if_pos h]; exact said_out l h w
  · rw [if_neg h]
    cases l with
    | nil => simp at h
    | cons c r =>
      refine (said_in c r (by omega) _ rfl w).mono ?_
      rintro e w' ⟨rfl, rfl⟩
      refine ⟨ret_int ?_, rfl⟩
      by_cases hc : c = 45
      · subst hc; rfl
      · have h1 : ((c.toNat : Int) == 45) = false := by
          rw [beq_eq_false_iff_ne]
          intro e
          exact hc (UInt8.toNat_inj.1 (by show c.toNat = 45; omega))
        rw [h1]
        simp [hc]
theorem wrap64_in {z : Int} (h : in64 z) : wrap64 z = z := by
  obtain ⟨h0, h1⟩ := h
  unfold wrap64
  omega
theorem fold_dec (u : Nat) (h : u ≤ 9223372036854775808) : (Lib.decDigits u).foldl stepZ 0 = -(u : Int) := by
  induction u using Nat.strongRecOn with
  | ind u ih =>
    by_cases hs : u < 10
    · rw [dec_small hs]
      simp only [List.foldl_cons, List.foldl_nil, stepZ, digit_toNat u hs]
      rw [wrap64_in (z := 10 * 0) ⟨by decide, by decide⟩, show ((48 + u : Nat) : Int) - 48 = u by omega, Int.emod_eq_of_lt (by omega) (by omega), wrap64_in ⟨by omega, by omega⟩]
      omega
    · rw [dec_big hs, List.foldl_append, ih (u / 10) (by omega) (by omega)]
      simp only [List.foldl_cons, List.foldl_nil, stepZ, digit_toNat (u % 10) (by omega)]
      rw [show ((48 + u % 10 : Nat) : Int) - 48 = (u % 10 : Nat) by omega, Int.emod_eq_of_lt (by omega) (by omega), wrap64_in (z := 10 * _) ⟨by omega, by omega⟩, wrap64_in ⟨by omega, by omega⟩]
      omega
theorem dec_len (k : Nat) : ∀ u : Nat, u < 10 ^ (k + 1) → (Lib.decDigits u).length ≤ k + 1 := by
  induction k with
  | zero => intro u h; rw [dec_small (by simpa using h)]; simp
  | succ k ih =>
    intro u h
    by_cases hs : u < 10
    · rw [dec_small hs]; simp
    · rw [dec_big hs, List.length_append]
      have := ih (u / 10) (by rw [Nat.pow_succ] at h; omega)
      simp; omega
theorem said_itoa (n : Int) (h : in64 n) : saidF (Lib.itoa n) = n := by
  obtain ⟨h0, h1⟩ := h
  unfold saidF
  by_cases hneg : n < 0
  · have e : Lib.itoa n = 45 :: Lib.decDigits n.natAbs := by unfold Lib.itoa; rw [if_pos hneg]
    have hl := dec_len 18 n.natAbs (by omega)
    rw [e, if_neg (by simp; omega)]
    simp only [List.headD_cons, if_true, List.tail_cons]
    rw [fold_dec _ (by omega)]
    omega
  · have e : Lib.itoa n = Lib.decDigits n.toNat := itoa_nn (by omega)
    have hl := dec_len 18 n.toNat (by omega)
    have hd := dec_digits n.toNat
    have hne := dec_ne n.toNat
    have hf := fold_dec n.toNat (by omega)
    rw [e]
    generalize Lib.decDigits n.toNat = d at *
    cases d with
    | nil => exact absurd rfl hne
    | cons c r =>
      have hc := hd c (by simp)
      rw [if_neg (by simp at hl ⊢; omega)]
      have hc45 : c ≠ 45 := by intro e; subst e; revert hc; decide
      rw [if_neg (show ¬ (c :: r).headD 0 = 45 from hc45), hf, wrap64_in ⟨by omega, by omega⟩]
      omega
end Go.Proofs.YtclnedeodmlfeaaDoor

namespace Go.Proofs.YtclnedeodmlfeaaDoor
set_option linter.unusedSimpArgs false
set_option linter.unusedVariables false
open Go.RowKit
theorem grown_setCells (b : Nat) : ∀ (vs : List Value) (o : Nat) (w : World), w.grownBy (w.setCells b o vs) (some b)
  | [], _, w => ⟨rfl, rfl, rfl, Nat.le_refl _, fun _ _ _ => rfl⟩
  | v :: r, o, w => by
    have h := grown_setCells b r (o + 1) (w.setCell ⟨b, o, none⟩ v)
    have hs : (w.setCell ⟨b, o, none⟩ v).heap.size = w.heap.size := by simp [World.setCell]
    refine ⟨h.os, h.tape, h.output, by rw [← hs]; exact h.size, fun k hk hne => ?_⟩
    refine (h.block k (by rw [hs]; exact hk) hne).trans (Below.heap_setCell w _ _ _ ?_)
    intro e; exact hne (by rw [e])
theorem own_open {w : World} {base : Nat} {e : TypeId} {size : Nat} {v : Value} {n : Nat} {xs : List Value} (h : w.ownsRow base e size v (n + 1) xs) :
    ∃ g cap cur, v = .slice (some ⟨g, 0, none⟩) (n + 1) cap ∧ base ≤ g ∧ w.heap[g]? = some (.cells cur e (0, 0)) ∧ n + 1 ≤ cap ∧ cap ≤ maxLen ∧ cur.size = cap * size ∧ cur.toList.take ((n + 1) * size) = xs := by
  rcases h.2 with ⟨_, h0⟩ | h
  · omega
  · exact h
theorem wpList_append_mid {P : Program} (w : World) {ops : Array Oper} {rest : List Oper} {o : Oper} {a : Act} {Q : Exit → Act → World → Prop}
    (hg : o.guard = none) (s x : Operand) (t : TypeId) (hop : o.op = Op.call { callee := Callee.builtin Builtin.append, args := #[s, x], argTypes := #[t, t] })
    (e : TypeId) (i : TypeInfo) (z : Value) (size bytes : Nat) (h1 : P.underlying t = some (.slice e)) (h2 : P.info? e = some i) (h3 : i.zero = some z) (h4 : i.size = size) (h5 : i.bytes = bytes) (h6 : z.cells.size = size) (h7 : 0 < size)
    (b off n cap : Nat) (olds : List Value) (hs : a.eval s = .slice (some ⟨b, off, none⟩) n cap) (hlo : olds.length = n * size) (holds : ∀ j u, olds[j]? = some u → w.cell? ⟨b, off + j, none⟩ = some u) (hbw : b < w.heap.size)
    (ad : Addr) (m c : Nat) (news : List Value) (hx : a.eval x = .slice (some ad) m c) (hn : news.length = m * size) (hc : ∀ j u, news[j]? = some u → w.cell? (ad.add j) = some u) (h1c : ∀ u ∈ news, u.oneCell' = true)
    (hspare : n + m ≤ cap → ∀ j, j < news.length → (w.cell? ⟨b, off + n * size + j, none⟩).isSome = true ∧ w.frozen? ⟨b, off + n * size + j, none⟩ = false)
    (b1 : n + m ≤ maxLen) (b2 : (n + m) * bytes ≤ 140737488355328) (hm : 0 < m)
    (hk : ∀ b' off' cap' w', (∀ j u, (olds ++ news)[j]? = some u → w'.cell? ⟨b', off' + j, none⟩ = some u) → w.grownBy w' (some b) → (b' = b ∨ w.heap.size ≤ b') → b' < w'.heap.size → n + m ≤ cap' →
      wpList P ops Q rest (a.put o.dst (.slice (some ⟨b', off', none⟩) (n + m) cap')) w') :
    wpList P ops Q (o :: rest) a w := by
  refine wpList_append_arg w hg s x t hop e i z size bytes h1 h2 h3 h4 h5 h6 h7 b off n cap olds hs hlo holds ad m c news hx hn hc h1c hspare b1 b2 (fun hroom => ?_) (fun hroom v' w' hown hgr => ?_)
  · have hgs := grown_setCells b news (off + n * size) w
    refine hk b off cap _ (fun j u hj => ?_) hgs (Or.inl rfl) (Nat.lt_of_lt_of_le hbw hgs.size) hroom
    by_cases hjo : j < olds.length
    · rw [List.getElem?_append_left hjo] at hj
      rw [World.cell?_setCells_out b news _ w _ (fun _ _ => Or.inl (by simp; omega))]
      exact holds j u hj
    · rw [List.getElem?_append_right (by omega)] at hj
      have hjn := (List.getElem?_eq_some_iff.1 hj).1
      have := World.cell?_setCells_in b news (off + n * size) w (fun q hq => (hspare hroom q hq).1) (j - olds.length) hjn
      rw [show off + j = off + n * size + (j - olds.length) by omega, this]
      rw [List.getElem?_eq_getElem hjn] at hj
      exact hj
  · obtain ⟨g, cap', rfl, hgb, hglt⟩ := hown.form (by omega)
    have hcells := hown.cells (g := g) rfl
    refine hk g 0 cap' w' (fun j u hj => ?_) ⟨hgr.os, hgr.tape, hgr.output, hgr.size, fun k hk _ => hgr.block k hk (by simp)⟩ (Or.inr hgb) hglt ?_
    · have := hcells j u hj
      have hadd : (⟨g, 0, none⟩ : Addr).add j = ⟨g, j, none⟩ := by unfold Addr.add; split <;> simp_all
      rw [Nat.zero_add, ← hadd]
      exact this
    · rcases hown.2 with ⟨h, _⟩ | ⟨g', cap'', cur, hv, _, _, hle, _⟩
      · cases h
      · cases hv; exact hle
end Go.Proofs.YtclnedeodmlfeaaDoor

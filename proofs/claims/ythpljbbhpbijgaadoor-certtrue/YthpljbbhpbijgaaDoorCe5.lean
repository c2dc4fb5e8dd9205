/- May, the set of what is allowed, isSet. -/
import Derived.Test.YthpljbbhpbijgaaDoorCe4
namespace Go.Proofs.YthpljbbhpbijgaaDoor
set_option linter.unusedSimpArgs false
set_option linter.unusedVariables false
open Go.RowKit Go.Sort Go.Shelf Go.Lib Go.Maps

def edIs (a b : Int) (e : Edg) : Bool := e == ⟨a, b⟩
def mayB (L : List Edg) (a b : Int) : Bool := (a == b) || L.any (edIs a b)
theorem any_stepC {α : Type} {E : List α} {p : α → Bool} {k : Nat} (h : k < E.length) : (E.take (k + 1)).any p = ((E.take k).any p || p E[k]) := by
  rw [List.take_succ_eq_append_getElem h, List.any_append]
  simp
set_option maxRecDepth 100000 in
set_option maxHeartbeats 2000000 in
theorem may_any (L : List Edg) (hLl : L.length ≤ 16) (a b : Int) (vL : Value) (w : World) (hL : Sl w 2 vL L.length (rowC Edg.cells L)) :
    Calls Tryd.prog 47 #[.agg #[vL], .int .i64 a, .int .i64 b] w fun e w' => e = .returned (.bool (mayB L a b)) ∧ RowKit.Below w.heap.size w w' := by
  generalize hm : mayB L a b = m
  unfold mayB at hm
  obtain ⟨la, lc, rfl⟩ := hL.form
  have HL := Lib.hid hL
  have HM := Lib.hid hm
  clear hL hm
  go_enter Tryd.func47, Tryd.ntmps47
  go_wp2
  go_loopw [8, 7] (fun i f wr => ∃ k : Nat, i = .int .i64 k ∧ f = .bool ((a == b) || (L.take k).any (edIs a b)) ∧ k ≤ L.length ∧ wr.cell? ⟨w.heap.size, 0, none⟩ = some (.slice la L.length lc) ∧ Hid (RowKit.Below w.heap.size w wr)) (fun i _ _ => L.length - (intOf i).toNat)
  case atStart => exact ⟨0, rfl, by simp, Nat.zero_le _, by simp, (by repeat (first | exact Below.refl _ _ | assumption | refine Below.drew ?_ | refine Below.alloc ?_ (by first | (simp; done) | (simp; omega)) _ | refine Below.setCell ?_ (by first | (simp; done) | (simp; omega)) _))⟩
  case round =>
    obtain ⟨k, rfl, rfl, hk, hb0, HT⟩ := hrel
    by_cases hlt : k < L.length
    · have hli : (k : Int) < L.length := by omega
      have HST := Lib.hid (any_stepC (p := edIs a b) hlt)
      obtain ⟨pb, po, pc', e1, hpc, hpb, hpx⟩ := (HL.out.up HT.out).open (by omega)
      cases e1
      obtain ⟨c0, c1⟩ := edge_cells hpx k hlt
      generalize L[k] = ed at c0 c1 HST
      obtain ⟨ef, et⟩ := ed
      simp only at c0 c1
      clear hpx
      cases hfl : ((a == b) || (L.take k).any (edIs a b)) with
      | true =>
        have HS2 : Hid (((a == b) || (L.take (k + 1)).any (edIs a b)) = true) := Lib.hid (by rw [HST.out, ← Bool.or_assoc, hfl]; rfl)
        clear HST hfl
        go_wp2
        go_roundw
        case rel => exact ⟨k + 1, by go_num, by rw [HS2.out], by omega, hb0, HT⟩
        case measure => simp [intOf]; omega
      | false =>
        by_cases h1 : ef = a
        · subst h1
          by_cases h2 : et = b
          · subst h2
            have HS2 : Hid (((ef == et) || (L.take (k + 1)).any (edIs ef et)) = true) := Lib.hid (by rw [HST.out, ← Bool.or_assoc, hfl]; simp [edIs])
            clear HST hfl
            go_wp2
            go_roundw
            case rel => exact ⟨k + 1, by go_num, by rw [HS2.out], by omega, hb0, HT⟩
            case measure => simp [intOf]; omega
          · have HS2 : Hid (((ef == b) || (L.take (k + 1)).any (edIs ef b)) = false) := Lib.hid (by rw [HST.out, ← Bool.or_assoc, hfl]; simp [edIs, h2])
            have h2' : (et == b) = false := by simpa using h2
            clear HST hfl
            go_wp2
            go_roundw
            case rel => exact ⟨k + 1, by go_num, by rw [HS2.out], by omega, hb0, HT⟩
            case measure => simp [intOf]; omega
        · have HS2 : Hid (((a == b) || (L.take (k + 1)).any (edIs a b)) = false) := Lib.hid (by rw [HST.out, ← Bool.or_assoc, hfl]; simp [edIs, h1])
          have h1' : (ef == a) = false := by simpa using h1
          clear HST hfl
          go_wp2
          go_roundw
          case rel => exact ⟨k + 1, by go_num, by rw [HS2.out], by omega, hb0, HT⟩
          case measure => simp [intOf]; omega
    · have hli : ¬ (k : Int) < L.length := by omega
      have HE : Hid (((a == b) || (L.take k).any (edIs a b)) = m) := Lib.hid (by rw [List.take_of_length_le (by omega)]; exact HM.out)
      go_wp2
      go_ret
      exact ⟨ret_bool HE.out, HT.out⟩
/-- What says.has is asked. -/
theorem saysHas_any (b n : Nat) (V : List Edg) (e : Edg) (we : e.wf) (w : World) (hM : SaysM w b n V) :
    Calls Tryd.prog 44 #[.map (some b), .int .i64 e.fr, .int .i64 e.tt] w fun r w' => r = .returned (.bool (decide (e ∈ V))) ∧ RowKit.Below w.heap.size w w' := by
  have HM := Lib.hid hM
  clear hM
  generalize hd : decide (e ∈ V) = d
  have HD := Lib.hid hd
  clear hd
  go_enter Tryd.func44, Tryd.ntmps44
  go_wp2_with (at_lookup; refine wpList_says_has rfl _ _ rfl b n V rfl HM.out e rfl we ?_; rw [HD.out])
  go_ret
  exact ⟨rfl, (by repeat (first | exact Below.refl _ _ | assumption | refine Below.drew ?_ | refine Below.alloc ?_ (by first | (simp; done) | (simp; omega)) _ | refine Below.setCell ?_ (by first | (simp; done) | (simp; omega)) _))⟩
def selfL (n : Nat) : List Edg := (List.range n).map fun (i : Nat) => ⟨i, i⟩
theorem selfL_step (n : Nat) : selfL (n + 1) = selfL n ++ [⟨n, n⟩] := by
  unfold selfL
  rw [List.range_succ, List.map_append]
  rfl
theorem allowed_has {n : Nat} {L : List Edg} {a b : Int} (ha : 0 ≤ a ∧ a < n) : decide ((⟨a, b⟩ : Edg) ∈ selfL n ++ L) = mayB L a b := by
  unfold mayB
  by_cases h1 : a = b
  · subst h1
    have : (⟨a, a⟩ : Edg) ∈ selfL n := by
      unfold selfL
      rw [List.mem_map]
      exact ⟨a.toNat, List.mem_range.2 (by omega), by rw [Int.toNat_of_nonneg ha.1]⟩
    simp [this]
  · have h2 : (⟨a, b⟩ : Edg) ∉ selfL n := by
      unfold selfL
      rw [List.mem_map]
      rintro ⟨i, _, e⟩
      injection e with e1 e2
      exact h1 (e1.symm.trans e2)
    have h3 : (L.any (edIs a b)) = decide ((⟨a, b⟩ : Edg) ∈ L) := by
      by_cases h : (⟨a, b⟩ : Edg) ∈ L
      · rw [decide_eq_true h, List.any_eq_true]
        exact ⟨_, h, by simp [edIs]⟩
      · rw [decide_eq_false h, List.any_eq_false]
        intro e he
        simp only [edIs, beq_iff_eq]
        exact fun e2 => h (e2 ▸ he)
    rw [h3]
    simp [h1, h2]
set_option maxRecDepth 100000 in
set_option maxHeartbeats 4000000 in
theorem allowed_any (n : Nat) (hn : n ≤ 4) (L : List Edg) (hLl : L.length ≤ 16) (hwf : ∀ e ∈ L, e.wf) (vL : Value) (w : World) (hL : Sl w 2 vL L.length (rowC Edg.cells L)) :
    Calls Tryd.prog 41 #[.int .i64 (n : Int), .agg #[vL]] w fun e w' => ∃ b, e = .returned (.map (some b)) ∧ (∃ m, SaysM w' b m (selfL n ++ L)) ∧ RowKit.Below w.heap.size w w' := by
  obtain ⟨la, lc, rfl⟩ := hL.form
  have HL := Lib.hid hL
  have HWF := Lib.hid hwf
  clear hL hwf
  have hmm := @run_makeMap Tryd.prog
  go_enter Tryd.func41, Tryd.ntmps41
  go_wp2
  clear hmm
  go_loopw [11] (fun i wr => ∃ k : Nat, i = .int .i64 k ∧ k ≤ n ∧ Hid (SaysM wr (w.heap.size + 1) k (selfL k)) ∧ wr.cell? ⟨w.heap.size, 0, none⟩ = some (.slice la L.length lc) ∧ w.heap.size + 1 < wr.heap.size ∧ Hid (RowKit.Below w.heap.size w wr)) (fun i _ => n - (intOf i).toNat)
  case atStart => exact ⟨0, rfl, Nat.zero_le _, Lib.hid (by have := says_made (w.alloc (.cells #[.slice la L.length lc] 52)); simpa [selfL] using this), by simp, by simp, (by repeat (first | exact Below.refl _ _ | assumption | refine Below.drew ?_ | refine Below.alloc ?_ (by first | (simp; done) | (simp; omega)) _ | refine Below.setCell ?_ (by first | (simp; done) | (simp; omega)) _))⟩
  case round =>
    obtain ⟨k, rfl, hk, HM, hb0, hws, HT⟩ := hrel
    by_cases hlt : k < n
    · have hli : (k : Int) < n := by omega
      have we : (⟨k, k⟩ : Edg).wf := ⟨wf_small (by simp) (by simp; omega), wf_small (by simp) (by simp; omega)⟩
      go_wp2_with (refine wpList_says_put rfl _ _ _ rfl (w.heap.size + 1) k (selfL k) rfl HM.out (by omega) ⟨k, k⟩ rfl rfl we ?_)
      intro W hM hg
      have hb1 := (hg.cell_far ⟨w.heap.size, 0, none⟩ (by show w.heap.size < wr.heap.size; omega) (by simp)).trans hb0
      have HM2 : Hid (SaysM W (w.heap.size + 1) (k + 1) (selfL (k + 1))) := Lib.hid (by rw [selfL_step]; exact hM)
      have HT2 := Lib.hid (HT.out.grown hg HT.out.size (fun q e => by cases e; omega))
      have hws2 := Nat.lt_of_lt_of_le hws hg.size
      clear hM hg HM HT hb0
      go_wp2
      go_roundw
      case rel => exact ⟨k + 1, by go_num, by omega, HM2, hb1, hws2, HT2⟩
      case measure => simp [intOf]; omega
    · have hli : ¬ (k : Int) < n := by omega
      have hkn : k = n := by omega
      subst hkn
      go_wp2
      go_loopw [23] (fun i wr => ∃ j : Nat, i = .int .i64 j ∧ j ≤ L.length ∧ Hid (SaysM wr (w.heap.size + 1) (k + j) (selfL k ++ L.take j)) ∧ w.heap.size + 1 < wr.heap.size ∧ Hid (RowKit.Below w.heap.size w wr)) (fun i _ => L.length - (intOf i).toNat)
      case atStart => exact ⟨0, rfl, Nat.zero_le _, by simpa using HM, hws, HT⟩
      case round =>
        clear HM hb0 hws HT
        obtain ⟨j, rfl, hj, HM, hws, HT⟩ := hrel
        by_cases hjl : j < L.length
        · have hji : (j : Int) < L.length := by omega
          obtain ⟨pb, po, pc', e1, hpc, hpb, hpx⟩ := (HL.out.up HT.out).open (by omega)
          cases e1
          obtain ⟨c0, c1⟩ := edge_cells hpx j hjl
          have we := HWF.out _ (List.getElem_mem hjl)
          have HTK := Lib.hid (List.take_succ_eq_append_getElem hjl)
          generalize L[j] = ed at c0 c1 we HTK
          obtain ⟨ef, et⟩ := ed
          simp only at c0 c1
          clear hpx
          have HM1 := Lib.hid (HM.out.alloc (.cells #[.int .i64 ef, .int .i64 et] 37))
          go_wp2_with (refine wpList_says_put rfl _ _ _ rfl (w.heap.size + 1) (k + j) (selfL k ++ L.take j) rfl HM1.out (by omega) ⟨ef, et⟩ rfl rfl we ?_)
          intro W hM hg
          have hsz := HT.out.size
          have HM2 : Hid (SaysM W (w.heap.size + 1) (k + (j + 1)) (selfL k ++ L.take (j + 1))) := Lib.hid (by rw [HTK.out]; first | exact hM | (rw [← List.append_assoc]; exact hM))
          have HT2 := Lib.hid ((HT.out.alloc HT.out.size _).grown hg (by simp; omega) (fun q e => by cases e; omega))
          have hws2 : w.heap.size + 1 < W.heap.size := Nat.lt_of_lt_of_le (by simp; omega) hg.size
          clear hM hg HM HM1 HT
          go_wp2
          go_roundw
          case rel => exact ⟨j + 1, by go_num, by omega, HM2, hws2, HT2⟩
          case measure => simp [intOf]; omega
        · have hji : ¬ (j : Int) < L.length := by omega
          have HM2 : Hid (SaysM wr (w.heap.size + 1) (k + j) (selfL k ++ L)) := Lib.hid (by have := HM.out; rwa [List.take_of_length_le (by omega)] at this)
          go_wp2
          go_ret
          exact ⟨_, rfl, ⟨_, HM2.out⟩, HT.out⟩
/-- The first k of a row are right. -/
def SetUp (n : Nat) (l : List Int) (k : Nat) : Prop := ∀ j (h : j < l.length), j < k → withinB l[j] 0 ((n : Int) - 1) = true ∧ (∀ h0 : 0 < j, l[j - 1]'(by omega) < l[j])
noncomputable def setB (n : Nat) (l : List Int) : Bool := @decide (SetUp n l l.length) (Classical.propDecidable _)
theorem setB_is {n : Nat} {l : List Int} (h : setB n l = true) : SetUp n l l.length := by unfold setB at h; simpa using h
theorem setB_true {n : Nat} {l : List Int} (h : SetUp n l l.length) : setB n l = true := by unfold setB; simpa using h
theorem setB_false {n : Nat} {l : List Int} (h : ¬ SetUp n l l.length) : setB n l = false := by unfold setB; simpa using h
theorem setUp_step {n : Nat} {l : List Int} {k : Nat} (h : SetUp n l k) (hk : k < l.length) (h1 : withinB l[k] 0 ((n : Int) - 1) = true) (h2 : ∀ h0 : 0 < k, l[k - 1]'(by omega) < l[k]) : SetUp n l (k + 1) := fun j hj hjk => by
  by_cases e : j = k
  · subst e; exact ⟨h1, h2⟩
  · exact h j hj (by omega)
theorem setUp_len {n : Nat} {l : List Int} {k : Nat} (h : SetUp n l k) (hk : k ≤ l.length) : k ≤ n := by
  have key : ∀ j (hj : j < l.length), j < k → (j : Int) ≤ l[j] := by
    intro j
    induction j with
    | zero =>
      intro hj hjk
      have := (h 0 hj hjk).1
      unfold withinB at this
      simp at this
      omega
    | succ j ih =>
      intro hj hjk
      have a := ih (by omega) (by omega)
      have := (h (j + 1) hj hjk).2 (by omega)
      simp at this
      omega
  rcases Nat.eq_zero_or_pos k with e | e
  · omega
  · have a := key (k - 1) (by omega) (by omega)
    have := (h (k - 1) (by omega) (by omega)).1
    unfold withinB at this
    simp at this
    omega
set_option maxRecDepth 100000 in
set_option maxHeartbeats 4000000 in
theorem isSet_any (n : Nat) (hn : n ≤ 4) (l : List Int) (v : Value) (w : World) (hS : Sl w 1 v l.length (ints l)) :
    Calls Tryd.prog 50 #[.int .i64 (n : Int), v] w fun e w' => e = .returned (.bool (setB n l)) ∧ w' = w := by
  obtain ⟨ao, cap, rfl⟩ := hS.form
  have HS := Lib.hid hS
  clear hS
  go_enter Tryd.func50, Tryd.ntmps50
  go_wp2
  go_loopw [9] (fun i wr => ∃ k : Nat, i = .int .i64 k ∧ k ≤ l.length ∧ Hid (SetUp n l k) ∧ wr = w) (fun i _ => l.length - (intOf i).toNat)
  case atStart => exact ⟨0, rfl, Nat.zero_le _, Lib.hid (fun j _ h => by omega), rfl⟩
  case round =>
    obtain ⟨k, rfl, hk, HP, rfl⟩ := hrel
    by_cases hlt : k < l.length
    · have hli : (k : Int) < l.length := by omega
      have hk4 := setUp_len HP.out hk
      obtain ⟨b, off, cap', e1, hcap, hbw, hc⟩ := HS.out.open (by omega)
      cases e1
      have c0 := hc k _ (ints_at l k hlt)
      cases hA : withinB l[k] 0 ((n : Int) - 1) with
      | false =>
        have HBAD := Lib.hid (setB_false (n := n) (l := l) (fun h => by have := (h k hlt hlt).1; rw [hA] at this; cases this))
        clear hc
        go_wp2_with (go_at_call 71; refine (ceIsPart_any _ _ _).mono ?_; rintro e w' ⟨rfl, rfl⟩)
        go_ret
        exact ⟨ret_bool HBAD.out.symm, rfl⟩
      | true =>
        rcases Nat.eq_zero_or_pos k with e0 | h0
        · subst e0
          have HS2 := Lib.hid (setUp_step HP.out hlt hA (fun h => by omega))
          simp only [Nat.add_zero] at c0
          clear hc
          go_wp2_with (go_at_call 71; refine (ceIsPart_any _ _ _).mono ?_; rintro e w' ⟨rfl, rfl⟩)
          go_roundw
          case rel => exact ⟨1, by go_num, by omega, HS2, by first | rfl | trivial⟩
          case measure => simp [intOf]; omega
        · have hk0 : (0 : Int) < k := by omega
          have d0 := hc (k - 1) _ (ints_at l (k - 1) (by omega))
          by_cases hls : l[k - 1]'(by omega) < l[k]
          · have HS2 := Lib.hid (setUp_step HP.out hlt hA (fun _ => hls))
            have hls' : decide (l[k] ≤ l[k - 1]'(by omega)) = false := by simpa using hls
            clear hc
            go_wp2_with (go_at_call 71; refine (ceIsPart_any _ _ _).mono ?_; rintro e w' ⟨rfl, rfl⟩)
            go_roundw
            case rel => exact ⟨k + 1, by go_num, by omega, HS2, by first | rfl | trivial⟩
            case measure => simp [intOf]; omega
          · have HBAD := Lib.hid (setB_false (n := n) (l := l) (fun h => hls ((h k hlt hlt).2 h0)))
            have hls' : decide (l[k] ≤ l[k - 1]'(by omega)) = true := by simpa using hls
            clear hc
            go_wp2_with (go_at_call 71; refine (ceIsPart_any _ _ _).mono ?_; rintro e w' ⟨rfl, rfl⟩)
            go_ret
            exact ⟨ret_bool HBAD.out.symm, rfl⟩
    · have hli : ¬ (k : Int) < l.length := by omega
      have HG := Lib.hid (setB_true (n := n) (l := l) (fun j hj _ => HP.out j hj (by omega)))
      go_wp2
      go_ret
      exact ⟨ret_bool HG.out.symm, rfl⟩
end Go.Proofs.YthpljbbhpbijgaaDoor

/- What is told is made of numbers of 64 bits. -/
import Derived.Test.YtbkdoohhdkahiaaGreatDoorK24
import Derived.Test.YtbkdoohhdkahiaaGreatDoorK16
import Derived.Test.YtbkdoohhdkahiaaGreatDoorK26
import Derived.Test.YtbkdoohhdkahiaaGreatDoorK22
import Derived.Test.YtbkdoohhdkahiaaGreatDoorK3
import Derived.Test.YtbkdoohhdkahiaaGreatDoorK4
import Derived.Deep.CutRange
namespace Go.Proofs.YtbkdoohhdkahiaaGreatDoor
set_option linter.unusedSimpArgs false
set_option linter.unusedVariables false
open Go.RowKit Go.Sort
theorem wrap64_in (n : Int) : in64 (wrap64 n) := by unfold wrap64 in64; omega
theorem truthI_in (b : Bool) : in64 (truthI b) := by cases b <;> exact ⟨by decide, by decide⟩
theorem zero_in : in64 0 := ⟨by decide, by decide⟩
structure C64 (c : Cel) : Prop where
  r0 : in64 c.r0
  r1 : in64 c.r1
  r2 : in64 c.r2
  r3 : in64 c.r3
  m0 : in64 c.m0
  m1 : in64 c.m1
  m2 : in64 c.m2
  m3 : in64 c.m3
  m4 : in64 c.m4
  m5 : in64 c.m5
  m6 : in64 c.m6
  m7 : in64 c.m7
theorem C64.reg {c : Cel} (h : C64 c) (k : Int) : in64 (c.reg k) := by
  unfold Cel.reg
  split
  · exact h.r0
  split
  · exact h.r1
  split
  · exact h.r2
  exact h.r3
theorem C64.memo {c : Cel} (h : C64 c) (k : Int) : in64 (c.memo k) := by
  unfold Cel.memo
  split
  · exact h.m0
  split
  · exact h.m1
  split
  · exact h.m2
  split
  · exact h.m3
  split
  · exact h.m4
  split
  · exact h.m5
  split
  · exact h.m6
  exact h.m7
theorem C64.setReg {c : Cel} (h : C64 c) (k : Int) {v : Int} (hv : in64 v) : C64 (c.setReg k v) := by
  obtain ⟨a0, a1, a2, a3, a4, a5, a6, a7, a8, a9, a10, a11⟩ := h
  unfold Cel.setReg
  repeat' split
  all_goals constructor <;> assumption
theorem C64.setMem {c : Cel} (h : C64 c) (k : Int) {v : Int} (hv : in64 v) : C64 (c.setMem k v) := by
  obtain ⟨a0, a1, a2, a3, a4, a5, a6, a7, a8, a9, a10, a11⟩ := h
  unfold Cel.setMem
  repeat' split
  all_goals constructor <;> assumption
theorem C64.with {c c' : Cel} (h : C64 c) (e : c'.r0 = c.r0 ∧ c'.r1 = c.r1 ∧ c'.r2 = c.r2 ∧ c'.r3 = c.r3 ∧ c'.m0 = c.m0 ∧ c'.m1 = c.m1 ∧ c'.m2 = c.m2 ∧ c'.m3 = c.m3 ∧ c'.m4 = c.m4 ∧ c'.m5 = c.m5 ∧ c'.m6 = c.m6 ∧ c'.m7 = c.m7) : C64 c' := by
  obtain ⟨e0, e1, e2, e3, e4, e5, e6, e7, e8, e9, e10, e11⟩ := e
  exact ⟨e0 ▸ h.r0, e1 ▸ h.r1, e2 ▸ h.r2, e3 ▸ h.r3, e4 ▸ h.m0, e5 ▸ h.m1, e6 ▸ h.m2, e7 ▸ h.m3, e8 ▸ h.m4, e9 ▸ h.m5, e10 ▸ h.m6, e11 ▸ h.m7⟩
theorem C64.at {c : Cel} (h : C64 c) (a : Int) : C64 { c with at_ := a } := h.with ⟨rfl, rfl, rfl, rfl, rfl, rfl, rfl, rfl, rfl, rfl, rfl, rfl⟩
theorem C64.en {c : Cel} (h : C64 c) (e : Int) : C64 { c with en := e } := h.with ⟨rfl, rfl, rfl, rfl, rfl, rfl, rfl, rfl, rfl, rfl, rfl, rfl⟩
theorem C64.take {c : Cel} (h : C64 c) (n : Nat) : C64 (takeC c n) := by
  unfold takeC
  split
  · exact h.with ⟨rfl, rfl, rfl, rfl, rfl, rfl, rfl, rfl, rfl, rfl, rfl, rfl⟩
  · exact h
theorem takeI_in {inn : List Int} (h : ∀ n ∈ inn, in64 n) (r : Int) : in64 (takeI inn r) := by
  unfold takeI
  split
  · by_cases hr : r.toNat < inn.length
    · rw [List.getD_eq_getElem?_getD, List.getElem?_eq_getElem hr]
      exact h _ (List.getElem_mem hr)
    · rw [List.getD_eq_getElem?_getD, List.getElem?_eq_none (by omega)]
      exact zero_in
  · exact zero_in
theorem tellL_in {xs : List Int} (h : ∀ n ∈ xs, in64 n) {v : Int} (hv : in64 v) : ∀ n ∈ tellL xs v, in64 n := by
  unfold tellL
  split
  · intro n hn
    rcases List.mem_append.1 hn with hn | hn
    · exact h n hn
    · rw [List.mem_singleton.1 hn]
      exact hv
  · exact h
structure T64 (t : Cel × List Int × Wnt) : Prop where
  c : C64 t.1
  o : ∀ n ∈ t.2.1, in64 n
  v : in64 t.2.2.val
theorem doC_in {i : Ins} (hi : in64 i.n) {inn xs : List Int} (hin : ∀ n ∈ inn, in64 n) {c : Cel} {x : Wnt} (h : T64 (c, xs, x)) {t : Cel × List Int × Wnt} (e : doC i inn xs c x = some t) : T64 t := by
  obtain ⟨hc, ho, hv⟩ := h
  dsimp only at hc ho hv
  unfold doC at e
  by_cases h1 : i.op = 1
  · rw [if_pos h1] at e
    injection e with e; subst e; exact ⟨(hc.setReg _ hi).at _, ho, hv⟩
  rw [if_neg h1] at e
  by_cases h2 : i.op = 2
  · rw [if_pos h2] at e
    injection e with e; subst e; exact ⟨(hc.setReg _ (hc.reg _)).at _, ho, hv⟩
  rw [if_neg h2] at e
  by_cases h3 : i.op = 3
  · rw [if_pos h3] at e
    injection e with e; subst e; exact ⟨(hc.setReg _ (wrap64_in _)).at _, ho, hv⟩
  rw [if_neg h3] at e
  by_cases h4 : i.op = 4
  · rw [if_pos h4] at e
    injection e with e; subst e; exact ⟨(hc.setReg _ (wrap64_in _)).at _, ho, hv⟩
  rw [if_neg h4] at e
  by_cases h5 : i.op = 5
  · rw [if_pos h5] at e
    injection e with e; subst e; exact ⟨(hc.setReg _ (truthI_in _)).at _, ho, hv⟩
  rw [if_neg h5] at e
  by_cases h6 : i.op = 6
  · rw [if_pos h6] at e
    by_cases hb : c.reg i.b < 0 ∨ 8 ≤ c.reg i.b
    · rw [if_pos hb] at e
      cases e
    · rw [if_neg hb] at e
      injection e with e; subst e; exact ⟨(hc.setReg _ (hc.memo _)).at _, ho, hv⟩
  rw [if_neg h6] at e
  by_cases h7 : i.op = 7
  · rw [if_pos h7] at e
    by_cases hb : c.reg i.b < 0 ∨ 8 ≤ c.reg i.b
    · rw [if_pos hb] at e
      cases e
    · rw [if_neg hb] at e
      injection e with e; subst e; exact ⟨(hc.setMem _ (hc.reg _)).at _, ho, hv⟩
  rw [if_neg h7] at e
  by_cases h8 : i.op = 8
  · rw [if_pos h8] at e
    injection e with e; subst e; exact ⟨hc.at _, ho, hv⟩
  rw [if_neg h8] at e
  by_cases h9 : i.op = 9
  · rw [if_pos h9] at e
    injection e with e; subst e; exact ⟨hc.at _, ho, hv⟩
  rw [if_neg h9] at e
  by_cases h10 : i.op = 10
  · rw [if_pos h10] at e
    injection e with e; subst e; exact ⟨((hc.take _).setReg _ (takeI_in hin _)).at _, ho, hv⟩
  rw [if_neg h10] at e
  by_cases h11 : i.op = 11
  · rw [if_pos h11] at e
    injection e with e; subst e; exact ⟨hc.at _, tellL_in ho (hc.reg _), hv⟩
  rw [if_neg h11] at e
  by_cases h12 : i.op = 12
  · rw [if_pos h12] at e
    injection e with e; subst e; exact ⟨hc.at _, ho, hc.reg _⟩
  rw [if_neg h12] at e
  by_cases h13 : i.op = 13
  · rw [if_pos h13] at e
    injection e with e; subst e; exact ⟨hc.at _, ho, zero_in⟩
  rw [if_neg h13] at e
  by_cases h14 : i.op = 14
  · rw [if_pos h14] at e
    injection e with e; subst e; exact ⟨hc.at _, ho, hv⟩
  rw [if_neg h14] at e
  injection e with e; subst e; exact ⟨hc.with ⟨rfl, rfl, rfl, rfl, rfl, rfl, rfl, rfl, rfl, rfl, rfl, rfl⟩, ho, hv⟩
theorem stepC_in {l : List Ins} (hl : ∀ i ∈ l, in64 i.n) {inn xs : List Int} (hin : ∀ n ∈ inn, in64 n) {c : Cel} (hc : C64 c) (ho : ∀ n ∈ xs, in64 n) : T64 (stepC l inn xs c) := by
  unfold stepC
  split
  · unfold runC
    split
    · exact ⟨hc.en _, ho, zero_in⟩
    · rename_i i hi
      cases he : doC i inn xs c wntZ with
      | none => exact ⟨hc.en _, ho, zero_in⟩
      | some t => exact doC_in (hl i (List.mem_of_getElem? hi)) hin ⟨hc, ho, zero_in⟩ he
  · exact ⟨hc, ho, zero_in⟩
theorem servR_in {kd : Int} {l : List Int} (hl : ∀ n ∈ l, in64 n) {x : Wnt} (hx : in64 x.val) : (∀ n ∈ (servR kd l x).1, in64 n) ∧ in64 (servR kd l x).2.1 := by
  unfold servR
  split
  · refine ⟨?_, zero_in⟩
    show ∀ n ∈ (putR kd l x.val).1, in64 n
    unfold putR
    split
    · unfold putS
      split
      · intro n hn
        rw [List.mem_singleton.1 hn]
        exact hx
      split
      · exact hl
      · intro n hn
        rcases List.mem_append.1 hn with hn | hn
        · exact hl n hn
        · rw [List.mem_singleton.1 hn]
          exact hx
    · intro n hn
      cases hn
  · unfold getR
    split
    · cases l with
      | nil => exact ⟨(fun n hn => nomatch hn), zero_in⟩
      | cons y r =>
        refine ⟨?_, hl y (by simp)⟩
        show ∀ n ∈ (if kd = 1 then y :: r else r), in64 n
        split
        · exact hl
        · exact fun n hn => hl n (by simp [hn])
    · exact ⟨(fun n hn => nomatch hn), zero_in⟩
theorem replied_in {c : Cel} (h : C64 c) (k reg flag kd : Int) {val : Int} (hv : in64 val) (is : Bool) : C64 (c.replied k reg flag kd val is) := by
  unfold Cel.replied
  split
  · exact h.setReg _ (truthI_in _)
  split
  · cases is
    · exact h.setReg _ (truthI_in _)
    · exact (h.setReg _ hv).setReg _ (truthI_in _)
  · exact h
structure S64 (S : SysD) : Prop where
  c : ∀ p ∈ S.parts, ∀ i ∈ p.code, in64 i.n
  i : ∀ p ∈ S.parts, ∀ n ∈ p.inn, in64 n
structure D64 (D : WldD) : Prop where
  c : ∀ d ∈ D.cells, C64 d.c ∧ ∀ n ∈ d.out, in64 n
  l : ∀ l ∈ D.lines, ∀ n ∈ l, in64 n
theorem set_mem {α : Type} {P : α → Prop} {l : List α} {k : Nat} {x : α} (h : ∀ y ∈ l, P y) (hx : P x) : ∀ y ∈ l.set k x, P y := by
  intro y hy
  rcases List.mem_or_eq_of_mem_set hy with hy | rfl
  · exact h y hy
  · exact hx
theorem nextC_in {S : SysD} {D : WldD} (hS : S64 S) (hD : D64 D) : D64 (nextC S D) := by
  unfold nextC
  split
  · rename_i P d hP hd
    have hPm := List.mem_of_getElem? hP
    have hdm := hD.c d (List.mem_of_getElem? hd)
    have hT := stepC_in (hS.c P hPm) (hS.i P hPm) hdm.1 hdm.2
    generalize stepC P.code P.inn d.out d.c = t at hT
    obtain ⟨c', xs', x'⟩ := t
    obtain ⟨t1, t2, t3⟩ := hT
    dsimp only at t1 t2 t3 ⊢
    split
    · exact ⟨set_mem hD.c ⟨t1, t2⟩, hD.l⟩
    · split
      · rename_i ch ln hch hln
        obtain ⟨s1, s2⟩ := servR_in (kd := ch.kd) (hD.l ln (List.mem_of_getElem? hln)) t3
        exact ⟨set_mem hD.c ⟨replied_in t1 _ _ _ _ s2 _, t2⟩, set_mem hD.l s1⟩
      · exact hD
  · exact hD
theorem runN_in {S : SysD} (hS : S64 S) : ∀ (n : Nat) {D : WldD}, D64 D → D64 (runN S n D)
  | 0, _, h => h
  | n + 1, _, h => runN_in hS n (nextC_in hS h)
theorem beginC_in (S : SysD) : D64 (beginC S) := by
  refine ⟨fun d hd => ?_, fun l hl => ?_⟩
  · rw [(List.mem_replicate.1 hd).2]
    exact ⟨⟨zero_in, zero_in, zero_in, zero_in, zero_in, zero_in, zero_in, zero_in, zero_in, zero_in, zero_in, zero_in⟩, fun n hn => nomatch hn⟩
  · rw [(List.mem_replicate.1 hl).2]
    exact fun n hn => nomatch hn
theorem runR_in {S : SysD} (hS : S64 S) (n : Int) : D64 (runR S n) := by
  unfold runR
  split
  · exact runN_in hS _ (beginC_in S)
  · exact ⟨(fun d hd => nomatch hd), (fun l hl => nomatch hl)⟩
theorem cS_in {S : SysD} (h : cS.good S) : S64 S := ⟨fun p hp i hi => (((h.1.2 p hp).1.2 i hi).2.2.2), fun p hp n hn => (h.1.2 p hp).2.2 n hn⟩
theorem rdS_in (b : List UInt8) : S64 (rdS b) := by
  have hz : S64 sysZ := ⟨(fun p hp => nomatch hp), (fun p hp => nomatch hp)⟩
  unfold rdS
  split
  · exact hz
  · unfold readD
    split
    · rename_i S h
      split
      · exact cS_in (cS_ok.eg _ _ _ h)
      · exact hz
    · exact hz
theorem fwd_in {S : SysD} (h4 : S.parts.length ≤ 4) (b : Int) : ∀ (n : Nat) (x : Int), in64 x → ∀ y ∈ fwd S b n x, in64 y
  | 0, x, hx, y, hy => by
    rw [List.mem_singleton.1 hy]
    exact hx
  | n + 1, x, hx, y, hy => by
    rw [fwd] at hy
    cases hc : flNextC S n x b with
    | none =>
      rw [hc] at hy
      rw [List.mem_singleton.1 hy]
      exact hx
    | some c =>
      rw [hc] at hy
      have hcl : c < S.parts.length := by
        unfold flNextC at hc
        exact List.mem_range.1 (List.mem_of_find?_eq_some hc)
      rcases List.mem_cons.1 hy with rfl | hy
      · exact hx
      · exact fwd_in h4 b n c ⟨by omega, by omega⟩ y hy
theorem path_in {S : SysD} (h4 : S.parts.length ≤ 4) {a : Int} (ha : in64 a) (b : Int) : ∀ y ∈ pathL S a b, in64 y := by
  unfold pathL
  split
  · exact fwd_in h4 b _ a ha
  · intro y hy
    cases hy
theorem tell_ok {S : SysD} (hS : S64 S) {L : List Edg} {n : Int} (hp : polE S L = 0) (hr : runE S n = 0) : TellOK (certO S L).path (runR S n).cells := by
  obtain ⟨h4, _, _⟩ := pol_len hp
  obtain ⟨hk, h0, h3⟩ := runE_zero hr
  have hR : Right S (runR S n) := by
    unfold runR
    rw [if_pos hr]
    exact (runN_right hk n.toNat (begin_right hk) (by show (0 : Int) + _ ≤ 300; omega)).1
  have hD := runR_in hS n
  have hpl : (certO S L).path.length ≤ 16 ∧ ∀ y ∈ (certO S L).path, in64 y := by
    unfold certO
    rw [if_pos hp]
    unfold certG
    cases hl : leakL S L with
    | nil => exact ⟨by simp, fun y hy => nomatch hy⟩
    | cons e r =>
      obtain ⟨a, b, ha, hb, rfl, _⟩ := leak_in (show e ∈ leakL S L by rw [hl]; simp)
      have := pathL_len (S := S) (a := (a : Int)) (b := (b : Int))
      exact ⟨by show (pathL S a b).length ≤ 16; omega, path_in h4 (a := (a : Int)) ⟨by omega, by omega⟩ b⟩
  have hlen := cellsB_len hR.c
  refine ⟨hpl.1, hpl.2, by omega, fun d hd => ?_, fun d hd => (hD.c d hd).2⟩
  obtain ⟨k, hk, rfl⟩ := List.getElem_of_mem hd
  have hb := cellsB_at hR.c k (by omega) hk
  unfold celB at hb
  rw [Bool.and_eq_true] at hb
  exact ((fine_iff _ _).1 hb.1).2.2.2.2.2.2
end Go.Proofs.YtbkdoohhdkahiaaGreatDoor
namespace Go.Proofs.YtbkdoohhdkahiaaGreatDoor
set_option linter.unusedSimpArgs false
set_option linter.unusedVariables false
open Go.RowKit Go.Sort
def rulesG (fuel : Nat) (last : Int × Int) (l : List UInt8) : Option (List Edg) :=
  match fuel with
  | 0 => none
  | fuel + 1 =>
    match edgeD (cut1 32 l).1 with
    | none => none
    | some e =>
      if lessB last.1 last.2 e.1 e.2 = true then
        if (cut1 32 l).2.2 = true then
          match rulesG fuel e (cut1 32 l).2.1 with
          | none => none
          | some r => some (⟨e.1, e.2⟩ :: r)
        else some [⟨e.1, e.2⟩]
      else none
def rulesD (l : List UInt8) : Option (List Edg) := if l = [] then some [] else rulesG (l.length + 1) (-1, 0) l
theorem cut1_less (c : UInt8) : ∀ l : List UInt8, (cut1 c l).2.2 = true → (cut1 c l).2.1.length < l.length
  | [], h => by cases h
  | b :: r, h => by
    unfold cut1 at h ⊢
    by_cases hb : b = c
    · rw [if_pos hb]
      simp
    · rw [if_neg hb] at h ⊢
      have := cut1_less c r h
      simp
      omega
theorem cut1_rest (c : UInt8) : ∀ l : List UInt8, (cut1 c l).2.2 = false → (cut1 c l).2.1 = []
  | [], _ => rfl
  | b :: r, h => by
    unfold cut1 at h ⊢
    by_cases hb : b = c
    · rw [if_pos hb] at h
      cases h
    · rw [if_neg hb] at h ⊢
      exact cut1_rest c r h
theorem rulesG_fuel : ∀ (f g : Nat) (last : Int × Int) (l : List UInt8), l.length < f → l.length < g → rulesG f last l = rulesG g last l
  | 0, _, _, _, h, _ => by omega
  | _, 0, _, _, _, h => by omega
  | f + 1, g + 1, last, l, hf, hg => by
    unfold rulesG
    cases he : edgeD (cut1 32 l).1 with
    | none => rfl
    | some e =>
      simp only
      split
      · split
        · rename_i hz
          have := cut1_less 32 l hz
          rw [rulesG_fuel f g e _ (by omega) (by omega)]
        · rfl
      · rfl
structure RuI (s : List UInt8) (L : List Edg) (last : Int × Int) (l : List UInt8) (more : Bool) : Prop where
  go : more = true → rulesD s = (rulesG (l.length + 1) last l).map (L ++ ·)
  no : more = false → rulesD s = some L
theorem RuI.start (s : List UInt8) : RuI s [] (-1, 0) s (!s.isEmpty) := by
  cases s with
  | nil => exact ⟨(fun h => by cases h), fun _ => rfl⟩
  | cons x r =>
    refine ⟨fun _ => ?_, fun h => by cases h⟩
    unfold rulesD
    rw [if_neg (by simp)]
    cases rulesG ((x :: r).length + 1) (-1, 0) (x :: r) <;> rfl
theorem RuI.bad {s : List UInt8} {L : List Edg} {last : Int × Int} {l : List UInt8} (h : RuI s L last l true) {a b : Int} {is : Bool} (he : EdgeIs (cut1 32 l).1 a b is) (hb : (is && lessB last.1 last.2 a b) = false) : rulesD s = none := by
  rw [h.go rfl]
  unfold EdgeIs at he
  unfold rulesG
  cases is with
  | false =>
    rw [he]
    rfl
  | true =>
    rw [he]
    have hb : lessB last.1 last.2 a b = false := by simpa using hb
    simp [hb]
theorem RuI.next {s : List UInt8} {L : List Edg} {last : Int × Int} {l : List UInt8} (h : RuI s L last l true) {a b : Int} (he : EdgeIs (cut1 32 l).1 a b true) (hb : lessB last.1 last.2 a b = true) : RuI s (L ++ [⟨a, b⟩]) (a, b) (cut1 32 l).2.1 (cut1 32 l).2.2 := by
  have h0 := h.go rfl
  unfold EdgeIs at he
  unfold rulesG at h0
  rw [he] at h0
  simp only [if_true, hb] at h0
  refine ⟨fun hm => ?_, fun hm => ?_⟩
  · rw [hm, if_pos rfl] at h0
    have hl := cut1_less 32 l hm
    rw [h0, rulesG_fuel l.length ((cut1 32 l).2.1.length + 1) (a, b) _ hl (by omega)]
    cases rulesG ((cut1 32 l).2.1.length + 1) (a, b) (cut1 32 l).2.1 with
    | none => rfl
    | some r => simp
  · rw [hm, if_neg (by decide)] at h0
    rw [h0]
    rfl
theorem edge_range {l : List UInt8} {a b : Int} (h : EdgeIs l a b true) : 0 ≤ a ∧ a < 4 ∧ 0 ≤ b ∧ b < 4 := by
  have h : edgeD l = some (a, b) := h
  unfold edgeD at h
  split at h
  · split at h
    · rename_i x y hx hy
      injection h with h
      injection h with h1 h2
      subst h1
      subst h2
      have := partD_some hx
      have := partD_some hy
      omega
    · cases h
  · cases h
theorem ba_sizeD (l : List UInt8) : (⟨l.toArray⟩ : ByteArray).size = l.length := by simp [ByteArray.size]
theorem sizePolD : (Tryz.prog.info? 27).map (·.size) = some 1 := by kernel_rfl
theorem infoEdgeD : (Tryz.prog.info? 53).map (fun i => (i.zero, i.size, i.bytes)) = some (some (.agg #[.int .i64 0, .int .i64 0]), 2, 16) := by kernel_rfl
structure Ru (w wr : World) (v : Value) (L : List Edg) (last : Int × Int) : Prop where
  r : Rw wr w.heap.size 27 #[.slice none 0 0]
  p : Rw wr (w.heap.size + 1) 27 #[v]
  l : Rw wr (w.heap.size + 2) 53 #[.int .i64 last.1, .int .i64 last.2]
  o : wr.ownsRow (w.heap.size + 3) 53 2 v L.length (rowC Edg.cells L)
  b : Below w.heap.size w wr
section
variable {w wr wr' : World} {v : Value} {L : List Edg} {last : Int × Int}
theorem Ru.z (h : Ru w wr v L last) : w.heap.size + 3 ≤ wr.heap.size := h.l.lt
theorem Ru.up (h : Ru w wr v L last) (hb : Below wr.heap.size wr wr') : Ru w wr' v L last :=
  ⟨h.r.up hb h.r.lt, h.p.up hb h.p.lt, h.l.up hb h.l.lt, own_up h.o hb (own_lt h.o), h.b.trans (hb.mono h.b.size)⟩
theorem Ru.alloc (h : Ru w wr v L last) (o : Obj) : Ru w (wr.alloc o) v L last := h.up ((Below.refl _ _).alloc (Nat.le_refl _) _)
theorem Ru.grow (h : Ru w wr v L last) {v' : Value} {a b : Int} (hg : wr.grownBy wr' v.ownBlock) (ho : wr'.ownsRow (w.heap.size + 3) 53 2 v' (L ++ [(⟨a, b⟩ : Edg)]).length (rowC Edg.cells (L ++ [(⟨a, b⟩ : Edg)]))) :
    Ru w ((wr'.setCell ⟨w.heap.size + 1, 0, none⟩ v').setRow (w.heap.size + 2) #[.int .i64 a, .int .i64 b]) v' (L ++ [⟨a, b⟩]) (a, b) ∧ Rw wr' (w.heap.size + 1) 27 #[v] ∧ Rw (wr'.setCell ⟨w.heap.size + 1, 0, none⟩ v') (w.heap.size + 2) 53 #[.int .i64 last.1, .int .i64 last.2] := by
  have hb : ∀ k, v.ownBlock = some k → w.heap.size + 3 ≤ k := own_block h.o
  have k : ∀ {c t cs}, Rw wr c t cs → c < w.heap.size + 3 → Rw wr' c t cs := fun hr hc => (hg.block _ hr.lt (fun e => by have := hb _ e.symm; omega)).trans hr
  have k1 := k h.p (by omega)
  have k2 := k h.l (by omega)
  have k3 := k2.set_other (a := ⟨w.heap.size + 1, 0, none⟩) v' (by simp)
  refine ⟨⟨((k h.r (by omega)).set_other _ (by simp)).row_other _ (by omega), (k1.set 0 v').row_other _ (by omega), k3.row _, own_row (own_set ho _ (fun e => by have := own_block ho _ e; simp at this)) _ (fun e => by have := own_block ho _ e; omega), ?_⟩, k1, k3⟩
  exact below_row ((h.b.grown hg h.b.size (fun q e => by have := hb q e; omega)).setCell (by simp) _) (by omega) _
end
def rulesE (l : List UInt8) : Int := if (rulesD l).isNone then 1 else 0
def rulesL (l : List UInt8) : List Edg := (rulesD l).getD []
set_option maxRecDepth 100000 in
set_option maxHeartbeats 8000000 in
theorem rules_any (s : List UInt8) (w : World) (he : Env w) (hs : s.length ≤ 281474976710656) :
    Calls Tryz.prog 7 #[.string ⟨s.toArray⟩] w fun e w' => ∃ v, e = .returned (.tuple #[.agg #[v], .int .i64 (rulesE s)]) ∧ w'.ownsRow w.heap.size 53 2 v (rulesL s).length (rowC Edg.cells (rulesL s)) ∧ Below w.heap.size w w' := by
  obtain ⟨i1, hi1, hy0, hy1, hy2⟩ := info_parts infoEdgeD
  have HE := Lib.hid he
  clear he
  have HRS := Lib.hid (RuI.start s)
  go_enter Tryz.func7, Tryz.ntmps7
  go_upto_region 3 with fail
  generalize hX : World.alloc _ _ = X
  have hXX : X = ((w.alloc (.cells #[.slice none 0 0] 27)).alloc (.cells #[.slice none 0 0] 27)).alloc (.cells #[.int .i64 (-1), .int .i64 0] 53) := by rw [← hX]
  have HU : Hid (Ru w X (.slice none 0 0) [] (-1, 0)) := Lib.hid ⟨by rw [hXX]; exact (by repeat (first | exact Rw.new _ _ _ (by first | rfl | (simp; done) | omega | (simp; omega)) | refine Rw.alloc ?_ _)), by rw [hXX]; exact (by repeat (first | exact Rw.new _ _ _ (by first | rfl | (simp; done) | omega | (simp; omega)) | refine Rw.alloc ?_ _)), by rw [hXX]; exact (by repeat (first | exact Rw.new _ _ _ (by first | rfl | (simp; done) | omega | (simp; omega)) | refine Rw.alloc ?_ _)), World.ownsRow_nil _ _ _ _, by rw [hXX]; exact up0⟩
  clear hX hXX
  go_wp2
  go_loopw [0, 6] (fun sv mv wr => ∃ (l : List UInt8) (more : Bool) (L : List Edg) (last : Int × Int) (ao : Option Addr) (cap : Nat), sv = .string ⟨l.toArray⟩ ∧ mv = .bool more ∧ l.length ≤ s.length ∧ Hid (RuI s L last l more) ∧ ((L.length : Int) ≤ 4 * last.1 + last.2 + 4 ∧ last.1 < 4 ∧ 0 ≤ last.2 ∧ last.2 < 4) ∧ Hid (Ru w wr (.slice ao L.length cap) L last)) (fun sv mv _ => 2 * (match sv with | .string b => b.size | _ => 0) + (match mv with | .bool true => 1 | _ => 0))
  case atStart => exact ⟨s, _, [], (-1, 0), none, 0, rfl, rfl, Nat.le_refl _, HRS, by simp, HU⟩
  case round =>
    obtain ⟨l, more, L, last, ao, cap, rfl, rfl, hl, HR, hLl, HI⟩ := hrel
    cases more with
    | false =>
      have hy := HR.out.no rfl
      have HYES : Hid (rulesE s = 0 ∧ rulesL s = L) := Lib.hid (by unfold rulesE rulesL; rw [hy]; exact ⟨rfl, rfl⟩)
      have q0 := HI.out.p.cell (j := 0) (v := .slice ao L.length cap) rfl
      clear hy HU HRS
      go_wp2_with (refine wpList_store_rowW rfl 27 (.tmp 2) (.tmp 41) rfl w.heap.size #[.slice ao L.length cap] rfl rfl 27 _ HI.out.r sizePolD rfl (by simp [Value.oneCell']) ?_)
      intro W9 HW9
      have r9 : Rw W9 w.heap.size 27 #[.slice ao L.length cap] := by rw [HW9.out]; exact HI.out.r.row _
      have HB9 := Lib.hid (show Below w.heap.size w W9 by rw [HW9.out]; exact below_row HI.out.b (Nat.le_refl _) _)
      have HO9 := Lib.hid (show W9.ownsRow (w.heap.size + 3) 53 2 (.slice ao L.length cap) L.length (rowC Edg.cells L) by rw [HW9.out]; exact own_row HI.out.o _ (fun e => by have := own_block HI.out.o _ e; omega))
      clear HW9
      go_wp2
      refine bodyPost_ret (results_row_tmp Tryz.results7 _ _ w.heap.size _ _ rfl rfl (run_loadVar_row _ _ 27 _ _ (0, 0) _ r9 Tryz.underlying27 rfl sizePolD)) rfl ⟨.slice ao L.length cap, by rw [HYES.out.1] <;> rfl, by rw [HYES.out.2]; exact own_low HO9.out (by omega), HB9.out⟩
    | true =>
      have hcl := cut1_len 32 l
      have hlt : (cut1 32 l).2.2 = true → (cut1 32 l).2.1.length < l.length := cut1_less 32 l
      have hz0 : (cut1 32 l).2.2 = false → (cut1 32 l).2.1 = [] := cut1_rest 32 l
      have HCU := Lib.hid (cut1_any l 32 (by omega))
      have HBAD := Lib.hid (fun a b is => @RuI.bad s L last l HR.out a b is)
      have HNX := Lib.hid (fun a b => @RuI.next s L last l HR.out a b)
      generalize cut1 32 l = c at *
      obtain ⟨p, q, z⟩ := c
      dsimp only at hcl hlt hz0 HCU HBAD HNX
      have hz := HI.out.z
      clear HR HU HRS
      go_wp2_with fail
      refine (HCU.out _).mono ?_
      rintro e w1 ⟨rfl, b1⟩
      have HI1 := Lib.hid (HI.out.up b1)
      clear b1 HI HCU
      go_wp2_with fail
      refine (dedge_any p _ (HE.out.up HI1.out.b) (by omega)).mono ?_
      rintro e w2 ⟨a, b, is, rfl, he, b2⟩
      have HED := Lib.hid he
      have HOO := Lib.hid (HI1.out.up b2).o
      have HI2 := Lib.hid ((HI1.out.up b2).alloc (.cells #[.int .i64 a, .int .i64 b] 53))
      have RY := Lib.hid (Rw.new w2 53 #[.int .i64 a, .int .i64 b] rfl)
      have hz2 : w.heap.size + 3 ≤ w2.heap.size := (HI1.out.up b2).z
      clear b2 he HI1
      go_upto_region 8 with fail
      obtain ⟨X2, HX2⟩ : ∃ X2, Hid (w2.alloc (.cells #[.int .i64 a, .int .i64 b] 53) = X2) := ⟨_, Lib.hid rfl⟩
      obtain ⟨gy, HGY⟩ : ∃ gy, Hid (w2.heap.size = gy) := ⟨_, Lib.hid rfl⟩
      rw [HX2.out, HGY.out] at RY
      rw [HX2.out] at HI2
      rw [HX2.out, HGY.out]
      rw [HGY.out] at hz2
      cases is with
      | false =>
        have hno := HBAD.out a b false HED.out rfl
        have HNO : Hid (rulesE s = 1 ∧ rulesL s = []) := Lib.hid (by unfold rulesE rulesL; rw [hno]; exact ⟨rfl, rfl⟩)
        clear hno
        go_wp2_with (refine wpList_store_rowW rfl 27 (.tmp 2) (.tmp 33) rfl w.heap.size #[.slice none 0 0] rfl rfl 27 _ HI2.out.r sizePolD rfl (by simp [Value.oneCell']) ?_)
        intro W9 HW9
        have r9 : Rw W9 w.heap.size 27 #[.slice none 0 0] := by rw [HW9.out]; exact HI2.out.r.row _
        have HB9 := Lib.hid (show Below w.heap.size w W9 by rw [HW9.out]; exact below_row HI2.out.b (Nat.le_refl _) _)
        clear HW9
        go_wp2
        refine bodyPost_ret (results_row_tmp Tryz.results7 _ _ w.heap.size _ _ rfl rfl (run_loadVar_row _ _ 27 _ _ (0, 0) _ r9 Tryz.underlying27 rfl sizePolD)) rfl ⟨.slice none 0 0, by rw [HNO.out.1] <;> rfl, by rw [HNO.out.2]; exact World.ownsRow_nil _ _ _ _, HB9.out⟩
      | true =>
        have l0 := HI2.out.l.cell (j := 0) (v := .int .i64 last.1) rfl
        have l1 := HI2.out.l.cell (j := 1) (v := .int .i64 last.2) rfl
        have y0 := RY.out.cell (j := 0) (v := .int .i64 a) rfl
        have y1 := RY.out.cell (j := 1) (v := .int .i64 b) rfl
        go_wp2_with fail
        refine (dless_any last.1 last.2 a b _).mono ?_
        rintro e w3 ⟨rfl, b3⟩
        have HI3 := Lib.hid (HI2.out.up b3)
        have RY3 := Lib.hid (RY.out.up b3 RY.out.lt)
        clear b3 l0 l1 y0 y1 HI2 RY
        cases hls : lessB last.1 last.2 a b with
        | false =>
          have hno := HBAD.out a b true HED.out (by rw [hls]; rfl)
          have HNO : Hid (rulesE s = 1 ∧ rulesL s = []) := Lib.hid (by unfold rulesE rulesL; rw [hno]; exact ⟨rfl, rfl⟩)
          clear hno
          go_wp2_with (refine wpList_store_rowW rfl 27 (.tmp 2) (.tmp 33) rfl w.heap.size #[.slice none 0 0] rfl rfl 27 _ HI3.out.r sizePolD rfl (by simp [Value.oneCell']) ?_)
          intro W9 HW9
          have r9 : Rw W9 w.heap.size 27 #[.slice none 0 0] := by rw [HW9.out]; exact HI3.out.r.row _
          have HB9 := Lib.hid (show Below w.heap.size w W9 by rw [HW9.out]; exact below_row HI3.out.b (Nat.le_refl _) _)
          clear HW9
          go_wp2
          refine bodyPost_ret (results_row_tmp Tryz.results7 _ _ w.heap.size _ _ rfl rfl (run_loadVar_row _ _ 27 _ _ (0, 0) _ r9 Tryz.underlying27 rfl sizePolD)) rfl ⟨.slice none 0 0, by rw [HNO.out.1] <;> rfl, by rw [HNO.out.2]; exact World.ownsRow_nil _ _ _ _, HB9.out⟩
        | true =>
          have HRN := Lib.hid (HNX.out a b HED.out hls)
          have HLN : Hid (((L ++ [(⟨a, b⟩ : Edg)]).length : Int) ≤ 4 * a + b + 4 ∧ a < 4 ∧ 0 ≤ b ∧ b < 4) := Lib.hid (by
            obtain ⟨r1, r2, r3, r4⟩ := edge_range HED.out
            refine ⟨?_, r2, r3, r4⟩
            unfold lessB at hls
            simp only [Bool.or_eq_true, Bool.and_eq_true, decide_eq_true_eq, beq_iff_eq] at hls
            rw [List.length_append]
            simp
            omega)
          have RYN : Hid (∀ k, Value.ownBlock (.slice ao L.length cap) = some k → k ≠ gy) := Lib.hid (fun k e => by
            have := own_lt HOO.out k e
            rw [← HGY.out]
            omega)
          clear hls HBAD HNX
          have p0 := HI3.out.p.cell (j := 0) (v := .slice ao L.length cap) rfl
          have y0 := RY3.out.cell (j := 0) (v := .int .i64 a) rfl
          have y1 := RY3.out.cell (j := 1) (v := .int .i64 b) rfl
          have HI4 := Lib.hid (HI3.out.alloc (.cells #[.int .i64 a, .int .i64 b] 53))
          have RY4 := Lib.hid (RY3.out.alloc (.cells #[.int .i64 a, .int .i64 b] 53))
          have hz3 := HI3.out.z
          go_wp2_with (at_builtin; refine wpList_append_lies _ rfl (.tmp 35) (.tmp 37) 25 rfl (w.heap.size + 3) 53 i1 _ 2 16 Tryz.underlying25 hi1 hy0 hy1 hy2 rfl (by decide) _ L.length (rowC Edg.cells L) rfl HI4.out.o ⟨w3.heap.size, 0, none⟩ 1 1 [.int .i64 a, .int .i64 b] rfl rfl (new_rangeE _ _ _ _ rfl) (two_one _ _) (by decide) (by unfold maxLen; omega) (by omega) (by simp; omega) _ rfl ?_)
          intro g4 cap4 W4 hown hgrow hat hg4
          have hG := HI4.out.grow (a := a) (b := b) (v' := .slice (some ⟨g4, 0, none⟩) (L.length + 1) cap4) hgrow (by rw [rowE_snoc, List.length_append]; exact hown)
          have hy4 := (hgrow.block gy RY4.out.lt (fun e => by have := own_block HI4.out.o gy e.symm; have := RY4.out; have hne := RYN.out gy e.symm; exact hne rfl)).trans RY4.out
          have HG := Lib.hid hG.1
          have k0 := hG.2.1.cell (j := 0) (v := .slice ao L.length cap) rfl
          have f0 := hG.2.1.fr 0
          have RL := Lib.hid hG.2.2
          have RYs : Hid (Rw (W4.setCell ⟨w.heap.size + 1, 0, none⟩ (.slice (some ⟨g4, 0, none⟩) (L.length + 1) cap4)) gy 53 #[.int .i64 a, .int .i64 b]) := Lib.hid (Rw.set_other hy4 _ (by show gy ≠ w.heap.size + 1; omega))
          clear hown hgrow hat hg4 hG hy4 HI4 HI3 RY3 RY4 p0 y0 y1
          go_upto_region 11 with fail
          obtain ⟨W5, HW5⟩ : ∃ W5, Hid (W4.setCell ⟨w.heap.size + 1, 0, none⟩ (.slice (some ⟨g4, 0, none⟩) (L.length + 1) cap4) = W5) := ⟨_, Lib.hid rfl⟩
          rw [HW5.out] at HG RL RYs
          rw [HW5.out]
          clear k0 f0
          have y0 := RYs.out.cell (j := 0) (v := .int .i64 a) rfl
          have y1 := RYs.out.cell (j := 1) (v := .int .i64 b) rfl
          go_wp2_with (refine wpList_store_rowW rfl 53 (.tmp 5) (.tmp 40) rfl (w.heap.size + 2) #[.int .i64 a, .int .i64 b] rfl rfl 53 _ RL.out sizeEdgeD rfl (by simp [Value.oneCell']) ?_)
          intro W6 HW6
          rw [← HW6.out] at HG
          clear HW6 y0 y1
          go_wp2
          go_roundw
          case rel => exact ⟨q, z, L ++ [⟨a, b⟩], (a, b), some ⟨g4, 0, none⟩, cap4, rfl, rfl, by omega, HRN, HLN.out, by rw [List.length_append]; exact HG⟩
          case measure =>
            simp only [ba_sizeD]
            cases z with
            | true => have := hlt rfl; simp; omega
            | false => rw [hz0 rfl]; simp
end Go.Proofs.YtbkdoohhdkahiaaGreatDoor
namespace Go.Proofs.YtbkdoohhdkahiaaGreatDoor
set_option linter.unusedSimpArgs false
set_option linter.unusedVariables false
open Go.RowKit Go.Sort
noncomputable def judgeE (b rules : List UInt8) (n : Int) : Int := if rdE b ≠ 0 then rdE b else if rulesE rules ≠ 0 then rulesE rules else if polE (rdS b) (rulesL rules) ≠ 0 then polE (rdS b) (rulesL rules) else runE (rdS b) n
noncomputable def judgeW (b rules : List UInt8) (n : Int) : List UInt8 := if judgeE b rules n = 0 then writtenW (certO (rdS b) (rulesL rules)).is (certO (rdS b) (rulesL rules)).path (runR (rdS b) n).cells else []
set_option maxRecDepth 100000 in
set_option maxHeartbeats 8000000 in
theorem judge_any (b rules : List UInt8) (n : Int) (w : World) (he : Env w) (hs : rules.length ≤ 281474976710656) :
    Calls Tryz.prog 5 #[.string ⟨b.toArray⟩, .string ⟨rules.toArray⟩, .int .i64 n] w fun e w' => e = .returned (.tuple #[.string ⟨(judgeW b rules n).toArray⟩, .int .i64 (judgeE b rules n)]) ∧ Below w.heap.size w w' := by
  have HE := Lib.hid he
  have HSL := Lib.hid hs
  clear he hs
  obtain ⟨e1, he1⟩ : ∃ e1, rdE b = e1 := ⟨_, rfl⟩
  obtain ⟨S, hS⟩ : ∃ S, rdS b = S := ⟨_, rfl⟩
  obtain ⟨e2, he2⟩ : ∃ e2, rulesE rules = e2 := ⟨_, rfl⟩
  obtain ⟨L, hL⟩ : ∃ L, rulesL rules = L := ⟨_, rfl⟩
  obtain ⟨e3, he3⟩ : ∃ e3, polE S L = e3 := ⟨_, rfl⟩
  obtain ⟨e4, he4⟩ : ∃ e4, runE S n = e4 := ⟨_, rfl⟩
  obtain ⟨D, hD⟩ : ∃ D, runR S n = D := ⟨_, rfl⟩
  obtain ⟨⟨ss, pp, is⟩, hC⟩ : ∃ C, certO S L = C := ⟨_, rfl⟩
  have HR := Lib.hid (fun w he => imageRead_any b w he e1 he1 S hS)
  have HRu := Lib.hid (fun w he => rules_any rules w he HSL.out)
  rw [he2, hL] at HRu
  have HCe := Lib.hid (certify_any S L)
  rw [hC, he3] at HCe
  dsimp only at HCe
  have HRn := Lib.hid (fun vp vc vs w he h => kernRun_any S n vp vc vs w he h e4 he4 D hD)
  have HTO : Hid (e3 = 0 → e4 = 0 → TellOK pp D.cells) := Lib.hid (fun h h' => by
    have := tell_ok (S := S) (hS ▸ rdS_in b) (he3.trans h) (he4.trans h')
    rw [hC, hD] at this
    exact this)
  have HJ : Hid (judgeE b rules n = (if e1 ≠ 0 then e1 else if e2 ≠ 0 then e2 else if e3 ≠ 0 then e3 else e4) ∧ judgeW b rules n = if judgeE b rules n = 0 then writtenW is pp D.cells else []) := Lib.hid (by
    refine ⟨?_, ?_⟩
    · unfold judgeE
      rw [he1, he2, hS, hL, he3, he4]
    · unfold judgeW
      rw [hS, hL, hC, hD])
  clear he1 hS he2 hL he3 he4 hD hC
  go_enter Tryz.func5, Tryz.ntmps5
  go_wp2_with fail
  refine (HR.out _ (HE.out.up up0)).mono ?_
  rintro e w1 ⟨vp, vc, vs, rfl, s1, b1⟩
  obtain ⟨pa, pc, rfl⟩ := s1.r.p.form
  obtain ⟨ka, kc, rfl⟩ := s1.r.c.form
  obtain ⟨sa, sc, rfl⟩ := s1.r.s.form
  have S1 := Lib.hid s1.r
  have E1 := Lib.hid (HE.out.up b1)
  have B1 := Lib.hid b1
  clear s1 b1
  by_cases h1 : e1 = 0
  · subst h1
    have X1 : Hid (Below w1.heap.size w1 (w1.alloc (.cells #[.slice pa S.parts.length pc, .slice ka S.chans.length kc, .slice sa S.slots.length sc] 39))) := Lib.hid ((Below.refl _ _).alloc (Nat.le_refl _) _)
    have R1 := Lib.hid (Rw.new w1 39 #[.slice pa S.parts.length pc, .slice ka S.chans.length kc, .slice sa S.slots.length sc] rfl)
    go_wp2_with fail
    refine (HRu.out _ (E1.out.up X1.out)).mono ?_
    rintro e w2 ⟨vL, rfl, o2, b2⟩
    obtain ⟨la, lc, rfl⟩ := (own_sl o2).form
    have B12 : Below w1.heap.size w1 w2 := X1.out.trans (b2.mono (by simp))
    have S2 := Lib.hid (S1.out.up B12)
    have E2 := Lib.hid (E1.out.up B12)
    have R2 := Lib.hid (R1.out.up b2 R1.out.lt)
    have B2 := Lib.hid (B1.out.trans (B12.mono B1.out.size))
    have L2 := Lib.hid (own_sl o2)
    have hz2 : w1.heap.size < w2.heap.size := R2.out.lt
    clear o2 b2 B12 S1 E1 R1 X1 B1
    by_cases h2 : e2 = 0
    · subst h2
      have X2 : Hid (Below w2.heap.size w2 (w2.alloc (.cells #[.slice la L.length lc] 27))) := Lib.hid ((Below.refl _ _).alloc (Nat.le_refl _) _)
      have R2' := Lib.hid (R2.out.alloc (.cells #[.slice la L.length lc] 27))
      have s0 := R2'.out.cell (j := 0) (v := .slice pa S.parts.length pc) rfl
      have s1 := R2'.out.cell (j := 1) (v := .slice ka S.chans.length kc) rfl
      have s2 := R2'.out.cell (j := 2) (v := .slice sa S.slots.length sc) rfl
      go_wp2_with fail
      refine (HCe.out _ _ _ _ _ (E2.out.up X2.out) (S2.out.up X2.out) (L2.out.up X2.out)).mono ?_
      rintro e w3 ⟨vS, vP, rfl, o3, p3, b3, _⟩
      obtain ⟨ta, tc, rfl⟩ := o3.form
      obtain ⟨qa, qc, rfl⟩ := p3.form
      have B23 : Below w2.heap.size w2 w3 := X2.out.trans (b3.mono (by simp))
      have S3 := Lib.hid (S2.out.up B23)
      have E3 := Lib.hid (E2.out.up B23)
      have R3 := Lib.hid (R2'.out.up b3 R2'.out.lt)
      have B3 := Lib.hid (B2.out.trans (B23.mono B2.out.size))
      have P3 := Lib.hid p3
      have hz3 : w1.heap.size < w3.heap.size := R3.out.lt
      clear o3 p3 b3 B23 S2 E2 R2 R2' X2 B2 L2 s0 s1 s2
      by_cases h3 : e3 = 0
      · subst h3
        have X3 : Hid (Below w3.heap.size w3 (w3.alloc (.cells #[.slice ta ss.length tc] 46))) := Lib.hid ((Below.refl _ _).alloc (Nat.le_refl _) _)
        have R3' := Lib.hid (R3.out.alloc (.cells #[.slice ta ss.length tc] 46))
        have s0 := R3'.out.cell (j := 0) (v := .slice pa S.parts.length pc) rfl
        have s1 := R3'.out.cell (j := 1) (v := .slice ka S.chans.length kc) rfl
        have s2 := R3'.out.cell (j := 2) (v := .slice sa S.slots.length sc) rfl
        go_wp2_with fail
        refine (HRn.out _ _ _ _ (E3.out.up X3.out) (S3.out.up X3.out)).mono ?_
        rintro e w4 ⟨xc, xl, rfl, o4, b4⟩
        obtain ⟨ya, yc, rfl⟩ := o4.wld.c.form
        obtain ⟨za, zc, rfl⟩ := o4.wld.l.form
        have B34 : Below w3.heap.size w3 w4 := X3.out.trans (b4.mono (by simp))
        have E4 := Lib.hid (E3.out.up B34)
        have B4 := Lib.hid (B3.out.trans (B34.mono B3.out.size))
        have P4 := Lib.hid (P3.out.up B34)
        have C4 := Lib.hid o4.wld.c
        have hz4 : w1.heap.size < w4.heap.size := Nat.lt_of_lt_of_le hz3 B34.size
        clear o4 b4 B34 S3 E3 R3 R3' X3 B3 P3 s0 s1 s2
        by_cases h4 : e4 = 0
        · subst h4
          have X4 : Hid (Below w4.heap.size w4 (w4.alloc (.cells #[.int .i64 D.tick, .slice ya D.cells.length yc, .slice za D.lines.length zc] 61))) := Lib.hid ((Below.refl _ _).alloc (Nat.le_refl _) _)
          have HT := Lib.hid (HTO.out (by first | rfl | trivial) (by first | rfl | trivial))
          have HEQ : Hid (judgeE b rules n = 0 ∧ judgeW b rules n = writtenW is pp D.cells) := Lib.hid (by
            obtain ⟨j1, j2⟩ := HJ.out
            simp at j1
            rw [if_pos j1] at j2
            exact ⟨j1, j2⟩)
          go_wp2_with fail
          refine (written_any is pp D.cells _ _ _ _ _ (E4.out.up X4.out) HT.out (P4.out.up X4.out) (C4.out.up X4.out)).mono ?_
          rintro e w5 ⟨rfl, b5⟩
          have B5 := Lib.hid (B4.out.trans ((X4.out.trans (b5.mono (by simp))).mono B4.out.size))
          go_wp2
          go_ret2
          exact ⟨by rw [HEQ.out.1, HEQ.out.2] <;> rfl, B5.out⟩
        · have h4' : (e4 != 0) = true := by simpa using h4
          have HEQ : Hid (judgeE b rules n = e4 ∧ judgeW b rules n = []) := Lib.hid (by
            obtain ⟨j1, j2⟩ := HJ.out
            simp at j1
            rw [j1, if_neg h4] at j2
            exact ⟨j1, j2⟩)
          clear h4
          go_wp2
          go_ret2
          exact ⟨by rw [HEQ.out.1, HEQ.out.2] <;> rfl, B4.out.alloc (by have := B4.out.size; omega) _⟩
      · have h3' : (e3 != 0) = true := by simpa using h3
        have HEQ : Hid (judgeE b rules n = e3 ∧ judgeW b rules n = []) := Lib.hid (by
          obtain ⟨j1, j2⟩ := HJ.out
          simp [h3] at j1
          rw [j1, if_neg h3] at j2
          exact ⟨j1, j2⟩)
        clear h3
        go_wp2
        go_ret2
        exact ⟨by rw [HEQ.out.1, HEQ.out.2] <;> rfl, B3.out.alloc (by have := B3.out.size; omega) _⟩
    · have h2' : (e2 != 0) = true := by simpa using h2
      have HEQ : Hid (judgeE b rules n = e2 ∧ judgeW b rules n = []) := Lib.hid (by
        obtain ⟨j1, j2⟩ := HJ.out
        simp [h2] at j1
        rw [j1, if_neg h2] at j2
        exact ⟨j1, j2⟩)
      clear h2
      go_wp2
      go_ret2
      exact ⟨by rw [HEQ.out.1, HEQ.out.2] <;> rfl, B2.out.alloc (by have := B2.out.size; omega) _⟩
  · have h1' : (e1 != 0) = true := by simpa using h1
    have HEQ : Hid (judgeE b rules n = e1 ∧ judgeW b rules n = []) := Lib.hid (by
      obtain ⟨j1, j2⟩ := HJ.out
      simp [h1] at j1
      rw [j1, if_neg h1] at j2
      exact ⟨j1, j2⟩)
    clear h1
    go_wp2
    go_ret2
    exact ⟨by rw [HEQ.out.1, HEQ.out.2] <;> rfl, B1.out.alloc (by have := B1.out.size; omega) _⟩
end Go.Proofs.YtbkdoohhdkahiaaGreatDoor
namespace Go.Proofs.YtbkdoohhdkahiaaGreatDoor
set_option linter.unusedSimpArgs false
set_option linter.unusedVariables false
open Go.RowKit Go.Sort
def Eye (W : World) (g : Nat) (xs : List UInt8) : Prop := Rw W g 121 #[.string ⟨xs.toArray⟩]
end Go.Proofs.YtbkdoohhdkahiaaGreatDoor
namespace Go.Proofs.YtbkdoohhdkahiaaGreatDoor
set_option linter.unusedSimpArgs false
set_option linter.unusedVariables false
open Go.RowKit Go.Sort
end Go.Proofs.YtbkdoohhdkahiaaGreatDoor

/- A runner's step. -/
import Derived.Test.YtbmocfgkocncpaaDoorCell10
namespace Go.Proofs.YtbmocfgkocncpaaDoor
set_option linter.unusedSimpArgs false
set_option linter.unusedVariables false
open Go.RowKit Go.Sort

theorem ent_fetch : Enters 32 := enters Tryd.func32 (by kernel_rfl) (by kernel_rfl)
theorem ent_do : Enters 31 := enters Tryd.func31 (by kernel_rfl) (by kernel_rfl)
theorem Rn.up {B : Nat} {w W W' : World} {g base : Nat} {c : Cel} {o i : Value} {x : Wnt} {xs : List Int} (h : Rn B w W g base c o i x xs) (hb : Below W.heap.size W W') : Rn B w W' g base c o i x xs :=
  ⟨h.r.up hb h.lt, h.d.trans (hb.mono (Nat.le_of_lt (Nat.lt_of_le_of_lt h.g0 h.lt))), own_up h.own hb (own_lt h.own), h.g0, h.b0, h.no, Nat.le_trans h.bs hb.size⟩
theorem leaves_tmps {P : Program} {fn : Func} {tmps tmps' : Array Value} {R : Ending → World → Prop} (h : ∀ w', (results fn tmps).run P w' = (results fn tmps').run P w') : ∀ (ds : List Deferred) (u : FrameMode) (w : World), Leaves P fn tmps R ds u w → Leaves P fn tmps' R ds u w
  | [], .returning, w, hl => by
    obtain ⟨v, h1, h2⟩ := hl
    exact ⟨v, (h w).symm.trans h1, h2⟩
  | [], .panicking _, _, hl => hl
  | [], .run, _, hl => hl
  | d :: ds, u, w, hl => by
    obtain ⟨h0, fv, cap, f, args, h1, h2, h3⟩ := hl
    refine ⟨h0, fv, cap, f, args, h1, h2, h3.mono ?_⟩
    rintro (v | ch | _) u' w' hq
    · exact leaves_tmps h ds _ _ hq
    · exact leaves_tmps h ds _ _ hq
    · exact hq
theorem step_panic {R : Ending → World → Prop} (dst : Option Tmp) (v : Value) (ch : List PanicEntry) (a : Act) (w : World) (h : bodyPostD Tryd.prog Tryd.f19 R (.panic ch) (a.put dst v) w) : bodyPostD Tryd.prog Tryd.f19 R (.panic ch) a w := by
  have hd : (a.put dst v).defers = a.defers := by cases dst <;> rfl
  change Leaves _ _ (a.put dst v).tmps R (a.put dst v).defers (.panicking ch) w at h
  change Leaves _ _ a.tmps R a.defers (.panicking ch) w
  rw [hd] at h
  refine leaves_tmps (fun w' => ?_) _ _ _ h
  simp [results, Tryd.results19]
theorem lt_of_cell {w : World} {a : Addr} {v : Value} (h : w.cell? a = some v) : a.block < w.heap.size := block_lt_of_cell h
set_option maxRecDepth 100000 in
set_option maxHeartbeats 4000000 in
theorem step_any (l : List Ins) (hl : firstE l = 0) (B : Nat) (w W : World) (g base : Nat) (c : Cel) (o iv v : Value) (x : Wnt) (xs inn : List Int) (hat0 : 0 ≤ c.at_) (hat1 : c.at_ ≤ 20) (hr0 : 0 ≤ c.read) (hr1 : c.read ≤ 12) (hx : xs.length ≤ 16)
    (hC : Sl W 4 v l.length (codeC l)) (hS : Sl W 1 iv inn.length (ints inn)) (h : Rn B w W g base c o iv x xs) :
    Calls Tryd.prog 19 #[.pointer (some ⟨g, 0, none⟩), v] W fun e W' => e = .returned (.tuple #[]) ∧ ∃ o', Rn B w W' g base (runC l inn xs c x).1 o' iv (runC l inn xs c x).2.2 (runC l inn xs c x).2.1 := by
  have hmf : ∀ (fn : Fn) (first cap : Array Value) (w : World), (Instr.makeFunc fn first cap).run Tryd.prog w = .ok (.func fn first cap) w := fun _ _ _ _ => rfl
  have hg : g < W.heap.size := h.lt
  have H := Lib.hid h
  have HC := Lib.hid hC
  have HS := Lib.hid hS
  have hB : Below W.heap.size W (W.alloc (.cells #[.pointer (some ⟨g, 0, none⟩)] 61)).drew := ((Below.refl _ _).alloc (Nat.le_refl _) _).drew
  have HB := Lib.hid hB
  obtain ⟨n, hn⟩ : ∃ n : Nat, c.at_ = n := ⟨c.at_.toNat, by omega⟩
  clear h hC hS hB
  by_cases hlt : n < l.length
  · have hck : l[n].chk = 0 := firstE_zero hl n hlt
    have hrun : runC l inn xs c x = (doC l[n] inn xs c x).getD ({ c with en := 2 }, xs, x) := by
      unfold runC
      rw [hn, Int.toNat_natCast, List.getElem?_eq_getElem hlt]
    have HR := Lib.hid hrun
    have HN := Lib.hid hn
    clear hrun hl
    go_enter_defers Tryd.func19, Tryd.ntmps19
    go_wp2
    refine region_still (S := fun w' => w'.cell? ⟨W.heap.size, 0, none⟩ = some (.pointer (some ⟨g, 0, none⟩))) 4 (by kernel_rfl) ((Rw.new W 61 _ rfl).cell rfl) (fun hHeld => ?_)
    refine Still.takeBy (i := 0) [] (v := ?v1) (by kernel_rfl) (by kernel_rfl) rfl (by kernel_rfl) (by kernel_rfl) (by kernel_rfl) (fun ch a w h => step_panic _ _ ch a w h) (Or.inl ⟨by rfl, ?y1⟩) hHeld ?r1
    case y1 => (intro w' hSw; (try dsimp only at hSw); go_simp; try with_reducible rfl)
    simp only [Act.put, List.getElem_toArray, List.getElem_cons_zero, List.getElem_cons_succ, List.setIfInBounds_toArray, List.set_cons_zero, List.set_cons_succ]
    refine Still.takeBy (i := 1) [3] (v := ?v2) (by kernel_rfl) (by kernel_rfl) rfl (by kernel_rfl) (by kernel_rfl) (by kernel_rfl) (fun ch a w h => step_panic _ _ ch a w h) (Or.inl ⟨by rfl, ?y2⟩) hHeld ?r2
    case y2 => (intro w' hSw; (try dsimp only at hSw); go_simp; try with_reducible rfl)
    simp only [Act.put, List.getElem_toArray, List.getElem_cons_zero, List.getElem_cons_succ, List.setIfInBounds_toArray, List.set_cons_zero, List.set_cons_succ]
    refine Still.takeBy (i := 2) [3] (v := ?v3) (by kernel_rfl) (by kernel_rfl) rfl (by kernel_rfl) (by kernel_rfl) (by kernel_rfl) (fun ch a w h => step_panic _ _ ch a w h) (Or.inl ⟨by rfl, ?y3⟩) hHeld ?r3
    case y3 => (intro w' hSw; (try dsimp only at hSw); go_simp; try with_reducible rfl)
    simp only [Act.put, List.getElem_toArray, List.getElem_cons_zero, List.getElem_cons_succ, List.setIfInBounds_toArray, List.set_cons_zero, List.set_cons_succ]
    refine Still.all (rs := [3]) (by kernel_rfl) (by simp) (Still.one (i := 3) rfl rfl (fun K hK => ?_) (by simp))
    refine wp_call 32 _ _ rfl ent_fetch #[.pointer (some ⟨g, 0, none⟩), v] (by first | rfl | simp [Act.eval, Act.put]) ((fetch_ok _ g l v n hlt (by rw [← HN.out]; exact (H.out.up HB.out).r.cell rfl) (H.out.up HB.out).lt (HC.out.up HB.out)).mono ?_)
    rintro e V ⟨rfl, hb⟩
    have hq : V.cell? ⟨W.heap.size, 0, none⟩ = some (.pointer (some ⟨g, 0, none⟩)) := bcl hb (by simp) ((Rw.new W 61 _ rfl).cell rfl)
    have HBB : Hid (Below W.heap.size W V) := HB.out.trans (hb.mono (by simp))
    refine ⟨_, rfl, hK _ _ (fun _ => hq) (fun _ => ?_)⟩
    clear hK K hb
    try simp only [Act.put, List.getElem_toArray, List.getElem_cons_zero, List.getElem_cons_succ, List.setIfInBounds_toArray, List.set_cons_zero, List.set_cons_succ]
    refine Still.all (rs := [4]) (by kernel_rfl) (by simp) (Still.one (i := 4) rfl rfl (fun K hK => ?_) (by simp))
    refine wp_call_or 31 _ _ rfl ent_do #[.pointer (some ⟨g, 0, none⟩), l[n].v] (by first | rfl | simp [Act.eval, Act.put]) faultE ((do_any l[n] hck B w V g base c o iv x xs inn hat0 hat1 hr0 hr1 hx (HS.out.up HBB.out) (H.out.up HBB.out)).mono ?_)
    rintro e V1 (⟨hd, rfl, hR, hb⟩ | ⟨c', xs', x', o', hd, rfl, hR⟩)
    · refine .inr ⟨rfl, ?_⟩
      clear hK K
      have hq1 := bcl hb (lt_of_cell hq) hq
      have HRR := Lib.hid hR
      have HE : Hid (runC l inn xs c x = ({ c with en := 2 }, xs, x)) := by
        show runC l inn xs c x = _
        rw [HR.out, hd]
        rfl
      clear hR hd hb HR
      refine leaves_cons (f := 30) (args := #[.pointer (some ⟨W.heap.size, 0, none⟩)]) (by simp) (by simp [go_sem]) ?_
      refine (catch_panicking V1 W.heap.size g c.en _ _ [] hq1 (HRR.out.r.cell rfl) (HRR.out.r.fr _)).mono ?_
      rintro e u' V2 ⟨rfl, rfl, rfl⟩
      refine ⟨.tuple #[], by simp [results, Tryd.results19], rfl, ?_⟩
      rw [HE.out]
      exact ⟨o, HRR.out.setEn 2⟩
    · refine .inl ⟨_, rfl, ?_⟩
      refine hK _ _ (fun h => absurd rfl h) (fun _ => ?_)
      clear hK K
      refine Still.over (by kernel_rfl) ?_ _
      have HRR := Lib.hid hR
      have HE : Hid (runC l inn xs c x = (c', xs', x')) := by
        show runC l inn xs c x = _
        rw [HR.out, hd]
        rfl
      clear hR hd HR
      go_wp2
      refine leaves_cons (f := 30) (args := #[.pointer (some ⟨W.heap.size, 0, none⟩)]) (by simp) (by simp [go_sem]) ?_
      refine (catch_idle V1 W.heap.size).mono ?_
      rintro e u' V2 ⟨rfl, rfl, rfl⟩
      refine ⟨.tuple #[], by simp [results, Tryd.results19], rfl, ?_⟩
      rw [HE.out]
      exact ⟨o', HRR.out⟩
  · have hrun : runC l inn xs c x = ({ c with en := 2 }, xs, x) := by
      unfold runC
      rw [hn, Int.toNat_natCast, List.getElem?_eq_none (by omega)]
    have HE := Lib.hid hrun
    have HN := Lib.hid hn
    obtain ⟨ao, cap, rfl⟩ := HC.out.form
    clear hrun hl
    go_enter_defers Tryd.func19, Tryd.ntmps19
    go_wp2
    refine region_still (S := fun w' => w'.cell? ⟨W.heap.size, 0, none⟩ = some (.pointer (some ⟨g, 0, none⟩))) 4 (by kernel_rfl) ((Rw.new W 61 _ rfl).cell rfl) (fun hHeld => ?_)
    refine Still.takeBy (i := 0) [] (v := ?v4) (by kernel_rfl) (by kernel_rfl) rfl (by kernel_rfl) (by kernel_rfl) (by kernel_rfl) (fun ch a w h => step_panic _ _ ch a w h) (Or.inl ⟨by rfl, ?y4⟩) hHeld ?r4
    case y4 => (intro w' hSw; (try dsimp only at hSw); go_simp; try with_reducible rfl)
    simp only [Act.put, List.getElem_toArray, List.getElem_cons_zero, List.getElem_cons_succ, List.setIfInBounds_toArray, List.set_cons_zero, List.set_cons_succ]
    refine Still.takeBy (i := 1) [3] (v := ?v5) (by kernel_rfl) (by kernel_rfl) rfl (by kernel_rfl) (by kernel_rfl) (by kernel_rfl) (fun ch a w h => step_panic _ _ ch a w h) (Or.inl ⟨by rfl, ?y5⟩) hHeld ?r5
    case y5 => (intro w' hSw; (try dsimp only at hSw); go_simp; try with_reducible rfl)
    simp only [Act.put, List.getElem_toArray, List.getElem_cons_zero, List.getElem_cons_succ, List.setIfInBounds_toArray, List.set_cons_zero, List.set_cons_succ]
    refine Still.takeBy (i := 2) [3] (v := ?v6) (by kernel_rfl) (by kernel_rfl) rfl (by kernel_rfl) (by kernel_rfl) (by kernel_rfl) (fun ch a w h => step_panic _ _ ch a w h) (Or.inl ⟨by rfl, ?y6⟩) hHeld ?r6
    case y6 => (intro w' hSw; (try dsimp only at hSw); go_simp; try with_reducible rfl)
    simp only [Act.put, List.getElem_toArray, List.getElem_cons_zero, List.getElem_cons_succ, List.setIfInBounds_toArray, List.set_cons_zero, List.set_cons_succ]
    refine Still.all (rs := [3]) (by kernel_rfl) (by simp) (Still.one (i := 3) rfl rfl (fun K hK => ?_) (by simp))
    refine wp_call_panic 32 _ _ rfl ent_fetch #[.pointer (some ⟨g, 0, none⟩), .slice ao l.length cap] (by first | rfl | simp [Act.eval, Act.put]) faultE ((fetch_bad _ g ao l.length cap n (by omega) (by rw [← HN.out]; exact (H.out.up HB.out).r.cell rfl) (H.out.up HB.out).lt).mono ?_)
    rintro e V1 ⟨rfl, hb⟩
    refine ⟨rfl, ?_⟩
    clear hK K
    have hq1 : V1.cell? ⟨W.heap.size, 0, none⟩ = some (.pointer (some ⟨g, 0, none⟩)) := bcl hb (by simp) ((Rw.new W 61 _ rfl).cell rfl)
    have HRR : Hid (Rn B w V1 g base c o iv x xs) := H.out.up (HB.out.trans (hb.mono (by simp)))
    clear hb
    refine leaves_cons (f := 30) (args := #[.pointer (some ⟨W.heap.size, 0, none⟩)]) (by simp) (by simp [go_sem]) ?_
    refine (catch_panicking V1 W.heap.size g c.en _ _ [] hq1 (HRR.out.r.cell rfl) (HRR.out.r.fr _)).mono ?_
    rintro e u' V2 ⟨rfl, rfl, rfl⟩
    refine ⟨.tuple #[], by simp [results, Tryd.results19], rfl, ?_⟩
    rw [HE.out]
    exact ⟨o, HRR.out.setEn 2⟩
end Go.Proofs.YtbmocfgkocncpaaDoor

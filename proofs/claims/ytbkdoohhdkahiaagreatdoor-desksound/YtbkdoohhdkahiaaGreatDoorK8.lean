/- kern.copied. -/
import Derived.Test.YtbkdoohhdkahiaaGreatDoorK7
import Derived.OneCell
import Derived.BigQuiet
namespace Go.Proofs.YtbkdoohhdkahiaaGreatDoor
set_option linter.unusedSimpArgs false
set_option linter.unusedVariables false
open Go.RowKit Go.Sort
theorem infoCell : (Tryz.prog.info? 77).map (fun i => (i.zero, i.size, i.bytes)) = some (some (.agg (celZ.cs (.slice none 0 0))), 16, 144) := by kernel_rfl
theorem zeroCell : ((Tryz.prog.info? 77).bind (·.zero)).isSome = true := by kernel_rfl
theorem sizeInts : (Tryz.prog.info? 41).map (·.size) = some 1 := by kernel_rfl
theorem sizeCells : (Tryz.prog.info? 58).map (·.size) = some 1 := by kernel_rfl
theorem sizeWld : (Tryz.prog.info? 61).map (·.size) = some 3 := by kernel_rfl
theorem new_range (w : World) (t : TypeId) (cs : Array Value) (g : Nat) (hg : g = w.heap.size) : ∀ j u, cs.toList[j]? = some u → (w.alloc (.cells cs t)).cell? ((⟨g, 0, none⟩ : Addr).add j) = some u := fun j u hj => by
  rw [Addr.add_mid, Nat.zero_add, hg, World.cell?_alloc_new]
  simpa using hj
theorem cs_oneL (c : Cel) (o : Value) (h : o.oneCell' = true) : ∀ u ∈ (c.cs o).toList, u.oneCell' = true := fun u hu => (Array.all_eq_true_iff_forall_mem.1 (Cel.cs_one c o h)) u (by simpa using hu)
theorem cs_len (c : Cel) (o : Value) : (c.cs o).toList.length = 1 * 16 := rfl
structure Cp (w wr : World) (tick : Int) (uc ul vc vl : Value) (cs : List CelD) (ls : List (List Int)) : Prop where
  d : Below w.heap.size w wr
  z : w.heap.size + 3 ≤ wr.heap.size
  r1 : Rw wr w.heap.size 61 #[.int .i64 tick, uc, ul]
  r2 : Rw wr (w.heap.size + 1) 61 #[.int .i64 0, .slice none 0 0, .slice none 0 0]
  r3 : Rw wr (w.heap.size + 1 + 1) 61 #[.int .i64 tick, vc, vl]
  n : NewV (w.heap.size + 3) 0 wr vc vl cs ls
section
variable {w wr wr' : World} {tick : Int} {uc ul vc vl : Value} {cs : List CelD} {ls : List (List Int)}
theorem NewV.alloc {B G : Nat} {w : World} (h : NewV B G w vc vl cs ls) (o : Obj) : NewV B G (w.alloc o) vc vl cs ls := h.up ((Below.refl _ _).alloc (Nat.le_refl _) _)
theorem Cp.up (h : Cp w wr tick uc ul vc vl cs ls) (hb : Below wr.heap.size wr wr') : Cp w wr' tick uc ul vc vl cs ls :=
  ⟨h.d.trans (hb.mono h.d.size), Nat.le_trans h.z hb.size, h.r1.up hb h.r1.lt, h.r2.up hb h.r2.lt, h.r3.up hb h.r3.lt, h.n.up hb⟩
theorem NewV.row {B G : Nat} {w : World} (h : NewV B G w vc vl cs ls) {g : Nat} (hg : g < B) (u : Array Value) : NewV B G (w.setRow g u) vc vl cs ls := by
  obtain ⟨⟨ps, p1, p2, p3⟩, ⟨vs, q1, q2, q3⟩, a⟩ := h
  have hs : (w.setRow g u).heap.size = w.heap.size := by simp
  refine ⟨⟨ps, p1, own_row p2 u (fun e => by have := own_block p2 _ e; omega), fun k hk hk' => ⟨(p3 k hk hk').1, (p3 k hk hk').2.1.row u (fun e => by have := ((p3 k hk hk').2.2 _ e).1; omega), (p3 k hk hk').2.2.up (by rw [hs]; exact Nat.le_refl _)⟩⟩, ⟨vs, q1, own_row q2 u (fun e => by have := own_block q2 _ e; omega), fun k hk hk' => ⟨(q3 k hk hk').1.row u (fun e => by have := ((q3 k hk hk').2 _ e).1; omega), (q3 k hk hk').2.up (by rw [hs]; exact Nat.le_refl _)⟩⟩, a⟩
theorem NewV.formC {B G : Nat} {w : World} (h : NewV B G w vc vl cs ls) : ∃ a c, vc = .slice a cs.length c := by
  obtain ⟨⟨ps, p1, p2, p3⟩, _, _⟩ := h
  exact own_form p2
theorem NewV.formL {B G : Nat} {w : World} (h : NewV B G w vc vl cs ls) : ∃ a c, vl = .slice a ls.length c := by
  obtain ⟨_, ⟨ps, p1, p2, p3⟩, _⟩ := h
  exact own_form p2
theorem NewV.ltC {B G : Nat} {w : World} (h : NewV B G w vc vl cs ls) : ∀ b, vc.ownBlock = some b → B ≤ b ∧ b < w.heap.size := by
  obtain ⟨⟨ps, p1, p2, p3⟩, _, _⟩ := h
  exact fun b e => ⟨own_block p2 b e, own_lt p2 b e⟩
theorem NewV.ltL {B G : Nat} {w : World} (h : NewV B G w vc vl cs ls) : ∀ b, vl.ownBlock = some b → B ≤ b ∧ b < w.heap.size := by
  obtain ⟨_, ⟨ps, p1, p2, p3⟩, _⟩ := h
  exact fun b e => ⟨own_block p2 b e, own_lt p2 b e⟩
theorem NewV.low {B B' G : Nat} {w : World} (h : NewV B G w vc vl cs ls) (hb : B' ≤ B) : NewV B' G w vc vl cs ls := by
  obtain ⟨⟨ps, p1, p2, p3⟩, ⟨vs, q1, q2, q3⟩, a⟩ := h
  exact ⟨⟨ps, p1, own_low p2 hb, fun k hk hk' => ⟨(p3 k hk hk').1, (p3 k hk hk').2.1, fun b e => ⟨⟨Nat.le_trans hb ((p3 k hk hk').2.2 b e).1.1, ((p3 k hk hk').2.2 b e).1.2⟩, ((p3 k hk hk').2.2 b e).2⟩⟩⟩, ⟨vs, q1, own_low q2 hb, fun k hk hk' => ⟨(q3 k hk hk').1, fun b e => ⟨⟨Nat.le_trans hb ((q3 k hk hk').2 b e).1.1, ((q3 k hk hk').2 b e).1.2⟩, ((q3 k hk hk').2 b e).2⟩⟩⟩, a⟩
end
theorem infoLine : (Tryz.prog.info? 171).map (fun i => (i.zero, i.size, i.bytes)) = some (some (.agg #[.slice none 0 0]), 1, 24) := by kernel_rfl
theorem sizeLine : (Tryz.prog.info? 171).map (·.size) = some 1 := by kernel_rfl
theorem wp_append_nil {P : Program} {o : Oper} {a : Act} {w : World} {K : Act → World → Prop} {Q : Exit → Act → World → Prop} (s x : Operand) (t : TypeId)
    (ho : o.op = .call { callee := .builtin .append, args := #[s, x], argTypes := #[t, t] })
    (e : TypeId) (i : TypeInfo) (z : Value) (size bytes : Nat) (ht : P.underlying t = some (.slice e)) (hi : P.info? e = some i) (hz : i.zero = some z)
    (hsize : i.size = size) (hby : i.bytes = bytes) (hzs : z.cells.size = size) (hsz : 0 < size) (hs : a.eval s = .slice none 0 0)
    (u : Value) (m : Nat) (news : List Value) (hx : a.eval x = u) (hS : Sl w size u m news) (h1 : ∀ u ∈ news, u.oneCell' = true) (h63 : m ≤ maxLen) (hbytes : m * bytes ≤ 140737488355328)
    (h : ∀ v' w', w'.ownsRow w.heap.size e size v' m news → Below w.heap.size w w' → K (a.put o.dst v') w') : o.wp P a w K Q :=
  wp_append_sl s x t ho w.heap.size e i z size bytes ht hi hz hsize hby hzs hsz _ 0 [] hs (World.ownsRow_nil _ _ _ _) u m news hx hS h1 (by simpa using h63) (by simpa using hbytes) (Nat.le_refl _)
    fun v' w' g1 g2 _ => h v' w' (by simpa using g1) ((Below.refl _ _).grown g2 (Nat.le_refl _) (fun k hk => by cases hk))
theorem Cp.grow {w W W4 : World} {tick : Int} {uc ul vc vc' vl : Value} {cs cs' : List CelD} {ls : List (List Int)} (h : Cp w W tick uc ul vc vl cs ls) (hgr : W.grownBy W4 vc.ownBlock) (hn : NewV (w.heap.size + 3) 0 W4 vc' vl cs' ls) :
    Cp w (W4.setCell ⟨w.heap.size + 1 + 1, 1, none⟩ vc') tick uc ul vc' vl cs' ls ∧ Rw W4 (w.heap.size + 1 + 1) 61 #[.int .i64 tick, vc, vl] := by
  have hne : ∀ g, g < w.heap.size + 3 → some g ≠ vc.ownBlock := fun g hg e => by have := (h.n.ltC g e.symm).1; omega
  have r3 : Rw W4 (w.heap.size + 1 + 1) 61 #[.int .i64 tick, vc, vl] := (hgr.block _ h.r3.lt (hne _ (by omega))).trans h.r3
  have hs : (W4.setCell ⟨w.heap.size + 1 + 1, 1, none⟩ vc').heap.size = W4.heap.size := size_set ..
  refine ⟨⟨(h.d.grown hgr (by have := h.z; omega) (fun k e => by have := (h.n.ltC k e).1; omega)).setCell (p := ⟨w.heap.size + 1 + 1, 1, none⟩) (by simp; omega) _, ?_, ?_, ?_, r3.set 1 _, hn.set (by omega) _⟩, r3⟩
  · rw [hs]; exact Nat.le_trans h.z hgr.size
  · exact Rw.set_other ((hgr.block _ h.r1.lt (hne _ (by omega))).trans h.r1) _ (by simp; omega)
  · exact Rw.set_other ((hgr.block _ h.r2.lt (hne _ (by omega))).trans h.r2) _ (by simp)
theorem Cp.growL {w W W4 : World} {tick : Int} {uc ul vc vl vl' : Value} {cs : List CelD} {ls ls' : List (List Int)} (h : Cp w W tick uc ul vc vl cs ls) (hgr : W.grownBy W4 vl.ownBlock) (hn : NewV (w.heap.size + 3) 0 W4 vc vl' cs ls') :
    Cp w (W4.setCell ⟨w.heap.size + 1 + 1, 2, none⟩ vl') tick uc ul vc vl' cs ls' ∧ Rw W4 (w.heap.size + 1 + 1) 61 #[.int .i64 tick, vc, vl] := by
  have hne : ∀ g, g < w.heap.size + 3 → some g ≠ vl.ownBlock := fun g hg e => by have := (h.n.ltL g e.symm).1; omega
  have r3 : Rw W4 (w.heap.size + 1 + 1) 61 #[.int .i64 tick, vc, vl] := (hgr.block _ h.r3.lt (hne _ (by omega))).trans h.r3
  have hs : (W4.setCell ⟨w.heap.size + 1 + 1, 2, none⟩ vl').heap.size = W4.heap.size := size_set ..
  refine ⟨⟨(h.d.grown hgr (by have := h.z; omega) (fun k e => by have := (h.n.ltL k e).1; omega)).setCell (p := ⟨w.heap.size + 1 + 1, 2, none⟩) (by simp; omega) _, ?_, ?_, ?_, r3.set 2 _, hn.set (by omega) _⟩, r3⟩
  · rw [hs]; exact Nat.le_trans h.z hgr.size
  · exact Rw.set_other ((hgr.block _ h.r1.lt (hne _ (by omega))).trans h.r1) _ (by simp; omega)
  · exact Rw.set_other ((hgr.block _ h.r2.lt (hne _ (by omega))).trans h.r2) _ (by simp)
set_option maxRecDepth 100000 in
set_option maxHeartbeats 8000000 in
theorem kcopied_any (D : WldD) (uc ul : Value) (w : World) (hc : D.cells.length ≤ 4) (hl : D.lines.length ≤ 6) (ho : ∀ k (h : k < D.cells.length), D.cells[k].out.length ≤ 16) (hln : ∀ k (h : k < D.lines.length), D.lines[k].length ≤ 3) (hW : Wld w uc ul D) :
    Calls Tryz.prog 96 #[.agg #[.int .i64 D.tick, uc, ul]] w fun e w' => ∃ vc vl, e = .returned (.agg #[.int .i64 D.tick, vc, vl]) ∧ NewV w.heap.size 0 w' vc vl D.cells D.lines ∧ Below w.heap.size w w' := by
  obtain ⟨i0, hi0, hz0, hz1, hz2⟩ := info_parts infoInt
  obtain ⟨i1, hi1, hy0, hy1, hy2⟩ := info_parts infoCell
  obtain ⟨i2, hi2, hx0, hx1, hx2⟩ := info_parts infoLine
  obtain ⟨ca, cc, rfl⟩ := hW.c.form
  obtain ⟨la, lc, rfl⟩ := hW.l.form
  have HW := Lib.hid hW
  have HO := Lib.hid ho
  have HLN := Lib.hid hln
  clear hW ho hln
  go_enter Tryz.func96, Tryz.ntmps96
  go_wp2
  go_loopw [14] (fun i wr => ∃ k : Nat, i = .int .i64 k ∧ k ≤ D.cells.length ∧ Hid (∃ vc, Cp w wr D.tick (.slice ca D.cells.length cc) (.slice la D.lines.length lc) vc (.slice none 0 0) (D.cells.take k) [])) (fun i _ => D.cells.length - (intOf i).toNat)
  case atStart => exact ⟨0, rfl, Nat.zero_le _, Lib.hid ⟨_, up0, by simp, (by repeat (first | exact Rw.new _ _ _ (by first | rfl | (simp; done) | omega | (simp; omega)) | refine Rw.alloc ?_ _)), (by repeat (first | exact Rw.new _ _ _ (by first | rfl | (simp; done) | omega | (simp; omega)) | refine Rw.alloc ?_ _)), (by repeat (first | exact Rw.new _ _ _ (by first | rfl | (simp; done) | omega | (simp; omega)) | refine Rw.alloc ?_ _)), NewV.nil _ _ _⟩⟩
  case round =>
    obtain ⟨k, rfl, hk, HC⟩ := hrel
    obtain ⟨vc, hC⟩ := HC.out
    clear HC
    generalize hlk : D.cells.take k = l at hC
    have HLK := Lib.hid hlk
    have HLL : Hid (l.length = k) := by
      show _ = _
      rw [← hlk]
      simp
      omega
    clear hlk
    by_cases hlt : k < D.cells.length
    · have hli : (k : Int) < D.cells.length := by omega
      have hz := hC.z
      have hws := hC.d.size
      obtain ⟨b, off, cap, e1, hcap, hbw, hcc⟩ := HW.out.c.open (by omega)
      cases e1
      obtain ⟨ao, oc, hra, hso⟩ := hcc k hlt
      have RA := Lib.hid (range_up hra hC.d hbw)
      have SO := Lib.hid (hso.up hC.d)
      have hol := HO.out k hlt
      generalize hd : D.cells[k] = d at RA SO hol
      obtain ⟨c, out⟩ := d
      have HD := Lib.hid hd
      simp only at RA SO hol
      have CP := Lib.hid hC
      clear hra hso hcc hd hC
      go_wp2_with (first | (refine wpList_load_midA rfl 77 (.tmp 16) rfl b (off + k * 16) rfl (c.cs (.slice ao out.length oc)) _ RA.out Tryz.underlying77 rfl sizeCell ?_) | (refine wpList_store_rowW rfl 77 (.tmp 5) (.tmp 17) rfl wr.heap.size (c.cs (.slice ao out.length oc)) rfl rfl 77 (celZ.cs (.slice none 0 0)) (by repeat (first | exact Rw.new _ _ _ (by first | rfl | (simp; done) | omega | (simp; omega)) | refine Rw.alloc ?_ _)) sizeCell rfl (Cel.cs_one _ _ rfl) ?_))
      intro W HW1
      have RW : Rw W wr.heap.size 77 (c.cs (.slice ao out.length oc)) := by
        rw [HW1.out]
        exact Rw.row (cs := celZ.cs (.slice none 0 0)) (by repeat (first | exact Rw.new _ _ _ (by first | rfl | (simp; done) | omega | (simp; omega)) | refine Rw.alloc ?_ _)) _
      have hzW : W.heap.size = wr.heap.size + 1 := by rw [HW1.out]; simp
      have b0 : Below wr.heap.size wr W := by
        rw [HW1.out]
        exact below_row ((Below.refl _ _).alloc (Nat.le_refl _) _) (Nat.le_refl _) _
      have B0 := Lib.hid b0
      have RW' := Lib.hid RW
      have q0 := RW.cell (j := 14) (v := .slice ao out.length oc) rfl
      clear HW1 RA b0 RW
      go_wp2_with (at_builtin; refine wpList_append_nil rfl (.const (.slice none 0 0)) (.tmp 19) 41 rfl 3 i0 _ 1 8 Tryz.underlying41 hi0 hz0 hz1 hz2 rfl (by decide) rfl _ out.length (ints out) rfl (SO.out.up B0.out) (ints_cell out) (by unfold maxLen; omega) (by omega) ?_)
      intro v' W2 hown hb2
      have z2 := hb2.size
      obtain ⟨a2, c2, rfl⟩ := own_form hown
      have hob := own_block hown
      have hol2 := own_lt hown
      have RW2 := Lib.hid (RW'.out.up hb2 (by omega))
      have B2 := Lib.hid (B0.out.trans (hb2.mono (by omega)))
      have OW := Lib.hid hown
      clear hb2 hown RW' B0 q0
      go_wp2_with (refine wpList_store_cellW rfl 41 (.tmp 21) (.tmp 20) rfl wr.heap.size 14 (.slice a2 out.length c2) rfl rfl rfl 77 (c.cs (.slice ao out.length oc)) RW2.out (by show 14 < 16; decide) sizeInts ?_)
      intro W3 HW3
      have HZ3 : Hid (W3.heap.size = W2.heap.size) := by
        show _ = _
        rw [HW3.out]
        exact size_set ..
      have RW3 : Hid (Rw W3 wr.heap.size 77 (c.cs (.slice a2 out.length c2))) := by
        show Rw _ _ _ _
        rw [HW3.out]
        exact RW2.out.set 14 _
      have B3 : Hid (Below wr.heap.size wr W3) := by
        show Below _ _ _
        rw [HW3.out]
        exact B2.out.setCell (p := ⟨wr.heap.size, 14, none⟩) (Nat.le_refl _) _
      have S3 : Hid (Sl W3 1 (.slice a2 out.length c2) out.length (ints out)) := by
        show Sl _ _ _ _ _
        rw [HW3.out]
        exact (own_sl OW.out).set _ (fun e => by have := hob _ e; omega)
      have CP3 := Lib.hid (CP.out.up B3.out)
      have IN : Hid (In (w.heap.size + 3) 0 W3 vc (.slice none 0 0) (.slice a2 out.length c2)) := fun x e => by
        have h1 := hob x e
        have h2 := hol2 x e
        have h3 := HZ3.out
        refine ⟨by omega, by omega, fun e' => ?_, fun e' => by cases e'⟩
        have := (CP.out.n.ltC x e').2
        omega
      have hcl := CP.out.n.formC
      clear HW3 RW2 B2 OW CP SO hob hol2
      obtain ⟨a3, c3, rfl⟩ := hcl
      obtain ⟨ps, hps, hadd⟩ := (CP3.out.n.alloc (.cells (c.cs (.slice a2 out.length c2)) 77)).addC ⟨c, out⟩ (.slice a2 out.length c2) (S3.out.up ((Below.refl _ _).alloc (Nat.le_refl _) _)) (IN.out.up (by simp))
      have HPS := Lib.hid hps
      have HADD := Lib.hid hadd
      have q3 := CP3.out.r3.cell (j := 1) (v := .slice a3 l.length c3) rfl
      clear hps hadd S3 IN
      go_wp2_with (first | (refine wpList_load_row rfl 77 (.tmp 5) rfl wr.heap.size rfl 77 (c.cs (.slice a2 out.length c2)) (0, 0) _ RW3.out Tryz.underlying77 rfl sizeCell ?_) | (refine wpList_buildOne rfl 58 77 (.tmp 24) rfl (c.cs (.slice a2 out.length c2)) rfl Tryz.underlying58 sizeCell zeroCell (by show 0 < 16; decide) (by show 16 ≤ 2 ^ 24; decide) ?_) | (at_builtin; refine wpList_append_lies _ rfl (.tmp 23) (.tmp 25) 58 rfl (w.heap.size + 3) 77 i1 _ 16 144 Tryz.underlying58 hi1 hy0 hy1 hy2 rfl (by decide) _ l.length (rowC celC ps) rfl HPS.out ⟨W3.heap.size, 0, none⟩ 1 1 (c.cs (.slice a2 out.length c2)).toList rfl (cs_len _ _) (new_range _ _ _ _ rfl) (cs_oneL _ _ rfl) (by decide) (by have := HLL.out; unfold maxLen; omega) (by have := HLL.out; omega) (by have := HZ3.out; simp; omega) _ rfl ?_))
      intro g4 cap4 W4 hown hgrow hat hg4
      have hn4 := HADD.out _ W4 hown hgrow (hat.imp (fun e => e) (fun e => ⟨g4, rfl, by rw [e]; simp⟩))
      obtain ⟨hC5, hr5⟩ := (CP3.out.up (wr' := W3.alloc (.cells (c.cs (.slice a2 out.length c2)) 77)) ((Below.refl _ _).alloc (Nat.le_refl _) _)).grow hgrow hn4
      have C5 := Lib.hid hC5
      have R5 := Lib.hid hr5
      clear hown hgrow hat hn4 hC5 hr5 HADD HPS CP3 RW3 B3 q3
      go_wp2_with (refine wpList_store_cellW rfl 58 (.tmp 27) (.tmp 26) rfl (w.heap.size + 1 + 1) 1 (.slice (some ⟨g4, 0, none⟩) (l.length + 1) cap4) rfl rfl rfl 61 _ R5.out (by show 1 < 3; decide) sizeCells ?_)
      intro W5 HW5
      rw [← HW5.out] at C5
      clear HW5 R5
      go_wp2
      go_roundw
      case rel => exact ⟨k + 1, by go_num, by omega, Lib.hid ⟨_, by rw [List.take_succ_eq_append_getElem hlt, HLK.out, HD.out]; exact C5.out⟩⟩
      case measure => simp [intOf]; omega
    · have hli : ¬ (k : Int) < D.cells.length := by omega
      have hle : l = D.cells := by rw [← HLK.out]; exact List.take_of_length_le (by omega)
      subst hle
      have q4 := hC.r1.cell (j := 2) (v := .slice la D.lines.length lc) rfl
      have CP := Lib.hid hC
      clear hC HLK HLL
      go_wp2
      go_loopw [32] (fun i wr => ∃ k : Nat, i = .int .i64 k ∧ k ≤ D.lines.length ∧ Hid (∃ vl, Cp w wr D.tick (.slice ca D.cells.length cc) (.slice la D.lines.length lc) vc vl D.cells (D.lines.take k))) (fun i _ => D.lines.length - (intOf i).toNat)
      case atStart => exact ⟨0, rfl, Nat.zero_le _, Lib.hid ⟨_, CP.out⟩⟩
      case round =>
        clear CP q4 hlt hli hk
        obtain ⟨j, rfl, hj, HC⟩ := hrel
        obtain ⟨vl, hC⟩ := HC.out
        clear HC
        generalize hlk : D.lines.take j = l at hC
        have HLK := Lib.hid hlk
        have HLL : Hid (l.length = j) := by
          show _ = _
          rw [← hlk]
          simp
          omega
        clear hlk
        by_cases hlt : j < D.lines.length
        · have hli : (j : Int) < D.lines.length := by omega
          have hz := hC.z
          have hws := hC.d.size
          obtain ⟨b, off, cap, e1, hcap, hbw, hcc⟩ := HW.out.l.open (by omega)
          cases e1
          obtain ⟨ao, oc, hra, hso⟩ := hcc j hlt
          have ra := bcl hC.d hbw hra
          have SO := Lib.hid (hso.up hC.d)
          have hol := HLN.out j hlt
          have hbr : b < wr.heap.size := by omega
          have hbr' : b ≠ wr.heap.size := by omega
          generalize hd : D.lines[j] = d at ra SO hol
          have HD := Lib.hid hd
          have CP := Lib.hid hC
          clear hra hso hcc hd hC
          go_wp2
          generalize hW : World.alloc _ _ = W
          have RW : Hid (Rw W wr.heap.size 171 #[.slice ao d.length oc]) := by
            show Rw _ _ _ _
            rw [← hW]
            exact (by repeat (first | exact Rw.new _ _ _ (by first | rfl | (simp; done) | omega | (simp; omega)) | refine Rw.alloc ?_ _))
          have b0 : Below wr.heap.size wr W := by rw [← hW]; exact (Below.refl _ _).alloc (Nat.le_refl _) _
          have hzW : W.heap.size = wr.heap.size + 1 := by rw [← hW]; simp
          have CPW := Lib.hid (CP.out.up b0)
          have SOW := Lib.hid (SO.out.up b0)
          have hvl := CP.out.n.ltL
          obtain ⟨a3, c3, hfl⟩ := CP.out.n.formL
          subst hfl
          have HVL := Lib.hid hvl
          clear hW ra b0 CP SO hvl
          refine region_still (S := fun w' => Rw w' (w.heap.size + 1 + 1) 61 #[.int .i64 D.tick, vc, .slice a3 l.length c3] ∧ Rw w' wr.heap.size 171 #[.slice ao d.length oc]) 9 (by kernel_rfl) ⟨CPW.out.r3, RW.out⟩ (fun hHeld => ?_)
          have hq := fun w' (hSw : (fun w' => Rw w' (w.heap.size + 1 + 1) 61 #[.int .i64 D.tick, vc, .slice a3 l.length c3] ∧ Rw w' wr.heap.size 171 #[.slice ao d.length oc]) w') => And.intro (hSw.1.cell (j := 2) (v := .slice a3 l.length c3) rfl) (hSw.2.cell (j := 0) (v := .slice ao d.length oc) rfl)
          refine Still.u 0 [] hHeld hq ?_
          refine Still.u 1 [] hHeld hq ?_
          refine Still.u 2 [] hHeld hq ?_
          refine Still.u 3 [] hHeld hq ?_
          refine Still.o 4 rfl rfl (fun K hK => ?_)
          refine wp_append_nil (.const (.slice none 0 0)) (.tmp 39) 41 rfl 3 i0 _ 1 8 Tryz.underlying41 hi0 hz0 hz1 hz2 rfl (by decide) rfl _ d.length (ints d) (by first | rfl | simp [Act.eval, Act.put]) (SOW.out.up (Below.refl _ _).drew) (ints_cell d) (by unfold maxLen; omega) (by omega) ?_
          intro v' W2 hown hb2
          have z2 : W.heap.size ≤ W2.heap.size := hb2.size
          obtain ⟨a2, c2, rfl⟩ := own_form hown
          have hob := own_block hown
          have hol2 := own_lt hown
          have bW : Below W.heap.size W W2 := Below.trans (Below.refl _ _).drew hb2
          have CP2 := Lib.hid (CPW.out.up bW)
          have RW2 := Lib.hid (RW.out.up bW (by omega))
          have S2 := Lib.hid (own_sl hown)
          refine hK _ _ (fun _ => ⟨CP2.out.r3, RW2.out⟩) (fun hh => ?_)
          have hHeld := hh (by decide)
          clear hK K hh
          try simp only [Act.put, List.getElem_toArray, List.getElem_cons_zero, List.getElem_cons_succ, List.setIfInBounds_toArray, List.set_cons_zero, List.set_cons_succ]
          clear hown hb2 bW
          refine Still.t 5 [] hHeld ?_
          refine Still.o 6 rfl rfl (fun K hK => ?_)
          go_simp
          refine hK _ _ (fun _ => ⟨CP2.out.r3.alloc _, RW2.out.alloc _⟩) (fun hh => ?_)
          have hHeld := hh (by decide)
          clear hK K hh
          try simp only [Act.put, List.getElem_toArray, List.getElem_cons_zero, List.getElem_cons_succ, List.setIfInBounds_toArray, List.set_cons_zero, List.set_cons_succ]
          have IN : In (w.heap.size + 3) 0 (W2.alloc (.cells #[.slice a2 d.length c2] 171)) vc (.slice a3 l.length c3) (.slice a2 d.length c2) := fun x e => by
            have h1 : W.heap.size ≤ x := hob x e
            have h2 := hol2 x e
            refine ⟨by omega, by simp; omega, fun e' => ?_, fun e' => ?_⟩
            · have := (CPW.out.n.ltC x e').2; omega
            · have := (HVL.out x e').2; omega
          obtain ⟨vs, hvs, hadd⟩ := (CP2.out.n.alloc (.cells #[.slice a2 d.length c2] 171)).addL d (.slice a2 d.length c2) (S2.out.up ((Below.refl _ _).alloc (Nat.le_refl _) _)) IN
          refine Still.o 7 rfl rfl (fun K hK => ?_)
          refine wp_append_lies _ (.tmp 37) (.tmp 42) 59 rfl (w.heap.size + 3) 171 i2 _ 1 24 Tryz.underlying59 hi2 hx0 hx1 hx2 rfl (by decide) (.slice a3 l.length c3) l.length vs (by first | rfl | simp [Act.eval, Act.put]) hvs ⟨W2.heap.size, 0, none⟩ 1 1 [.slice a2 d.length c2] (by first | rfl | simp [Act.eval, Act.put]) rfl (new_range _ _ #[.slice a2 d.length c2] _ rfl) (fun u hu => by simp at hu; subst hu; rfl) (by decide) (by have := HLL.out; unfold maxLen; omega) (by have := HLL.out; omega) (by simp; omega) _ rfl ?_
          intro g4 cap4 W4 hown hgrow hat hg4
          have hn4 := hadd _ W4 hown hgrow (hat.imp (fun e => e) (fun e => ⟨g4, rfl, by rw [e]; simp⟩))
          obtain ⟨hC5, hr5⟩ := (CP2.out.up (wr' := W2.alloc (.cells #[.slice a2 d.length c2] 171)) ((Below.refl _ _).alloc (Nat.le_refl _) _)).growL hgrow hn4
          have C5 := Lib.hid hC5
          have RL : Rw W4 wr.heap.size 171 #[.slice ao d.length oc] := (hgrow.block _ (by simp; omega) (fun e => by have := (HVL.out _ e.symm).2; omega)).trans (RW2.out.alloc _)
          have q5 := hr5.cell (j := 2) (v := .slice a3 l.length c3) rfl
          have f5 := hr5.fr 2
          clear hown hgrow hat hn4 hC5 hvs hadd IN
          refine hK _ _ (fun _ => ⟨hr5, RL⟩) (fun hh => ?_)
          have hHeld := hh (by decide)
          clear hK K hh
          try simp only [Act.put, List.getElem_toArray, List.getElem_cons_zero, List.getElem_cons_succ, List.setIfInBounds_toArray, List.set_cons_zero, List.set_cons_succ]
          clear hr5 RL
          refine Still.t 8 [] hHeld ?_
          refine Still.o 9 rfl rfl (fun K hK => ?_)
          clear hHeld
          go_simp
          refine hK _ _ (fun h => absurd rfl h) (fun _ => ?_)
          clear hK K
          refine Still.over (by kernel_rfl) ?_ _
          clear q5 f5
          go_wp2
          go_roundw
          case rel => exact ⟨j + 1, by go_num, by omega, Lib.hid ⟨_, by rw [List.take_succ_eq_append_getElem hlt, HLK.out, HD.out]; exact C5.out⟩⟩
          case measure => simp [intOf]; omega
        · have hli : ¬ (j : Int) < D.lines.length := by omega
          have hle : l = D.lines := by rw [← HLK.out]; exact List.take_of_length_le (by omega)
          subst hle
          have CP := Lib.hid hC
          obtain ⟨a3, c3, rfl⟩ := hC.n.formC
          obtain ⟨a4, c4, rfl⟩ := hC.n.formL
          clear hC HLK HLL
          go_wp2_with (first | (refine wpList_load_row rfl 61 (.tmp 3) rfl (w.heap.size + 1 + 1) rfl 61 _ (0, 0) _ CP.out.r3 Tryz.underlying61 rfl sizeWld ?_) | (refine wpList_store_row rfl 61 (.tmp 2) (.tmp 46) rfl (w.heap.size + 1) #[.int .i64 D.tick, .slice a3 D.cells.length c3, .slice a4 D.lines.length c4] rfl rfl 61 _ CP.out.r2 sizeWld rfl (by simp [Value.oneCell']) ?_))
          refine bodyPost_ret (results_cell_row Tryz.results96 _ _ (w.heap.size + 1) 61 #[.int .i64 D.tick, .slice a3 D.cells.length c3, .slice a4 D.lines.length c4] (0, 0) _ rfl (CP.out.r2.row _) Tryz.underlying61 rfl sizeWld) rfl ⟨_, _, rfl, (CP.out.n.row (by omega) _).low (by omega), below_row CP.out.d (by omega) _⟩
end Go.Proofs.YtbkdoohhdkahiaaGreatDoor
namespace Go.Proofs.YtbkdoohhdkahiaaGreatDoor
set_option linter.unusedSimpArgs false
set_option linter.unusedVariables false
open Go.RowKit Go.Sort
theorem infoLn3 : (Tryz.prog.info? 3).map (fun i => (i.zero, i.size, i.bytes)) = some (some (.int .i64 0), 1, 8) := by kernel_rfl
set_option maxHeartbeats 1000000 in
theorem line_any (xs : List Int) (hx : xs.length ≤ 3) (v : Value) (w : World) (hS : Sl w 1 v xs.length (ints xs)) :
    Calls Tryz.prog 188 #[v] w fun e w' => ∃ v', e = .returned (.agg #[v']) ∧ w'.ownsRow (w.heap.size + 1) 3 1 v' xs.length (ints xs) ∧ Below w.heap.size w w' := by
  obtain ⟨i0, hi, hz0, hz1, hz2⟩ := info_parts infoLn3
  by_cases h0 : xs.length = 0
  · obtain ⟨ao, cap, rfl⟩ := hS.form
    rw [h0]
    have hxs : xs = [] := List.length_eq_zero_iff.1 h0
    subst hxs
    clear hS h0 hx
    go_enter Tryz.func188, Tryz.ntmps188
    cases ao
    all_goals
      go_wp2
      refine bodyPost_ret (v := .agg #[.slice none 0 0]) ?_ rfl ⟨_, rfl, World.ownsRow_nil _ _ _ _, up0⟩
      simp [results, Tryz.results188, go_sem]
  · obtain ⟨b, off, cap, rfl, hcap, hbw, hc⟩ := hS.open (by omega)
    have HCC := Lib.hid hc
    clear hS hc
    go_enter Tryz.func188, Tryz.ntmps188
    go_wp2_with (at_builtin; refine wpList_append_lies _ rfl (.const (.slice none 0 0)) (.tmp 3) 41 rfl (w.heap.size + 1) 3 i0 (.int .i64 0) 1 8 Tryz.underlying41 hi hz0 hz1 hz2 rfl (by decide) (.slice none 0 0) 0 [] rfl (World.ownsRow_nil _ _ _ _) ⟨b, off, none⟩ xs.length cap (ints xs) rfl (by simp [ints]) (fun j u hj => ?_) (ints_cell xs) (by omega) (by unfold maxLen; omega) (by omega) (by simp) _ rfl ?_)
    · have hadd : (⟨b, off, none⟩ : Addr).add j = ⟨b, off + j, none⟩ := by
        unfold Addr.add
        by_cases h0 : j = 0 <;> simp [h0]
      rw [hadd]
      exact cl_alloc _ hbw (HCC.out j u hj)
    intro g cap1 w3 hown hgrow hat hglt
    have hu : Below w.heap.size w w3 := (up0 : Below w.heap.size w _).grown hgrow (by simp) (fun k hk => by cases hk)
    have z0 : w3.cell? ⟨w.heap.size, 0, none⟩ = some (.slice none 0 0) := (hgrow.cell_far ⟨w.heap.size, 0, none⟩ (by simp) (by simp [Value.ownBlock])).trans (by simp)
    have y0 : w3.frozen? ⟨w.heap.size, 0, none⟩ = false := (hgrow.frozen_far ⟨w.heap.size, 0, none⟩ (by simp) (by simp [Value.ownBlock])).trans (by simp)
    have hown2 : w3.ownsRow (w.heap.size + 1) 3 1 (.slice (some ⟨g, 0, none⟩) xs.length cap1) xs.length (ints xs) := by simpa using hown
    have HO := Lib.hid hown2
    clear hown hown2 hgrow hat HCC
    go_wp2
    refine bodyPost_ret (v := .agg #[.slice (some ⟨g, 0, none⟩) xs.length cap1]) ?_ rfl ⟨_, rfl, ownsRow_setCell_below HO.out (by simp) _, hu.setCell (by simp) _⟩
    simp [results, Tryz.results188, go_sem, *]
end Go.Proofs.YtbkdoohhdkahiaaGreatDoor
namespace Go.Proofs.YtbkdoohhdkahiaaGreatDoor
set_option linter.unusedSimpArgs false
set_option linter.unusedVariables false
open Go.RowKit Go.Sort
def putS (kind : Int) (xs : List Int) (val : Int) : List Int × Bool := if kind = 1 then ([val], true) else if xs.length = 3 then (xs, false) else (xs ++ [val], true)
set_option maxHeartbeats 1000000 in
theorem put_no (kind : Int) (ao : Option Addr) (n cap : Nat) (val : Int) (w : World) (c : Int) (hc : chkL kind n = c) (h0 : c ≠ 0) :
    Calls Tryz.prog 154 #[.int .i64 kind, .agg #[.slice ao n cap], .int .i64 val] w fun e w' => e = .returned (.tuple #[.agg #[.slice none 0 0], .bool false, .int .i64 c]) ∧ Below w.heap.size w w' := by
  have h0' : (c != 0) = true := by simpa using h0
  clear h0
  go_enter Tryz.func154, Tryz.ntmps154
  go_wp2_with fail
  refine (chkLine_any kind ao n cap _ c hc).mono ?_
  rintro e w1 ⟨rfl, b1⟩
  have u1 : Below w.heap.size w w1 := Below.trans up0 (b1.mono (by simp; omega))
  have z0 : w1.cell? ⟨w.heap.size + 1, 0, none⟩ = some (.slice none 0 0) := bcl b1 (by simp) (by simp)
  have y0 : w1.frozen? ⟨w.heap.size + 1, 0, none⟩ = false := bfr b1 (by simp) (by simp)
  clear b1
  go_wp2
  refine bodyPost_ret (v := .tuple #[.agg #[.slice none 0 0], .bool false, .int .i64 c]) ?_ rfl ⟨rfl, up0⟩
  simp [results, Tryz.results154, go_sem, *]
set_option maxHeartbeats 2000000 in
theorem put_one (xs : List Int) (ao : Option Addr) (cap : Nat) (val : Int) (w : World) (hx : xs.length ≤ 1) :
    Calls Tryz.prog 154 #[.int .i64 1, .agg #[.slice ao xs.length cap], .int .i64 val] w fun e w' => ∃ v', e = .returned (.tuple #[.agg #[v'], .bool true, .int .i64 0]) ∧ SlN w w' v' 1 (ints [val]) ∧ Below w.heap.size w w' := by
  go_enter Tryz.func154, Tryz.ntmps154
  go_wp2_with fail
  refine (chkLine_any 1 ao xs.length cap _ 0 (by unfold chkL; simp; omega)).mono ?_
  rintro e w1 ⟨rfl, b1⟩
  have u1 : Below w.heap.size w w1 := Below.trans up0 (b1.mono (by simp; omega))
  have s1 : w.heap.size + 2 ≤ w1.heap.size := by have := b1.size; simp at this; omega
  have z0 : w1.cell? ⟨w.heap.size + 1, 0, none⟩ = some (.slice none 0 0) := bcl b1 (by simp) (by simp)
  have y0 : w1.frozen? ⟨w.heap.size + 1, 0, none⟩ = false := bfr b1 (by simp) (by simp)
  clear b1
  go_wp2_with fail
  refine (line_any [val] (by simp) _ _ (sl_one _ _ _ _ (by simp))).mono ?_
  rintro e w2 ⟨v', rfl, o2, b2⟩
  have u2 : Below w.heap.size w w2 := Below.trans (u1.alloc (by omega) _) (b2.mono (by simp; omega))
  have z0 : w2.cell? ⟨w.heap.size + 1, 0, none⟩ = some (.slice none 0 0) := bcl b2 (by simp; omega) (cl_alloc _ (by omega) z0)
  have y0 : w2.frozen? ⟨w.heap.size + 1, 0, none⟩ = false := bfr b2 (by simp; omega) (fr_alloc _ (by omega) y0)
  have o2' := own_low o2 (show w.heap.size + 2 ≤ _ by simp; omega)
  obtain ⟨a2, c2, rfl⟩ := own_form o2
  have HO := Lib.hid o2'
  clear b2 o2 o2'
  go_wp2
  refine bodyPost_ret (v := .tuple #[.agg #[.slice a2 1 c2], .bool true, .int .i64 0]) ?_ rfl ⟨_, rfl, own_sln (by omega) (ownsRow_setCell_below HO.out (by simp) _), u2.setCell (by simp) _⟩
  simp [results, Tryz.results154, go_sem, *]
end Go.Proofs.YtbkdoohhdkahiaaGreatDoor
namespace Go.Proofs.YtbkdoohhdkahiaaGreatDoor
set_option linter.unusedSimpArgs false
set_option linter.unusedVariables false
open Go.RowKit Go.Sort
theorem room2 (w : World) : Calls Tryz.prog 189 #[.int .i64 2] w fun e w' => e = .returned (.int .i64 3) ∧ w' = w := room_any 2 w
theorem int_cellL (z : Int) : ∀ u ∈ [Value.int .i64 z], u.oneCell' = true := by
  intro u hu; simp at hu; subst hu; rfl
set_option maxHeartbeats 2000000 in
theorem put_full (xs : List Int) (v : Value) (val : Int) (w : World) (hx : xs.length = 3) (hS : Sl w 1 v xs.length (ints xs)) :
    Calls Tryz.prog 154 #[.int .i64 2, .agg #[v], .int .i64 val] w fun e w' => ∃ v', e = .returned (.tuple #[.agg #[v'], .bool false, .int .i64 0]) ∧ SlN w w' v' xs.length (ints xs) ∧ Below w.heap.size w w' := by
  obtain ⟨ao, cap, rfl⟩ := hS.form
  have HS := Lib.hid hS
  have HX := Lib.hid hx
  clear hS hx
  go_enter Tryz.func154, Tryz.ntmps154
  go_wp2_with fail
  refine (chkLine_any 2 ao xs.length cap _ 0 (by unfold chkL; simp; have := HX.out; omega)).mono ?_
  rintro e w1 ⟨rfl, b1⟩
  have u1 : Below w.heap.size w w1 := Below.trans up0 (b1.mono (by simp; omega))
  have s1 : w.heap.size + 2 ≤ w1.heap.size := by have := b1.size; simp at this; omega
  have k0 : w1.cell? ⟨w.heap.size, 0, none⟩ = some (.slice ao xs.length cap) := bcl b1 (by simp; omega) (cl_alloc _ (by simp) (by simp))
  have z0 : w1.cell? ⟨w.heap.size + 1, 0, none⟩ = some (.slice none 0 0) := bcl b1 (by simp) (by simp)
  have y0 : w1.frozen? ⟨w.heap.size + 1, 0, none⟩ = false := bfr b1 (by simp) (by simp)
  clear b1
  go_wp2_with fail
  refine (line_any xs (by have := HX.out; omega) _ _ (HS.out.up u1)).mono ?_
  rintro e w2 ⟨v', rfl, o2, b2⟩
  have u2 : Below w.heap.size w w2 := Below.trans u1 (b2.mono (by omega))
  have s2 : w.heap.size + 2 ≤ w2.heap.size := by have := b2.size; omega
  have z0 : w2.cell? ⟨w.heap.size + 1, 0, none⟩ = some (.slice none 0 0) := bcl b2 (by omega) z0
  have y0 : w2.frozen? ⟨w.heap.size + 1, 0, none⟩ = false := bfr b2 (by omega) y0
  have o2' := own_low o2 (show w.heap.size + 2 ≤ _ by omega)
  obtain ⟨a2, c2, rfl⟩ := own_form o2
  have HO := Lib.hid o2'
  have q3 : ((xs.length : Int) == 3) = true := by simp; have := HX.out; omega
  have z0 : (w2.alloc (.cells #[.slice a2 xs.length c2] 171)).cell? ⟨w.heap.size + 1, 0, none⟩ = some (.slice none 0 0) := cl_alloc _ (by omega) z0
  have y0 : (w2.alloc (.cells #[.slice a2 xs.length c2] 171)).frozen? ⟨w.heap.size + 1, 0, none⟩ = false := fr_alloc _ (by omega) y0
  have hne : w.heap.size + 1 ≠ w2.heap.size := by omega
  have hne2 : w2.heap.size ≠ w.heap.size + 1 := by omega
  clear b2 o2 o2' k0
  go_wp2
  go_quiet ((go_at_call 189; refine Calls.quiet_of_same (room2 _)))
  go_wp2
  refine bodyPost_ret (v := .tuple #[.agg #[.slice a2 xs.length c2], .bool false, .int .i64 0]) ?_ rfl ⟨_, rfl, ?_, ?_⟩
  · simp [results, Tryz.results154, go_sem, *]
  · exact own_sln (by omega) (ownsRow_setCell_below (own_drewN (HO.out.alloc _) nq) (by simp) _)
  · exact (below_drewN (u2.alloc (by omega) _) nq).setCell (by simp) _
set_option maxHeartbeats 2000000 in
theorem put_room (xs : List Int) (v : Value) (val : Int) (w : World) (hx : xs.length < 3) (hS : Sl w 1 v xs.length (ints xs)) :
    Calls Tryz.prog 154 #[.int .i64 2, .agg #[v], .int .i64 val] w fun e w' => ∃ v', e = .returned (.tuple #[.agg #[v'], .bool true, .int .i64 0]) ∧ SlN w w' v' (xs ++ [val]).length (ints (xs ++ [val])) ∧ Below w.heap.size w w' := by
  obtain ⟨ao, cap, rfl⟩ := hS.form
  obtain ⟨i0, hi, hz0, hz1, hz2⟩ := info_parts infoLn3
  have HS := Lib.hid hS
  have HX := Lib.hid hx
  clear hS hx
  go_enter Tryz.func154, Tryz.ntmps154
  go_wp2_with fail
  refine (chkLine_any 2 ao xs.length cap _ 0 (by unfold chkL; simp; have := HX.out; omega)).mono ?_
  rintro e w1 ⟨rfl, b1⟩
  have u1 : Below w.heap.size w w1 := Below.trans up0 (b1.mono (by simp; omega))
  have s1 : w.heap.size + 2 ≤ w1.heap.size := by have := b1.size; simp at this; omega
  have k0 : w1.cell? ⟨w.heap.size, 0, none⟩ = some (.slice ao xs.length cap) := bcl b1 (by simp; omega) (cl_alloc _ (by simp) (by simp))
  have z0 : w1.cell? ⟨w.heap.size + 1, 0, none⟩ = some (.slice none 0 0) := bcl b1 (by simp) (by simp)
  have y0 : w1.frozen? ⟨w.heap.size + 1, 0, none⟩ = false := bfr b1 (by simp) (by simp)
  clear b1
  go_wp2_with fail
  refine (line_any xs (by have := HX.out; omega) _ _ (HS.out.up u1)).mono ?_
  rintro e w2 ⟨v', rfl, o2, b2⟩
  have u2 : Below w.heap.size w w2 := Below.trans u1 (b2.mono (by omega))
  have s2 : w.heap.size + 2 ≤ w2.heap.size := by have := b2.size; omega
  have z0 : w2.cell? ⟨w.heap.size + 1, 0, none⟩ = some (.slice none 0 0) := bcl b2 (by omega) z0
  have y0 : w2.frozen? ⟨w.heap.size + 1, 0, none⟩ = false := bfr b2 (by omega) y0
  have o2' := own_low o2 (show w.heap.size + 2 ≤ _ by omega)
  obtain ⟨a2, c2, rfl⟩ := own_form o2
  have HO := Lib.hid o2'
  have q3 : ((xs.length : Int) == 3) = false := by simp; have := HX.out; omega
  have z0 : (w2.alloc (.cells #[.slice a2 xs.length c2] 171)).cell? ⟨w.heap.size + 1, 0, none⟩ = some (.slice none 0 0) := cl_alloc _ (by omega) z0
  have y0 : (w2.alloc (.cells #[.slice a2 xs.length c2] 171)).frozen? ⟨w.heap.size + 1, 0, none⟩ = false := fr_alloc _ (by omega) y0
  have hne : w.heap.size + 1 ≠ w2.heap.size := by omega
  have hne2 : w2.heap.size ≠ w.heap.size + 1 := by omega
  clear b2 o2 o2' k0
  go_wp2
  go_quiet ((go_at_call 189; refine Calls.quiet_of_same (room2 _)))
  have s3 : w2.heap.size < (w2.alloc (.cells #[.slice a2 xs.length c2] 171)).heap.size := by simp
  go_wp2_with (at_builtin; refine wpList_append_lies _ rfl (.tmp 34) (.tmp 36) 41 rfl (w.heap.size + 2) 3 i0 (.int .i64 0) 1 8 Tryz.underlying41 hi hz0 hz1 hz2 rfl (by decide) (.slice a2 xs.length c2) xs.length (ints xs) rfl ((own_drewN (HO.out.alloc _) nq).alloc _) ⟨_, 0, none⟩ 1 1 [.int .i64 val] rfl rfl (one_at _ _ 3 _ (by simp)) (int_cellL _) (by decide) (by have := HX.out; unfold maxLen; omega) (by have := HX.out; omega) (by simp; omega) _ rfl ?_)
  intro g cap1 w3 hown hgrow hat hglt
  have hkb := own_block (own_drewN (HO.out.alloc (.cells #[.slice a2 xs.length c2] 171)) nq)
  have hkl : ∀ k, Value.ownBlock (.slice a2 xs.length c2) = some k → k < w2.heap.size := fun k hk => (HO.out.lt k hk).2
  have hgn : g ≠ w2.heap.size := by
    intro e
    rcases hat with hat | hat
    · have := hkl g hat; omega
    · omega
  have hgb : w.heap.size + 2 ≤ g := by
    rcases hat with hat | hat
    · exact hkb g hat
    · omega
  have u3 : Below w.heap.size w w3 := ((below_drewN (u2.alloc (by omega) _) nq).alloc (by simp; omega) _).grown hgrow (by simp; omega) (fun k hk => by have := hkb k hk; omega)
  have hf1 : ∀ p : Addr, p.block < w2.heap.size + 1 → p.block = w.heap.size + 1 ∨ p.block = w2.heap.size → some p.block ≠ Value.ownBlock (.slice a2 xs.length c2) := by
    intro p hp hq e
    have h1 := hkb _ e.symm
    have h2 := hkl _ e.symm
    omega
  have z1 : w3.cell? ⟨w.heap.size + 1, 0, none⟩ = some (.slice none 0 0) := (hgrow.cell_far ⟨w.heap.size + 1, 0, none⟩ (by simp; omega) (hf1 _ (by simp; omega) (by simp))).trans (cl_alloc _ (by simp; omega) z0)
  have y1 : w3.frozen? ⟨w.heap.size + 1, 0, none⟩ = false := (hgrow.frozen_far ⟨w.heap.size + 1, 0, none⟩ (by simp; omega) (hf1 _ (by simp; omega) (by simp))).trans (fr_alloc _ (by simp; omega) y0)
  have z2 : w3.cell? ⟨w2.heap.size, 0, none⟩ = some (.slice a2 xs.length c2) := (hgrow.cell_far ⟨w2.heap.size, 0, none⟩ (by simp; omega) (hf1 _ (by simp) (by simp))).trans (cl_alloc _ (by simp) (by simp))
  have y2 : w3.frozen? ⟨w2.heap.size, 0, none⟩ = false := (hgrow.frozen_far ⟨w2.heap.size, 0, none⟩ (by simp; omega) (hf1 _ (by simp) (by simp))).trans (fr_alloc _ (by simp) (by simp))
  have hown2 : w3.ownsRow (w.heap.size + 2) 3 1 (.slice (some ⟨g, 0, none⟩) (xs.length + 1) cap1) (xs ++ [val]).length (ints (xs ++ [val])) := by simpa [ints] using hown
  have HW := Lib.hid hown2
  clear hown hown2 hgrow hat hkb hkl hf1 z0 y0
  go_wp2
  refine bodyPost_ret (v := .tuple #[.agg #[.slice (some ⟨g, 0, none⟩) (xs.length + 1) cap1], .bool true, .int .i64 0]) ?_ rfl ⟨_, rfl, ?_, ?_⟩
  · simp [results, Tryz.results154, go_sem, *]
  · exact own_sln (by omega) (ownsRow_setCell_below (ownsRow_setCell_other HW.out (by simp [Value.ownBlock]; omega) _) (by simp) _)
  · exact (u3.setCell (by simp; omega) _).setCell (by simp) _
end Go.Proofs.YtbkdoohhdkahiaaGreatDoor

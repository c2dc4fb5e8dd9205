/- kern.serve. -/
import Derived.Test.YtbkdoohhdkahiaaGreatDoorJ15
import Derived.Test.YtbkdoohhdkahiaaGreatDoorJ16
import Derived.Test.YtbkdoohhdkahiaaGreatDoorJ19
namespace Go.Proofs.YtbkdoohhdkahiaaGreatDoor
set_option linter.unusedSimpArgs false
set_option linter.unusedVariables false
set_option maxRecDepth 100000
set_option maxHeartbeats 8000000
open Go.RowKit Go.Sort
variable {S : SysD} {i : Ins} {inn xs ys : List Int} {c c' : Cel} {l : List Ins} {o v vc vl : Value} {w : World} {D : WldD} {B B' : Nat}
def xej (kind : Int) (l : List Int) (x : Wnt) : List Int × Int × Bool := if x.k = 12 then ((xxa kind l x.val).1, 0, (xxa kind l x.val).2) else x1y kind l
theorem xvs (kind : Int) (l : List Int) (v : Value) (x : Wnt) (w : World) (hS : Sl w 1 v l.length (xar l)) (hc : xh2 kind l.length = 0) (zs : List Int) (n : Int) (t : Bool) (hz : xej kind l x = (zs, n, t)) :
  Calls Tryz.prog 99 #[.int .i64 kind, .agg #[v], .agg x.cs] w fun e w' => ∃ v', e = .returned (.tuple #[.agg #[v'], .int .i64 n, .bool t]) /\ SlN w w' v' zs.length (xar zs) /\ Below w.heap.size w w' := by
 obtain ⟨ao, cap, rfl⟩ := hS.form
 have HS := hd hS
 by_cases hk : x.k = 12
 .obtain ⟨⟨zs', t'⟩, hp⟩ : ∃ r, xxa kind l x.val = r := ⟨_, rfl⟩
  have hz' : zs' = zs /\ 0 = n /\ t' = t := by
   unfold xej at hz
   rw [if_pos hk, hp] at hz
   injection hz with h1 h2
   injection h2 with h2 h3
   exact ⟨h1, h2, h3⟩
  obtain ⟨rfl, rfl, rfl⟩ := hz'
  have HP := hd fun w hS => x57 kind l (.slice ao l.length cap) x.val w hS 0 hc zs' t' hp
  have hk' : (x.k == 12) = true := by simpa using hk
  clear hS hc hz hp hk
  unfold Wnt.cs
  go_enter Tryz.func99, Tryz.ntmps99
  go_wp2_with fail
  refine (HP.out _ (HS.out.up up0)).mono ?_
  rintro e w1 ⟨v', rfl, hN, b1⟩
  have z1 := b1.size
  simp at z1
  obtain ⟨a1, c1, rfl⟩ := hN.1.form
  have R2 : Rw w1 (w.heap.size + 1 + 1) 171 #[.slice none 0 0] := Rw.up rn0 b1 o3
  have q2 := R2.cell (j := 0) (v := .slice none 0 0) rfl
  have f2 := R2.fr 0
  have HD : Hid (Below w.heap.size w w1) := by
   refine Below.trans ?_ (b1.mono o3)
   exact up0
  have HN := hd hN
  have hlt2 : w.heap.size + 1 + 1 < w1.heap.size := by omega
  have hne2 : w.heap.size + 1 + 1 ≠ w1.heap.size := by omega
  clear b1 hN R2 HP
  go_wp2
  have HS2 : Hid (SlN w ((w1.setCell ⟨w.heap.size + 1 + 1, 0, none⟩ (.slice a1 zs'.length c1)).alloc (.cells #[.slice a1 zs'.length c1] 171)) (.slice a1 zs'.length c1) zs'.length (xar zs')) := by
   refine ⟨Sl.up (HN.out.1.set _ (fun e => by have := HN.out.2 _ e; simp at this; omega)) ((Below.refl _ _).alloc (Nat.le_refl _) _), fun k e => by have := HN.out.2 k e; simp at this; omega⟩
  have HD2 : Hid (Below w.heap.size w ((w1.setCell ⟨w.heap.size + 1 + 1, 0, none⟩ (.slice a1 zs'.length c1)).alloc (.cells #[.slice a1 zs'.length c1] 171))) :=
   Below.alloc (HD.out.setCell (p := ⟨w.heap.size + 1 + 1, 0, none⟩) so _) (by rw [xba]; omega) _
  clear HN HD
  have c2 : ((w1.setCell ⟨w.heap.size + 1 + 1, 0, none⟩ (.slice a1 zs'.length c1)).alloc (.cells #[.slice a1 zs'.length c1] 171)).cell? ⟨w.heap.size + 1 + 1, 0, none⟩ = some (.slice a1 zs'.length c1) := by
   rw [World.cell?_alloc_lt _ _ _ so]
   exact World.cell?_setCell_same _ _ _ q2
  clear q2 f2 hlt2 hne2
  refine bodyPost_ret (v := .tuple #[.agg #[.slice a1 zs'.length c1], .int .i64 0, .bool t']) ?_ rfl ⟨_, rfl, HS2.out, HD2.out⟩
  simp [results, Tryz.results99, go_sem, *]
 .obtain ⟨⟨zs', n', t'⟩, hp⟩ : ∃ r, x1y kind l = r := ⟨_, rfl⟩
  have hz' : zs' = zs /\ n' = n /\ t' = t := by
   unfold xej at hz
   rw [if_neg hk, hp] at hz
   injection hz with h1 h2
   injection h2 with h2 h3
   exact ⟨h1, h2, h3⟩
  obtain ⟨rfl, rfl, rfl⟩ := hz'
  have HP := hd fun w hS => x52 kind l (.slice ao l.length cap) w hS 0 hc zs' n' t' hp
  have hk' : (x.k == 12) = false := by simpa using hk
  clear hS hc hz hp hk
  unfold Wnt.cs
  go_enter Tryz.func99, Tryz.ntmps99
  go_wp2_with fail
  refine (HP.out _ (HS.out.up up0)).mono ?_
  rintro e w1 ⟨v', rfl, hN, b1⟩
  have z1 := b1.size
  simp at z1
  obtain ⟨a1, c1, rfl⟩ := hN.1.form
  have R2 : Rw w1 (w.heap.size + 1 + 1) 171 #[.slice none 0 0] := Rw.up rn0 b1 o3
  have q2 := R2.cell (j := 0) (v := .slice none 0 0) rfl
  have f2 := R2.fr 0
  have HD : Hid (Below w.heap.size w w1) := by
   refine Below.trans ?_ (b1.mono o3)
   exact up0
  have HN := hd hN
  have hlt2 : w.heap.size + 1 + 1 < w1.heap.size := by omega
  have hne2 : w.heap.size + 1 + 1 ≠ w1.heap.size := by omega
  clear b1 hN R2 HP
  go_wp2
  have HS2 : Hid (SlN w ((w1.setCell ⟨w.heap.size + 1 + 1, 0, none⟩ (.slice a1 zs'.length c1)).alloc (.cells #[.slice a1 zs'.length c1] 171)) (.slice a1 zs'.length c1) zs'.length (xar zs')) := by
   refine ⟨Sl.up (HN.out.1.set _ (fun e => by have := HN.out.2 _ e; simp at this; omega)) ((Below.refl _ _).alloc (Nat.le_refl _) _), fun k e => by have := HN.out.2 k e; simp at this; omega⟩
  have HD2 : Hid (Below w.heap.size w ((w1.setCell ⟨w.heap.size + 1 + 1, 0, none⟩ (.slice a1 zs'.length c1)).alloc (.cells #[.slice a1 zs'.length c1] 171))) :=
   Below.alloc (HD.out.setCell (p := ⟨w.heap.size + 1 + 1, 0, none⟩) so _) (by rw [xba]; omega) _
  clear HN HD
  have c2 : ((w1.setCell ⟨w.heap.size + 1 + 1, 0, none⟩ (.slice a1 zs'.length c1)).alloc (.cells #[.slice a1 zs'.length c1] 171)).cell? ⟨w.heap.size + 1 + 1, 0, none⟩ = some (.slice a1 zs'.length c1) := by
   rw [World.cell?_alloc_lt _ _ _ so]
   exact World.cell?_setCell_same _ _ _ q2
  clear q2 f2 hlt2 hne2
  refine bodyPost_ret (v := .tuple #[.agg #[.slice a1 zs'.length c1], .int .i64 n', .bool t']) ?_ rfl ⟨_, rfl, HS2.out, HD2.out⟩
  simp [results, Tryz.results99, go_sem, *]
theorem xs2 : ∀ {l : List Slt} {p : Int}, p ∈ xir l -> ∃ t ∈ l, t.pt = p
 | t :: r, p, h => by
  rw [xir, List.mem_append] at h
  rcases h with h | h
  .exact ⟨t, List.mem_cons_self, (List.eq_of_mem_replicate h).symm⟩
  .obtain ⟨t', h1, h2⟩ := xs2 h
   exact ⟨t', List.mem_cons_of_mem _ h1, h2⟩
theorem xlt (h : xb3 S = 0) {tick : Int} (ht : 0 <= tick) : 0 <= xpp S tick /\ xpp S tick < S.parts.length := by
 obtain ⟨hok, h1⟩ := xn8 h
 obtain ⟨x, _, hx, e⟩ := xtx hok h1 ht
 obtain ⟨t, hm, e2⟩ := xs2 (List.getElem_mem hx)
 rw [e] at e2
 obtain ⟨-, -, -, h4, -⟩ := xcu h
 unfold xby at h4
 rw [Bool.and_eq_true, Bool.not_eq_true', Bool.not_eq_true', List.any_eq_false, List.any_eq_false] at h4
 have := h4.2 _ hm
 unfold xcm xaf at this
 simp at this
 omega
theorem xsp {x' : Wnt} (h : doC i inn xs c xa0 = some (c', ys, x')) : x' = xa0 \/ (i.op = 12 /\ x' = ⟨12, i.n, i.a, 0, c.reg i.a⟩) \/ (i.op = 13 /\ x' = ⟨13, i.n, i.a, i.b, 0⟩) := by
 unfold doC at h
 by_cases h1 : i.op = 1
 .rw [if_pos h1] at h; injection h with h; injection h with _ h; injection h with _ h; subst h; exact .inl rfl
 rw [if_neg h1] at h
 by_cases h2 : i.op = 2
 .rw [if_pos h2] at h; injection h with h; injection h with _ h; injection h with _ h; subst h; exact .inl rfl
 rw [if_neg h2] at h
 by_cases h3 : i.op = 3
 .rw [if_pos h3] at h; injection h with h; injection h with _ h; injection h with _ h; subst h; exact .inl rfl
 rw [if_neg h3] at h
 by_cases h4 : i.op = 4
 .rw [if_pos h4] at h; injection h with h; injection h with _ h; injection h with _ h; subst h; exact .inl rfl
 rw [if_neg h4] at h
 by_cases h5 : i.op = 5
 .rw [if_pos h5] at h; injection h with h; injection h with _ h; injection h with _ h; subst h; exact .inl rfl
 rw [if_neg h5] at h
 by_cases h6 : i.op = 6
 .rw [if_pos h6] at h
  by_cases hm : c.reg i.b < 0 \/ 8 <= c.reg i.b
  .rw [if_pos hm] at h; cases h
  .rw [if_neg hm] at h; injection h with h; injection h with _ h; injection h with _ h; subst h; exact .inl rfl
 rw [if_neg h6] at h
 by_cases h7 : i.op = 7
 .rw [if_pos h7] at h
  by_cases hm : c.reg i.b < 0 \/ 8 <= c.reg i.b
  .rw [if_pos hm] at h; cases h
  .rw [if_neg hm] at h; injection h with h; injection h with _ h; injection h with _ h; subst h; exact .inl rfl
 rw [if_neg h7] at h
 by_cases h8 : i.op = 8
 .rw [if_pos h8] at h; injection h with h; injection h with _ h; injection h with _ h; subst h; exact .inl rfl
 rw [if_neg h8] at h
 by_cases h9 : i.op = 9
 .rw [if_pos h9] at h; injection h with h; injection h with _ h; injection h with _ h; subst h; exact .inl rfl
 rw [if_neg h9] at h
 by_cases h10 : i.op = 10
 .rw [if_pos h10] at h; injection h with h; injection h with _ h; injection h with _ h; subst h; exact .inl rfl
 rw [if_neg h10] at h
 by_cases h11 : i.op = 11
 .rw [if_pos h11] at h; injection h with h; injection h with _ h; injection h with _ h; subst h; exact .inl rfl
 rw [if_neg h11] at h
 by_cases h12 : i.op = 12
 .rw [if_pos h12] at h; injection h with h; injection h with _ h; injection h with _ h; subst h; exact .inr (.inl ⟨h12, rfl⟩)
 rw [if_neg h12] at h
 by_cases h13 : i.op = 13
 .rw [if_pos h13] at h; injection h with h; injection h with _ h; injection h with _ h; subst h; exact .inr (.inr ⟨h13, rfl⟩)
 rw [if_neg h13] at h
 by_cases h14 : i.op = 14
 .rw [if_pos h14] at h; injection h with h; injection h with _ h; injection h with _ h; subst h; exact .inl rfl
 rw [if_neg h14] at h
 injection h with h; injection h with _ h; injection h with _ h; subst h; exact .inl rfl
theorem xnk : ∀ {l : List Chn} {ps : List Prt} {k : Nat}, xcx l k ps = true -> ∀ j (hj : j < ps.length), xc9 l ((k + j : Nat) : Int) ps[j] = false
 | l, p :: r, k, h, 0, _ => by
  rw [xcx] at h
  cases hb : xc9 l k p with
  | true => rw [hb] at h; simp at h
  | false => exact hb
 | l, p :: r, k, h, j + 1, hj => by
  rw [xcx] at h
  cases hb : xc9 l k p with
  | true => rw [hb] at h; simp at h
  | false =>
   rw [hb] at h
   have := xnk (l := l) (ps := r) (k := k + 1) (by simpa using h) j (by simpa using hj)
   rw [show k + (j + 1) = k + 1 + j by omega]
   exact this
structure WantOk (S : SysD) (x : Wnt) : Prop where
 k : x.k = 12 \/ x.k = 13
 c0 : 0 <= x.ch
 c1 : x.ch < S.chans.length
 r0 : 0 <= x.reg
 r1 : x.reg < 4
 f0 : 0 <= x.flag
 f1 : x.flag < 4
theorem xgy (hi : i ∈ l) {op : Int} (ho : i.op = op) (h0 : 0 <= i.n) (h5 : i.n <= 5) : i.n ∈ xdw l op 6 := by
 obtain ⟨m, hm⟩ := Int.eq_ofNat_of_zero_le h0
 unfold xdw
 rw [List.mem_map]
 refine ⟨m, ?_, by rw [hm]⟩
 rw [List.mem_filter, List.mem_range]
 refine ⟨by omega, ?_⟩
 unfold xxg
 rw [List.any_eq_true]
 exact ⟨i, hi, by simp [ho, hm]⟩
theorem xln (h : xb3 S = 0) {p : Nat} (hp : p < S.parts.length) {inn xs : List Int} {c : Cel} (h0 : 0 <= c.at_) : (xbh S.parts[p].code inn xs c).2.2 = xa0 \/ WantOk S (xbh S.parts[p].code inn xs c).2.2 := by
 obtain ⟨-, hc, -, -, hn⟩ := xcu h
 have hcode := hc p hp
 have hnb := xnk (l := S.chans) (k := 0) hn p hp
 unfold xc9 at hnb
 rw [Bool.or_eq_false_iff, List.any_eq_false, List.any_eq_false] at hnb
 have hfe : xdr S.parts[p].code = 0 := by
  unfold xd3 at hcode
  split at hcode
  .omega
  .exact hcode
 unfold xbh
 split
 .unfold xmq
  split
  .exact .inl rfl
  .rename_i i hi
   have hlt : c.at_.toNat < S.parts[p].code.length := (List.getElem?_eq_some_iff.1 hi).1
   have hmem : i ∈ S.parts[p].code := List.mem_of_getElem? hi
   have hck : i.chk = 0 := by
    have := xc3 hfe _ hlt
    rw [(List.getElem?_eq_some_iff.1 hi).2] at this
    exact this
   obtain ⟨hop, ⟨ha0, ha1⟩, ⟨hb0, hb1⟩, hj, hch⟩ := x4q (op := i.op) (a := i.a) (b := i.b) (n := i.n) hck
   cases hd : doC i inn xs c xa0 with
   | none => exact .inl rfl
   | some r =>
    obtain ⟨c', ys, x'⟩ := r
    rcases xsp hd with e | ⟨ho, e⟩ | ⟨ho, e⟩
    .exact .inl e
    .right
     have hn5 := hch (.inl ho)
     have hb := hnb.1 _ (xgy hmem ho hn5.1 hn5.2)
     have hl : i.n.toNat < S.chans.length := by
      unfold xdf at hb
      split at hb
      .simp at hb
      .rename_i y hy; exact (List.getElem?_eq_some_iff.1 hy).1
     subst e
     exact ⟨.inl rfl, hn5.1, by simp only [Option.getD_some]; omega, ha0, ha1, Int.le_refl _, by simp only [Option.getD_some]; omega⟩
    .right
     have hn5 := hch (.inr ho)
     have hb := hnb.2 _ (xgy hmem ho hn5.1 hn5.2)
     have hl : i.n.toNat < S.chans.length := by
      unfold xdg at hb
      split at hb
      .simp at hb
      .rename_i y hy; exact (List.getElem?_eq_some_iff.1 hy).1
     subst e
     exact ⟨.inr rfl, hn5.1, by simp only [Option.getD_some]; omega, ha0, ha1, hb0, hb1⟩
 .exact .inl rfl
def xcp (S : SysD) (D : WldD) : WldD :=
 match S.parts[(xpp S D.tick).toNat]?, D.cells[(xpp S D.tick).toNat]? with
 | some P, some d =>
  if (xbh P.code P.inn d.out d.c).2.2.k = 0 then ⟨D.tick + 1, D.cells.set (xpp S D.tick).toNat ⟨(xbh P.code P.inn d.out d.c).1, (xbh P.code P.inn d.out d.c).2.1⟩, D.lines⟩
  else match S.chans[(xbh P.code P.inn d.out d.c).2.2.ch.toNat]?, D.lines[(xbh P.code P.inn d.out d.c).2.2.ch.toNat]? with
   | some ch, some ln => ⟨D.tick + 1, D.cells.set (xpp S D.tick).toNat ⟨(xbh P.code P.inn d.out d.c).1.replied (xbh P.code P.inn d.out d.c).2.2.k (xbh P.code P.inn d.out d.c).2.2.reg (xbh P.code P.inn d.out d.c).2.2.flag ch.kd (xej ch.kd ln (xbh P.code P.inn d.out d.c).2.2).2.1 (xej ch.kd ln (xbh P.code P.inn d.out d.c).2.2).2.2, (xbh P.code P.inn d.out d.c).2.1⟩, D.lines.set (xbh P.code P.inn d.out d.c).2.2.ch.toNat (xej ch.kd ln (xbh P.code P.inn d.out d.c).2.2).1⟩
   | _, _ => D
 | _, _ => D
structure Nx (X W : World) (ov : Option Value) (g8 g9 : Option Nat) (out : List Int) : Prop where
 d : Below X.heap.size X W
 o : ∀ v, ov = some v -> W.ownsRow X.heap.size 3 1 v out.length (xar out)
 g : ∀ g, g8 = some g -> Rw W g 77 (xc6.cs (.slice none 0 0)) /\ X.heap.size <= g /\ ∀ v, ov = some v -> v.ownBlock ≠ some g
 h : ∀ g, g9 = some g -> Rw W g 167 xa0.cs /\ X.heap.size <= g /\ ∀ v, ov = some v -> v.ownBlock ≠ some g
 ne : ∀ g g', g8 = some g -> g9 = some g' -> g ≠ g'
section
variable {X W W' : World} {o : Option Value} {g8 g9 : Option Nat} {out : List Int}
theorem Nx.begin (X : World) (out : List Int) : Nx X X.drew none none none out := ⟨(Below.refl _ _).drew, by simp, by simp, by simp, by simp⟩
theorem Nx.up (h : Nx X W o g8 g9 out) (hb : Below W.heap.size W W') : Nx X W' o g8 g9 out where
 d := h.d.trans (hb.mono h.d.size)
 o := fun v q => xde (h.o v q) hb (xbc (h.o v q))
 g := fun g q => ⟨(h.g g q).1.up hb (h.g g q).1.lt, (h.g g q).2⟩
 h := fun g q => ⟨(h.h g q).1.up hb (h.h g q).1.lt, (h.h g q).2⟩
 ne := h.ne
theorem Nx.eight (h : Nx X W o none g9 out) {g : Nat} (hg : g = W.heap.size) : Nx X (W.alloc (.cells (xc6.cs (.slice none 0 0)) 77)) o (some g) g9 out :=
 have k := h.up ((Below.refl _ _).alloc (Nat.le_refl _) (.cells (xc6.cs (.slice none 0 0)) 77))
 ⟨k.d, k.o, fun g' q => by
  injection q with q
  subst q
  exact ⟨Rw.new _ _ _ hg, by rw [hg]; exact h.d.size, fun v q e => by have := xbc (h.o v q) _ e; omega⟩, k.h, fun a b q q' => by
  injection q with q
  have := (h.h b q').1.lt
  omega⟩
theorem Nx.nine (h : Nx X W o g8 none out) {g : Nat} (hg : g = W.heap.size) : Nx X (W.alloc (.cells xa0.cs 167)) o g8 (some g) out :=
 have k := h.up ((Below.refl _ _).alloc (Nat.le_refl _) (.cells xa0.cs 167))
 ⟨k.d, k.o, k.g, fun g' q => by
  injection q with q
  subst q
  exact ⟨Rw.new _ _ _ hg, by rw [hg]; exact h.d.size, fun v q e => by have := xbc (h.o v q) _ e; omega⟩, fun a b q q' => by
  injection q' with q'
  have := (h.g a q).1.lt
  omega⟩
theorem Nx.call (h : Nx X W none g8 g9 out) {v : Value} (ho : W'.ownsRow W.heap.size 3 1 v out.length (xar out)) (hb : Below W.heap.size W W') : Nx X W' (some v) g8 g9 out :=
 have k := h.up hb
 have hv : ∀ g, v.ownBlock = some g -> W.heap.size <= g := xab ho
 ⟨k.d, fun v' q => by injection q with q; subst q; exact xau ho h.d.size, fun g q => ⟨(k.g g q).1, (k.g g q).2.1, fun v' q' e => by injection q' with q'; subst q'; have := hv g e; have := (h.g g q).1.lt; omega⟩,
  fun g q => ⟨(k.h g q).1, (k.h g q).2.1, fun v' q' e => by injection q' with q'; subst q'; have := hv g e; have := (h.h g q).1.lt; omega⟩, h.ne⟩
structure Nd (X W : World) (g8 g9 : Nat) (c : Cel) (v : Value) (x : Wnt) (out : List Int) : Prop where
 d : Below X.heap.size X W
 r8 : Rw W g8 77 (c.cs v)
 r9 : Rw W g9 167 x.cs
 s : Sl W 1 v out.length (xar out)
 n : ∀ b, v.ownBlock = some b -> X.heap.size <= b /\ b < W.heap.size /\ b ≠ g8 /\ b ≠ g9
 n8 : X.heap.size <= g8
 n9 : X.heap.size <= g9
 ne : g8 ≠ g9
theorem Nx.done {a b : Nat} (h : Nx X W (some v) (some a) (some b) out) (c : Cel) (x : Wnt) : Nd X ((W.setRow a (c.cs v)).setRow b x.cs) a b c v x out := by
 have hne := h.ne a b rfl rfl
 obtain ⟨ra, na, ea⟩ := h.g a rfl
 obtain ⟨rb, nb, eb⟩ := h.h b rfl
 have ho := h.o v rfl
 refine ⟨xaa (xaa h.d na _) nb _, (ra.row _).row_other _ hne, Rw.row (rb.row_other _ (Ne.symm hne)) _, ((xa7 ho).row _ (ea v rfl)).row _ (eb v rfl), fun k e => ⟨xab ho k e, by simpa using xbc ho k e, fun e' => ea v rfl (e' ▸ e), fun e' => eb v rfl (e' ▸ e)⟩, na, nb, hne⟩
end
section
variable {B G : Nat} {w : World} {vc vl : Value} {cs : List CelD} {ls : List (List Int)}
theorem xfo {size : Nat} {n : Nat} {xs : List Value} (h : Sl w size v n xs) {g : Nat} (o : Nat) (us : List Value) (hs : (w.setCells g o us).heap.size = w.heap.size) (hne : v.ownBlock ≠ some g) : Sl (w.setCells g o us) size v n xs := by
 obtain ⟨h1, ao, cap, rfl, h3, h4⟩ := h
 refine ⟨h1, ao, cap, rfl, h3, fun hn => ?_⟩
 obtain ⟨b, off, rfl, hlt, hc⟩ := h4 hn
 refine ⟨b, off, rfl, by rw [hs]; exact hlt, fun j u hj => ?_⟩
 rw [World.cell?_setCells_out g us o w ⟨b, off + j, none⟩ (fun e _ => absurd (congrArg some e) hne)]
 exact hc j u hj
theorem xhz : ∀ (us : List Value) (w : World) (g o : Nat), (w.setCells g o us).heap.size = w.heap.size
 | [], _, _, _ => rfl
 | u :: r, w, g, o => by
  rw [World.setCells, xhz r _ g (o + 1)]
  exact xba ..
theorem xfs : ∀ (us : List Value) {w : World} {g : Nat} (o : Nat) {t : TypeId} {cs : Array Value}, Rw w g t cs -> ∃ cs', Rw (w.setCells g o us) g t cs'
 | [], _, _, _, _, cs, h => ⟨cs, h⟩
 | u :: r, w, g, o, t, cs, h => by
  rw [World.setCells]
  exact xfs r (o + 1) (h.set o u)
def NB (B G : Nat) (o : Value) : Prop := ∀ b, o.ownBlock = some b -> B <= b /\ b ≠ G
def In2 (B G : Nat) (vc o : Value) : Prop := ∀ b, o.ownBlock = some b -> (B <= b /\ b ≠ G) /\ vc.ownBlock ≠ some b
structure WldN (B G : Nat) (w : World) (vc vl : Value) (cs : List CelD) (ls : List (List Int)) : Prop where
 c : ∃ ps : List (Cel × Value), ps.length = cs.length /\ Sl w 16 vc cs.length (xbe xml ps) /\ ∀ k (hk : k < cs.length) (hk' : k < ps.length), ps[k].1 = cs[k].c /\ Sl w 1 ps[k].2 cs[k].out.length (xar cs[k].out) /\ In2 B G vc ps[k].2
 l : ∃ vs : List Value, vs.length = ls.length /\ Sl w 1 vl ls.length vs /\ ∀ k (hk : k < ls.length) (hk' : k < vs.length), Sl w 1 vs[k] ls[k].length (xar ls[k]) /\ In2 B G vc vs[k]
 bc : NB B G vc
 bl : In2 B G vc vl
 fz : ∀ g, vc.ownBlock = some g -> ∃ cur, Rw w g 77 cur
theorem WldN.wld (h : WldN B G w vc vl D.cells D.lines) : Wld w vc vl D := by
 obtain ⟨⟨ps, p1, p2, p3⟩, ⟨vs, q1, q2, q3⟩, _, _, _⟩ := h
 exact ⟨⟨ps, p1, p2, fun k hk hk' => ⟨(p3 k hk hk').1, (p3 k hk hk').2.1⟩⟩, ⟨vs, q1, q2, fun k hk hk' => (q3 k hk hk').1⟩⟩
theorem NB.ne (h : NB B G o) {x : Nat} (hx : x < B \/ x = G) : o.ownBlock ≠ some x := fun e => by
 have := h x e
 omega
theorem In2.ne (h : In2 B G vc o) {x : Nat} (hx : x < B \/ x = G) : o.ownBlock ≠ some x := fun e => by
 have := (h x e).1
 omega
theorem WldN.set (h : WldN B G w vc vl cs ls) {x : Nat} (hx : x < B \/ x = G) (i : Nat) (u : Value) : WldN B G (w.setCell ⟨x, i, none⟩ u) vc vl cs ls := by
 obtain ⟨⟨ps, p1, p2, p3⟩, ⟨vs, q1, q2, q3⟩, bc, bl, fz⟩ := h
 exact ⟨⟨ps, p1, p2.set u (bc.ne hx), fun k hk hk' => ⟨(p3 k hk hk').1, (p3 k hk hk').2.1.set u ((p3 k hk hk').2.2.ne hx), (p3 k hk hk').2.2⟩⟩, ⟨vs, q1, q2.set u (bl.ne hx), fun k hk hk' => ⟨(q3 k hk hk').1.set u ((q3 k hk hk').2.ne hx), (q3 k hk hk').2⟩⟩, bc, bl, fun g e => let ⟨c, hc⟩ := fz g e; ⟨c, hc.set_other _ (fun e' => bc.ne hx (e.trans (congrArg some e')))⟩⟩
theorem WldN.row (h : WldN B G w vc vl cs ls) {x : Nat} (hx : x < B \/ x = G) (u : Array Value) : WldN B G (w.setRow x u) vc vl cs ls := by
 obtain ⟨⟨ps, p1, p2, p3⟩, ⟨vs, q1, q2, q3⟩, bc, bl, fz⟩ := h
 exact ⟨⟨ps, p1, p2.row u (bc.ne hx), fun k hk hk' => ⟨(p3 k hk hk').1, (p3 k hk hk').2.1.row u ((p3 k hk hk').2.2.ne hx), (p3 k hk hk').2.2⟩⟩, ⟨vs, q1, q2.row u (bl.ne hx), fun k hk hk' => ⟨(q3 k hk hk').1.row u ((q3 k hk hk').2.ne hx), (q3 k hk hk').2⟩⟩, bc, bl, fun g e => let ⟨c, hc⟩ := fz g e; ⟨c, hc.row_other _ (fun e' => bc.ne hx (e' ▸ e))⟩⟩
structure NewP (B G : Nat) (w : World) (vc vl : Value) (cs : List CelD) (ls : List (List Int)) : Prop where
 c : ∃ ps : List (Cel × Value), ps.length = cs.length /\ w.ownsRow B 77 16 vc cs.length (xbe xml ps) /\ ∀ k (hk : k < cs.length) (hk' : k < ps.length), ps[k].1 = cs[k].c /\ Sl w 1 ps[k].2 cs[k].out.length (xar cs[k].out) /\ In2 B G vc ps[k].2
 l : ∃ vs : List Value, vs.length = ls.length /\ Sl w 1 vl ls.length vs /\ ∀ k (hk : k < ls.length) (hk' : k < vs.length), Sl w 1 vs[k] ls[k].length (xar ls[k]) /\ In2 B G vc vs[k]
 bl : In2 B G vc vl
theorem In.in2 (h : In B G w vc vl o) : In2 B G vc o := fun b e => ⟨(h b e).1, (h b e).2.2.1⟩
theorem NewV.newP (h : NewV B G w vc vl cs ls) (gl : vl.ownBlock ≠ some G) : NewP B G w vc vl cs ls := by
 obtain ⟨⟨ps, p1, p2, p3⟩, ⟨vs, q1, q2, q3⟩, a⟩ := h
 exact ⟨⟨ps, p1, p2, fun k hk hk' => ⟨(p3 k hk hk').1, (p3 k hk hk').2.1, (p3 k hk hk').2.2.in2⟩⟩, ⟨vs, q1, xa7 q2, fun k hk hk' => ⟨(q3 k hk hk').1, (q3 k hk hk').2.in2⟩⟩, fun b e => ⟨⟨xab q2 b e, fun e' => gl (e' ▸ e)⟩, fun e' => a b e' e⟩⟩
theorem NewP.putC (h : NewP B G w vc vl cs ls) (gc : vc.ownBlock ≠ some G) {pn : Nat} (hp : pn < cs.length) (d : CelD) (o : Value) (ho : Sl w 1 o d.out.length (xar d.out)) (hi : In2 B G vc o) :
  ∃ g cap, vc = .slice (some ⟨g, 0, none⟩) cs.length cap /\ B <= g /\ g < w.heap.size /\ cs.length <= cap /\ w.there g (pn * 16) 16 /\ WldN B G (w.setCells g (pn * 16) (d.c.cs o).toList) vc vl (cs.set pn d) ls := by
 obtain ⟨⟨ps, p1, p2, p3⟩, ⟨vs, q1, q2, q3⟩, a⟩ := h
 obtain ⟨hlen, hor⟩ := p2
 have p2' : w.ownsRow B 77 16 vc cs.length (xbe xml ps) := ⟨hlen, hor⟩
 rcases hor with ⟨-, h0⟩ | ⟨g, cap, cur, rfl, hg, hh, hcap, hmax, hsz, htk⟩
 .omega
 have hgl := xbc p2' g rfl
 have hcs : (d.c.cs o).toList.length = 16 := rfl
 have hcl : xml (d.c, o) = (d.c.cs o).toList := rfl
 generalize (d.c.cs o).toList = L at hcs hcl ⊢
 have hs := xhz L w g (pn * 16)
 have hth : w.there g (pn * 16) 16 := fun j hj => by
  refine ⟨?_, frozen_of_row w g _ cur _ hh⟩
  rw [cell_of_row w g _ cur _ _ hh, Array.getElem?_eq_getElem (by rw [hsz]; have : (pn + 1) * 16 <= cap * 16 := Nat.mul_le_mul_right 16 om; omega)]
  rfl
 refine ⟨g, cap, rfl, hg, hgl, hcap, hth, ⟨ps.set pn (d.c, o), by simp [p1], ?_, fun k hk hk' => ?_⟩, ⟨vs, q1, xfo q2 _ _ hs (fun e => (a g e).2 rfl), fun k hk hk' => ⟨xfo (q3 k hk hk').1 _ _ hs (fun e => ((q3 k hk hk').2 g e).2 rfl), (q3 k hk hk').2⟩⟩, fun b e => ⟨xab p2' b e, fun e' => gc (e' ▸ e)⟩, a, fun g' e => by simp [Value.ownBlock] at e; subst e; exact xfs L _ hh⟩
 .have hsl := xa7 p2'
  refine ⟨by rw [xgp xfl]; simp [p1], some ⟨g, 0, none⟩, cap, by simp, by simpa using hcap, fun hn => ⟨g, 0, rfl, by rw [hs]; exact hgl, fun j u hj => ?_⟩⟩
  have hjl : j < ps.length * 16 := by
   have := (List.getElem?_eq_some_iff.1 hj).1
   rw [xgp xfl] at this
   simpa using this
  have hk : j / 16 < ps.length := by omega
  have hr : j % 16 < 16 := by omega
  have hjk : j = j / 16 * 16 + j % 16 := by omega
  rw [hjk, xcn xfl _ (j / 16) (j % 16) (by simpa using hk) hr] at hj
  rw [Nat.zero_add]
  by_cases he : pn = j / 16
  .have e1 : (ps.set pn (d.c, o))[j / 16]'(by simpa using hk) = (d.c, o) := by simp [he]
   rw [e1, hcl] at hj
   have := World.cell?_setCells_in g L (pn * 16) w (fun i hi' => (hth i om).1) (j % 16) om
   rw [List.getElem?_eq_getElem om] at hj
   rw [<- he] at hjk
   rw [hjk, this]
   exact hj
  .have e1 : (ps.set pn (d.c, o))[j / 16]'(by simpa using hk) = ps[j / 16] := List.getElem_set_ne om _
   rw [e1, <- xcn xfl ps (j / 16) (j % 16) hk hr, <- hjk] at hj
   rw [World.cell?_setCells_out g L (pn * 16) w ⟨g, j, none⟩ (fun _ _ => by
    rw [hcs]
    rcases Nat.lt_or_ge (j / 16) pn with h1 | h1
    .left; show j < pn * 16; omega
    .right; show pn * 16 + 16 <= j; omega)]
   obtain ⟨b, off, cp, e, _, _, hc⟩ := hsl.open om
   injection e with e _ _
   injection e with e
   injection e with e e2
   subst e e2
   have := hc j u hj
   simpa using this
 .have hk2 : k < cs.length := by simpa using hk
  have hk2' : k < ps.length := by omega
  by_cases he : pn = k
  .subst he
   simp only [List.getElem_set_self]
   exact ⟨trivial, xfo ho _ _ hs (fun e => (hi g e).2 rfl), hi⟩
  .simp only [List.getElem_set_ne he]
   exact ⟨(p3 k hk2 hk2').1, xfo (p3 k hk2 hk2').2.1 _ _ hs (fun e => ((p3 k hk2 hk2').2.2 g e).2 rfl), (p3 k hk2 hk2').2.2⟩
theorem NewV.putL (h : NewV B G w vc vl cs ls) {kn : Nat} (hk : kn < ls.length) (d : List Int) (o : Value) (ho : Sl w 1 o d.length (xar d)) (hi : In2 B G vc o) (hi2 : ∀ b, o.ownBlock = some b -> vl.ownBlock ≠ some b) (gl : vl.ownBlock ≠ some G) :
  ∃ g cap, vl = .slice (some ⟨g, 0, none⟩) ls.length cap /\ B <= g /\ g < w.heap.size /\ ls.length <= cap /\ (∃ u, w.cell? ⟨g, kn, none⟩ = some u) /\ w.frozen? ⟨g, kn, none⟩ = false /\ NewP B G (w.setCell ⟨g, kn, none⟩ o) vc vl cs (ls.set kn d) := by
 obtain ⟨⟨ps, p1, p2, p3⟩, ⟨vs, q1, q2, q3⟩, a⟩ := h
 obtain ⟨hlen, hor⟩ := q2
 have q2' : w.ownsRow B 171 1 vl ls.length vs := ⟨hlen, hor⟩
 rcases hor with ⟨-, h0⟩ | ⟨g, cap, cur, rfl, hg, hh, hcap, hmax, hsz, htk⟩
 .omega
 have hgl := xbc q2' g rfl
 have hs : (w.setCell ⟨g, kn, none⟩ o).heap.size = w.heap.size := xba ..
 have hne : ∀ x, In B G w vc (.slice (some ⟨g, 0, none⟩) ls.length cap) x -> x.ownBlock ≠ some g := fun x hx e => (hx g e).2.2.2 rfl
 refine ⟨g, cap, rfl, hg, hgl, hcap, ?_, frozen_of_row w g _ cur _ hh, ⟨ps, p1, xa2 (a := ⟨g, kn, none⟩) p2 o (fun e => a g e rfl), fun k hk hk' => ⟨(p3 k hk hk').1, (p3 k hk hk').2.1.set o (hne _ (p3 k hk hk').2.2), (p3 k hk hk').2.2.in2⟩⟩, ⟨vs.set kn o, by simp [q1], ?_, fun k hk2 hk' => ?_⟩, fun b e => ⟨⟨xab q2' b e, fun e' => gl (e' ▸ e)⟩, fun e' => a b e' e⟩⟩
 .rw [cell_of_row w g _ cur _ _ hh]
  exact ⟨_, Array.getElem?_eq_getElem om⟩
 .refine xa7 (base := B) (e := 171) ⟨by simpa using hlen, .inr ⟨g, cap, cur.setIfInBounds kn o, by simp, hg, heap_setCell_same w g kn cur _ o hh, by simpa using hcap, hmax, by simpa using hsz, ?_⟩⟩
  rw [Array.toList_setIfInBounds, List.length_set, List.take_set, htk]
 .have hk3 : k < ls.length := by simpa using hk2
  have hk3' : k < vs.length := by omega
  by_cases he : kn = k
  .subst he
   simp only [List.getElem_set_self]
   exact ⟨ho.set o (fun e => hi2 g e rfl), hi⟩
  .simp only [List.getElem_set_ne he]
   exact ⟨(q3 k hk3 hk3').1.set o (hne _ (q3 k hk3 hk3').2), (q3 k hk3 hk3').2.in2⟩
end
def NF (B : Nat) (v : Value) : Prop := ∀ b, v.ownBlock = some b -> B <= b
def NS (B : Nat) (vc o : Value) : Prop := ∀ b, o.ownBlock = some b -> B <= b /\ vc.ownBlock ≠ some b
structure WldF (B : Nat) (w : World) (vc vl : Value) (D : WldD) : Prop where
 c : ∃ ps : List (Cel × Value), ps.length = D.cells.length /\ Sl w 16 vc D.cells.length (xbe xml ps) /\ ∀ k (hk : k < D.cells.length) (hk' : k < ps.length), ps[k].1 = D.cells[k].c /\ Sl w 1 ps[k].2 D.cells[k].out.length (xar D.cells[k].out) /\ NS B vc ps[k].2
 l : ∃ vs : List Value, vs.length = D.lines.length /\ Sl w 1 vl D.lines.length vs /\ ∀ k (hk : k < D.lines.length) (hk' : k < vs.length), Sl w 1 vs[k] D.lines[k].length (xar D.lines[k]) /\ NS B vc vs[k]
 bc : NF B vc
 bl : NS B vc vl
 fz : ∀ g, vc.ownBlock = some g -> ∃ cur, Rw w g 77 cur
theorem WldF.wld (h : WldF B w vc vl D) : Wld w vc vl D := by
 obtain ⟨⟨ps, p1, p2, p3⟩, ⟨vs, q1, q2, q3⟩, _, _, _⟩ := h
 exact ⟨⟨ps, p1, p2, fun k hk hk' => ⟨(p3 k hk hk').1, (p3 k hk hk').2.1⟩⟩, ⟨vs, q1, q2, fun k hk hk' => (q3 k hk hk').1⟩⟩
theorem NF.ne (h : NF B o) {x : Nat} (hx : x < B) : o.ownBlock ≠ some x := fun e => by
 have := h x e
 omega
theorem NS.ne (h : NS B vc o) {x : Nat} (hx : x < B) : o.ownBlock ≠ some x := fun e => by
 have := (h x e).1
 omega
theorem WldF.row (h : WldF B w vc vl D) {x : Nat} (hx : x < B) (u : Array Value) : WldF B (w.setRow x u) vc vl D := by
 obtain ⟨⟨ps, p1, p2, p3⟩, ⟨vs, q1, q2, q3⟩, bc, bl, fz⟩ := h
 exact ⟨⟨ps, p1, p2.row u (bc.ne hx), fun k hk hk' => ⟨(p3 k hk hk').1, (p3 k hk hk').2.1.row u ((p3 k hk hk').2.2.ne hx), (p3 k hk hk').2.2⟩⟩, ⟨vs, q1, q2.row u (bl.ne hx), fun k hk hk' => ⟨(q3 k hk hk').1.row u ((q3 k hk hk').2.ne hx), (q3 k hk hk').2⟩⟩, bc, bl, fun g e => let ⟨c, hc⟩ := fz g e; ⟨c, hc.row_other _ (fun e' => bc.ne hx (e' ▸ e))⟩⟩
theorem WldF.up {w' : World} (h : WldF B w vc vl D) (hb : Below w.heap.size w w') : WldF B w' vc vl D := by
 obtain ⟨⟨ps, p1, p2, p3⟩, ⟨vs, q1, q2, q3⟩, bc, bl, fz⟩ := h
 exact ⟨⟨ps, p1, p2.up hb, fun k hk hk' => ⟨(p3 k hk hk').1, (p3 k hk hk').2.1.up hb, (p3 k hk hk').2.2⟩⟩, ⟨vs, q1, q2.up hb, fun k hk hk' => ⟨(q3 k hk hk').1.up hb, (q3 k hk hk').2⟩⟩, bc, bl, fun g e => let ⟨c, hc⟩ := fz g e; ⟨c, hc.up hb hc.lt⟩⟩
theorem WldF.low (h : WldF B w vc vl D) (hb : B' <= B) : WldF B' w vc vl D := by
 obtain ⟨⟨ps, p1, p2, p3⟩, ⟨vs, q1, q2, q3⟩, bc, bl, fz⟩ := h
 have low : ∀ o, NS B vc o -> NS B' vc o := fun o h b e => ⟨Nat.le_trans hb (h b e).1, (h b e).2⟩
 exact ⟨⟨ps, p1, p2, fun k hk hk' => ⟨(p3 k hk hk').1, (p3 k hk hk').2.1, low _ (p3 k hk hk').2.2⟩⟩, ⟨vs, q1, q2, fun k hk hk' => ⟨(q3 k hk hk').1, low _ (q3 k hk hk').2⟩⟩, fun b e => Nat.le_trans hb (bc b e), low _ bl, fz⟩
theorem WldN.f {G : Nat} (h : WldN B G w vc vl D.cells D.lines) (hb : B' <= B) : WldF B' w vc vl D := by
 obtain ⟨⟨ps, p1, p2, p3⟩, ⟨vs, q1, q2, q3⟩, bc, bl, fz⟩ := h
 have low : ∀ o, In2 B G vc o -> NS B' vc o := fun o h b e => ⟨Nat.le_trans hb (h b e).1.1, (h b e).2⟩
 exact ⟨⟨ps, p1, p2, fun k hk hk' => ⟨(p3 k hk hk').1, (p3 k hk hk').2.1, low _ (p3 k hk hk').2.2⟩⟩, ⟨vs, q1, q2, fun k hk hk' => ⟨(q3 k hk hk').1, low _ (q3 k hk hk').2⟩⟩, fun b e => Nat.le_trans hb (bc b e).1, low _ bl, fz⟩
theorem xhp (c : Cel) (k v : Int) : (c.setReg k v).at_ = c.at_ := by unfold Cel.setReg; split <;> (try split) <;> (try split) <;> rfl
theorem xah (c : Cel) (k v : Int) : (c.setReg k v).read = c.read := by unfold Cel.setReg; split <;> (try split) <;> (try split) <;> rfl
theorem xay (c : Cel) (k v : Int) : (c.setReg k v).en = c.en := by unfold Cel.setReg; split <;> (try split) <;> (try split) <;> rfl
theorem xal (c : Cel) (k v : Int) : (c.setMem k v).read = c.read := by unfold Cel.setMem; repeat' (first | rfl | split)
theorem xa1 (c : Cel) (k v : Int) : (c.setMem k v).en = c.en := by unfold Cel.setMem; repeat' (first | rfl | split)
theorem xuu (xs : List Int) (n : Int) : (xhn xs n).take xs.length = xs /\ xs.length <= (xhn xs n).length /\ (xs.length <= 16 -> (xhn xs n).length <= 16) := by
 unfold xhn
 split
 .simp; omega
 .simp
structure Goes (inn xs : List Int) (c c' : Cel) (ys : List Int) : Prop where
 at0 : 0 <= c'.at_
 at1 : c'.at_ <= 20
 en0 : 0 <= c'.en
 en1 : c'.en <= 2
 rd0 : c.read <= c'.read
 rd1 : c'.read <= c.read + 1
 rd2 : c'.read <= inn.length
 out : ys.take xs.length = xs
 len : xs.length <= ys.length
 len2 : ys.length <= 16
theorem xuo (c : Cel) (n : Nat) (h : c.read <= n) : c.read <= (xe1 c n).read /\ (xe1 c n).read <= c.read + 1 /\ (xe1 c n).read <= n := by
 unfold xe1
 split
 .simp; omega
 .omega
theorem xa6 (c : Cel) (n : Nat) : (xe1 c n).en = c.en := by unfold xe1; split <;> rfl
theorem x1s (hi : i.chk = 0) {inn xs ys : List Int} {c c' : Cel} {x x' : Wnt} (h : doC i inn xs c x = some (c', ys, x')) (h0 : 0 <= c.at_) (h1 : c.at_ < 20) (h2 : 0 <= c.en) (h3 : c.en <= 2) (h4 : c.read <= inn.length) (h5 : xs.length <= 16) : Goes inn xs c c' ys := by
 obtain ⟨hop, ⟨ha0, ha1⟩, ⟨hb0, hb1⟩, hj, hch⟩ := x4q (op := i.op) (a := i.a) (b := i.b) (n := i.n) hi
 have ht := xuu xs (c.reg i.a)
 have hk := xuo c inn.length h4
 have hx : xs.take xs.length = xs := List.take_of_length_le (Nat.le_refl _)
 unfold doC at h
 by_cases o1 : i.op = 1
 .rw [if_pos o1] at h; injection h with h; injection h with ha h; injection h with hb hc; subst ha hb hc
  exact ⟨by simp only []; omega, by simp only []; omega, by simp only [xay, xa1, xa6]; omega, by simp only [xay, xa1, xa6]; omega, by simp only [xah, xal]; omega, by simp only [xah, xal]; omega, by simp only [xah, xal]; omega, hx, Nat.le_refl _, h5⟩
 rw [if_neg o1] at h
 by_cases o2 : i.op = 2
 .rw [if_pos o2] at h; injection h with h; injection h with ha h; injection h with hb hc; subst ha hb hc
  exact ⟨by simp only []; omega, by simp only []; omega, by simp only [xay, xa1, xa6]; omega, by simp only [xay, xa1, xa6]; omega, by simp only [xah, xal]; omega, by simp only [xah, xal]; omega, by simp only [xah, xal]; omega, hx, Nat.le_refl _, h5⟩
 rw [if_neg o2] at h
 by_cases o3 : i.op = 3
 .rw [if_pos o3] at h; injection h with h; injection h with ha h; injection h with hb hc; subst ha hb hc
  exact ⟨by simp only []; omega, by simp only []; omega, by simp only [xay, xa1, xa6]; omega, by simp only [xay, xa1, xa6]; omega, by simp only [xah, xal]; omega, by simp only [xah, xal]; omega, by simp only [xah, xal]; omega, hx, Nat.le_refl _, h5⟩
 rw [if_neg o3] at h
 by_cases o4 : i.op = 4
 .rw [if_pos o4] at h; injection h with h; injection h with ha h; injection h with hb hc; subst ha hb hc
  exact ⟨by simp only []; omega, by simp only []; omega, by simp only [xay, xa1, xa6]; omega, by simp only [xay, xa1, xa6]; omega, by simp only [xah, xal]; omega, by simp only [xah, xal]; omega, by simp only [xah, xal]; omega, hx, Nat.le_refl _, h5⟩
 rw [if_neg o4] at h
 by_cases o5 : i.op = 5
 .rw [if_pos o5] at h; injection h with h; injection h with ha h; injection h with hb hc; subst ha hb hc
  exact ⟨by simp only []; omega, by simp only []; omega, by simp only [xay, xa1, xa6]; omega, by simp only [xay, xa1, xa6]; omega, by simp only [xah, xal]; omega, by simp only [xah, xal]; omega, by simp only [xah, xal]; omega, hx, Nat.le_refl _, h5⟩
 rw [if_neg o5] at h
 by_cases o6 : i.op = 6
 .rw [if_pos o6] at h
  by_cases hm : c.reg i.b < 0 \/ 8 <= c.reg i.b
  .rw [if_pos hm] at h; cases h
  .rw [if_neg hm] at h; injection h with h; injection h with ha h; injection h with hb hc; subst ha hb hc
   exact ⟨by simp only []; omega, by simp only []; omega, by simp only [xay, xa1, xa6]; omega, by simp only [xay, xa1, xa6]; omega, by simp only [xah, xal]; omega, by simp only [xah, xal]; omega, by simp only [xah, xal]; omega, hx, Nat.le_refl _, h5⟩
 rw [if_neg o6] at h
 by_cases o7 : i.op = 7
 .rw [if_pos o7] at h
  by_cases hm : c.reg i.b < 0 \/ 8 <= c.reg i.b
  .rw [if_pos hm] at h; cases h
  .rw [if_neg hm] at h; injection h with h; injection h with ha h; injection h with hb hc; subst ha hb hc
   exact ⟨by simp only []; omega, by simp only []; omega, by simp only [xay, xa1, xa6]; omega, by simp only [xay, xa1, xa6]; omega, by simp only [xah, xal]; omega, by simp only [xah, xal]; omega, by simp only [xah, xal]; omega, hx, Nat.le_refl _, h5⟩
 rw [if_neg o7] at h
 by_cases o8 : i.op = 8
 .rw [if_pos o8] at h; injection h with h; injection h with ha h; injection h with hb hc; subst ha hb hc
  have := hj (.inl o8)
  exact ⟨by simp only []; omega, by simp only []; omega, by simp only [xay, xa1, xa6]; omega, by simp only [xay, xa1, xa6]; omega, by simp only [xah, xal]; omega, by simp only [xah, xal]; omega, by simp only [xah, xal]; omega, hx, Nat.le_refl _, h5⟩
 rw [if_neg o8] at h
 by_cases o9 : i.op = 9
 .rw [if_pos o9] at h; injection h with h; injection h with ha h; injection h with hb hc; subst ha hb hc
  have := hj (.inr o9)
  by_cases hz : c.reg i.a = 0
  .exact ⟨by simp only [hz, if_true]; omega, by simp only [hz, if_true]; omega, by simp only []; omega, by simp only []; omega, by simp only []; omega, by simp only []; omega, by simp only []; omega, hx, Nat.le_refl _, h5⟩
  .exact ⟨by simp only [hz, if_false]; omega, by simp only [hz, if_false]; omega, by simp only []; omega, by simp only []; omega, by simp only []; omega, by simp only []; omega, by simp only []; omega, hx, Nat.le_refl _, h5⟩
 rw [if_neg o9] at h
 by_cases o10 : i.op = 10
 .rw [if_pos o10] at h; injection h with h; injection h with ha h; injection h with hb hc; subst ha hb hc
  exact ⟨by simp only []; omega, by simp only []; omega, by simp only [xay, xa1, xa6]; omega, by simp only [xay, xa1, xa6]; omega, by simp only [xah, xal]; omega, by simp only [xah, xal]; omega, by simp only [xah, xal]; omega, hx, Nat.le_refl _, h5⟩
 rw [if_neg o10] at h
 by_cases o11 : i.op = 11
 .rw [if_pos o11] at h; injection h with h; injection h with ha h; injection h with hb hc; subst ha hb hc
  exact ⟨by simp only []; omega, by simp only []; omega, by simp only [xay, xa1, xa6]; omega, by simp only [xay, xa1, xa6]; omega, by simp only [xah, xal]; omega, by simp only [xah, xal]; omega, by simp only [xah, xal]; omega, ht.1, ht.2.1, ht.2.2 h5⟩
 rw [if_neg o11] at h
 by_cases o12 : i.op = 12
 .rw [if_pos o12] at h; injection h with h; injection h with ha h; injection h with hb hc; subst ha hb hc
  exact ⟨by simp only []; omega, by simp only []; omega, by simp only [xay, xa1, xa6]; omega, by simp only [xay, xa1, xa6]; omega, by simp only [xah, xal]; omega, by simp only [xah, xal]; omega, by simp only [xah, xal]; omega, hx, Nat.le_refl _, h5⟩
 rw [if_neg o12] at h
 by_cases o13 : i.op = 13
 .rw [if_pos o13] at h; injection h with h; injection h with ha h; injection h with hb hc; subst ha hb hc
  exact ⟨by simp only []; omega, by simp only []; omega, by simp only [xay, xa1, xa6]; omega, by simp only [xay, xa1, xa6]; omega, by simp only [xah, xal]; omega, by simp only [xah, xal]; omega, by simp only [xah, xal]; omega, hx, Nat.le_refl _, h5⟩
 rw [if_neg o13] at h
 by_cases o14 : i.op = 14
 .rw [if_pos o14] at h; injection h with h; injection h with ha h; injection h with hb hc; subst ha hb hc
  exact ⟨by simp only []; omega, by simp only []; omega, by simp only [xay, xa1, xa6]; omega, by simp only [xay, xa1, xa6]; omega, by simp only [xah, xal]; omega, by simp only [xah, xal]; omega, by simp only [xah, xal]; omega, hx, Nat.le_refl _, h5⟩
 rw [if_neg o14] at h
 injection h with h; injection h with ha h; injection h with hb hc; subst ha hb hc
 exact ⟨by simp only []; omega, by simp only []; omega, by simp only [xay, xa1, xa6]; omega, by simp only [xay, xa1, xa6]; omega, by simp only [xah, xal]; omega, by simp only [xah, xal]; omega, by simp only [xah, xal]; omega, hx, Nat.le_refl _, h5⟩
theorem xi8 (hl : xd3 l = 0) {inn xs : List Int} {c : Cel} (hf : c.fine xs.length = true) (hr : c.read <= inn.length) : Goes inn xs c (xbh l inn xs c).1 (xbh l inn xs c).2.1 := by
 obtain ⟨f0, f1, f2, f3, f4, f5, f6⟩ := (xbv c _).1 hf
 have hx : xs.take xs.length = xs := List.take_of_length_le (Nat.le_refl _)
 have hn : l.length <= 20 /\ xdr l = 0 := by
  unfold xd3 at hl
  split at hl
  .omega
  .exact ⟨by omega, hl⟩
 unfold xbh
 split
 .unfold xmq
  split
  .exact ⟨f0, f1, (show (0 : Int) <= 2 by decide), (show (2 : Int) <= 2 by decide), Int.le_refl _, by simp only []; omega, hr, hx, Nat.le_refl _, f6⟩
  .rename_i i hi
   have hlt : c.at_.toNat < l.length := (List.getElem?_eq_some_iff.1 hi).1
   have hck : i.chk = 0 := by
    have := xc3 hn.2 _ hlt
    rw [(List.getElem?_eq_some_iff.1 hi).2] at this
    exact this
   cases h : doC i inn xs c xa0 with
   | none => exact ⟨f0, f1, (show (0 : Int) <= 2 by decide), (show (2 : Int) <= 2 by decide), Int.le_refl _, by simp only [Option.getD_none]; omega, hr, hx, Nat.le_refl _, f6⟩
   | some r =>
    obtain ⟨c', ys, x'⟩ := r
    exact x1s hck h f0 om f4 f5 hr f6
 .exact ⟨f0, f1, f4, f5, Int.le_refl _, by simp only []; omega, hr, hx, Nat.le_refl _, f6⟩
theorem Goes.fine (h : Goes inn xs c c' ys) (h0 : 0 <= c.read) (hi : inn.length <= 12) : c'.fine ys.length = true :=
 (xbv _ _).2 ⟨h.at0, h.at1, by have := h.rd0; omega, by have := h.rd2; omega, h.en0, h.en1, h.len2⟩
end Go.Proofs.YtbkdoohhdkahiaaGreatDoor

/- RestSystems holds for every input, in full: what came of Step, Purge and Of, and was changed, changes nothing that was handed in, nor what comes next. No condition. -/
import Derived.Test.YtehhhiodfcdnmaaGreatDoorR41
import Derived.Test.YtehhhiodfcdnmaaGreatDoorR42
import Derived.Test.YtehhhiodfcdnmaaGreatDoorCards
import Derived.Test.YtehhhiodfcdnmaaGreatDoorTie
namespace Go.Proofs.YtehhhiodfcdnmaaGreatDoor
set_option linter.unusedSimpArgs false
set_option linter.unusedVariables false
set_option maxRecDepth 100000
open Go.ChangeShapes Go.WideShapes Go.ChangeAt Go.RowKit Go.Joins
namespace restSystems
theorem readable : ∀ t ∈ Tryz.f8.params.toList, Tryz.prog.readableRec t = true ∧ t < Tryz.prog.types.size := by
 rw [Tryz.params8]
 intro t ht
 have h : t = 26 ∨ t = 30 ∨ t = 3 := by simpa using ht
 rcases h with rfl | rfl | rfl
 ·exact ⟨by kernel_rfl, of_decide_eq_true kr⟩
 ·exact ⟨by kernel_rfl, of_decide_eq_true kr⟩
 ·exact ⟨by kernel_rfl, of_decide_eq_true kr⟩
theorem contract (H : Type) (enc : TypeId × Value → H) (W : World) (base : Nat) (args : Array Value) (ds gs : List (DataW H)) (before : List MemPlace)
  (hval : ∀ (j : Nat) t v, Tryz.f8.params[j]? = some t → args[j]? = some v → Value.okWide Tryz.prog W .any base t v)
  (hW : DataW.Whole enc Tryz.prog Tryz.f8.params.toList Rows.restSystemsSpec.vars false W args.toList ds gs before) (he : Env W) :
  Calls Tryz.prog 8 args W fun e W' => ∃ v, e = .returned v ∧ Rows.restSystemsSpec.post enc Tryz.prog Tryz.f8 false true false false W args v W' := by
 have hW' := hW
 obtain ⟨p, q, hA0, hV, rfl, hfz, hnd⟩ := hW
 have hA : DataW.TrodAll enc Tryz.prog W 0 (fun _ => true) true Tryz.f8.params.toList args.toList ds p := hA0
 rw [Tryz.params8] at hA hval
 obtain ⟨v0, vs0, d0, ds0, p0, q0, hargs, rfl, rfl, h0, r0⟩ := trodAll_cons hA
 obtain ⟨v1, vs1, d1, ds1, p1, q1, rfl, rfl, rfl, h1, r1⟩ := trodAll_cons r0
 obtain ⟨v2, vs2, d2, ds2, p2, q2, rfl, rfl, rfl, h2, r2⟩ := trodAll_cons r1
 obtain ⟨rfl, rfl, rfl⟩ := trodAll_nil r2
 obtain rfl : args = #[v0, v1, v2] := by cases args; simp_all
 have hzp := nf_left hfz
 have hz0 := nf_left hzp
 have hzr0 := nf_right hzp
 have hz1 := nf_left hzr0
 have hzr1 := nf_right hzr0
 have hz2 := nf_left hzr1
 have hzr2 := nf_right hzr1
 obtain ⟨vp0, vc0, vs0, S0, rfl, hS0, hk0⟩ := open_system (hval 0 26 v0 rfl rfl) h0 hz0
 obtain ⟨wc1, wl1, D1, rfl, hD1, hT1⟩ := open_world (hval 1 30 v1 rfl rfl) h1 hz1
 obtain ⟨n2, rfl, hn2⟩ := open_int (hval 2 3 v2 rfl rfl) h2
 refine (restSystems_any S0 hk0 D1 n2 _ _ _ _ _ W he hS0 hD1).mono fun e W' ⟨he, hg⟩ => ?_
 subst he
 exact ⟨_, rfl, law_post laidOut readable rfl kr Tryz.underlying4 hW' (fun hgs => by subst hgs; exact ⟨rfl, rfl, rfl⟩) hg⟩
def wArgs : Array Value := #[.agg #[.slice none 0 0, .slice none 0 0, .slice none 0 0], .agg #[.int .i64 0, .slice none 0 0, .slice none 0 0], .int .i64 0]
theorem laid_met (os : Os) : laidMet Tryz.prog Rows.restSystemsRow.laid ((laidW Tryz.prog os).forCall (fun _ _ => 0) ⟨#[], wArgs, []⟩).memory :=
 laidMet_of_run' 8 kr kr
theorem reads (os : Os) {H : Type} (enc : TypeId × Value → H) : ∃ places, DataW.whole enc Tryz.prog ((laidW Tryz.prog os).forCall (fun _ _ => 0) ⟨#[], wArgs, []⟩).memory Tryz.f8.params.toList Rows.restSystemsSpec.vars false wArgs.toList 8 = some ([.agg [.nil, .nil, .nil], .agg [.lit (.int .i64 0), .nil, .nil], .lit (.int .i64 0)], [], places) :=
 ⟨[], by kernel_rfl⟩
theorem lifted (os : Os) (started : os.Started) (H : Type) (enc : TypeId × Value → H) (F : Stop.Interp) :
  ReturnsInHanded {} Tryz.checked os 8 .any ((OpenSpec.ofChange Rows.restSystemsSpec).preRow enc Tryz.prog Tryz.f8 Rows.restSystemsRow.domain false Rows.restSystemsRow.laid) (((OpenSpec.ofChange Rows.restSystemsSpec).at F).post enc Tryz.prog Tryz.f8 false true false false) := by
 obtain ⟨places, hx⟩ := reads os enc
 refine returnsInHanded_of_row (C := Tryz.checked) (s := OpenSpec.ofChange Rows.restSystemsSpec) own started kr Tryz.func8
  (witness_row_at (enc := enc) (C := Tryz.checked) false (laidW Tryz.prog os) wArgs rfl kr kr kr
   (OpenSpec.preRow_of_cond 8 hx kr (fun k hk => by cases hk) kr (laid_met os))) ?_
 intro W base args ds gs before hval hW _ hcond _ hL hsh _
 exact contract H enc W base args ds gs before hval hW (env_of (r := []) hL)
theorem said : Rows.RestSystemsSaid :=
 OpenClaim.holds_of_cond 8 Tryz.f8 rfl rfl rfl rfl rfl rfl rfl ⟨rfl, rfl, rfl, rfl, rfl⟩ rfl rfl rfl rfl rfl kr Tryz.func8 kr
  (of_decide_eq_true kr) (by unfold Func.isWrapper; first | (rw [if_pos (by decide +kernel)]; kernel_rfl) | (rw [if_neg (by decide +kernel)]; exact ⟨rfl, rfl⟩))
  (fun os started H enc _ F => by rw [OpenClaim.pre_eq_preRow]; exact lifted os started H enc F)
theorem plain (f : FuncId) (fn : Func) (hf : Tryz.pinned.checked.prog.funcNamed "lychgate/lychgatelaw.RestSystems" = some f) (hfn : Tryz.pinned.checked.prog.funcs[f]? = some fn) :
  false = Tryz.pinned.checked.prog.looks [] ∧ ∀ (j : Nat) t, fn.params[j]? = some t → Tryz.pinned.checked.prog.wantsStandIn t = false := by
 obtain rfl : f = 8 := Option.some.inj ((show Tryz.prog.funcNamed "lychgate/lychgatelaw.RestSystems" = some 8 by kernel_rfl).symm.trans hf) |>.symm
 obtain rfl : fn = Tryz.f8 := (Option.some.inj (Tryz.func8.symm.trans hfn)).symm
 refine ⟨by kernel_rfl, fun j t ht => ?_⟩
 rw [Tryz.params8] at ht
 have ht := Array.mem_of_getElem? ht
 have h : t = 26 ∨ t = 30 ∨ t = 3 := by simpa using ht
 rcases h with rfl | rfl | rfl
 ·exact (show Tryz.prog.wantsStandIn 26 = false by kernel_rfl)
 ·exact (show Tryz.prog.wantsStandIn 30 = false by kernel_rfl)
 ·exact (show Tryz.prog.wantsStandIn 3 = false by kernel_rfl)
end restSystems
theorem restSystems_holds : Rows.RestSystemsCardSaid :=
 Claim7.holds_tied_plain_at .later [] _ _ _ _ restSystems.said (fun _ h => by cases h) kr (fun _ h => by cases h) restSystems_row_tie rfl ⟨rfl, rfl⟩ kr rfl restSystems.plain kr
end Go.Proofs.YtehhhiodfcdnmaaGreatDoor

/- PROVED, where the three Lins that come in hold together at most 1048576 values and letters: Add goes in any order and grouping; Times of a sum is the sum of the Times; what is taken from itself is nothing: chapter 4's P4.6 (spandrellaw4.ExprGroups returns true). Conditions: that bound, and the listed tables as the program's text lays them. -/
import Derived.Test.YtijdjljnppkhmaaDoorNumbers
import Derived.Test.YtijdjljnppkhmaaDoorGroupsA
import Derived.ShutString
import Derived.ChangeOld
import Derived.JoinedCond
namespace Go.Proofs.YtijdjljnppkhmaaDoor.exprGroups
open Go.ChangeShapes Go.WideShapes Go.ChangeAt Go.RowKit
set_option linter.unusedVariables false
set_option maxRecDepth 100000

theorem own : ownKnob Tryd.prog.godebug = none := by kernel_rfl
theorem laidOut : laidOutB Tryd.prog = true := by kernel_rfl

theorem contract (H : Type) (enc : TypeId × Value → H) (W : World) (base : Nat) (args : Array Value) (ds gs : List (DataW H)) (before : List MemPlace)
    (hval : ∀ (j : Nat) t v, Tryd.f8.params[j]? = some t → args[j]? = some v → Value.okWide Tryd.prog W .any base t v)
    (hW : DataW.Whole enc Tryd.prog Tryd.f8.params.toList Rows.exprGroupsSpec.vars false W args.toList ds gs before) (hL : laidMetH Tryd.prog Rows.exprGroupsUptoRow.laid W) (hk : Rows.uptoSmall H (ds ++ gs) = true) :
    Calls Tryd.prog 8 args W fun e W' => ∃ v, e = .returned v ∧ Rows.exprGroupsSpec.post enc Tryd.prog Tryd.f8 false true false false W args v W' := by
  have hW' := hW
  obtain ⟨p, q, hA0, hV, rfl, hfz, hnd⟩ := hW
  have hA : DataW.TrodAll enc Tryd.prog W 0 (fun _ => true) true Tryd.f8.params.toList args.toList ds p := hA0
  rw [Tryd.params8] at hA hval
  obtain ⟨v0, vs0, d0, ds0, p0, q0, hargs, rfl, rfl, h0, r0⟩ := trodAll_cons hA
  obtain ⟨v1, vs1, d1, ds1, p1, q1, rfl, rfl, rfl, h1, r1⟩ := trodAll_cons r0
  obtain ⟨v2, vs2, d2, ds2, p2, q2, rfl, rfl, rfl, h2, r2⟩ := trodAll_cons r1
  obtain ⟨v3, vs3, d3, ds3, p3, q3, rfl, rfl, rfl, h3, r3⟩ := trodAll_cons r2
  obtain ⟨rfl, rfl, rfl⟩ := trodAll_nil r3
  obtain rfl : args = #[v0, v1, v2, v3] := by cases args; simp_all
  obtain ⟨rfl, rfl⟩ := trodVars_none hV
  have k0 := h0
  have k1 := h1
  have k2 := h2
  have lt0 : ∀ x ∈ p0, x.block < W.heap.size := by obtain ⟨m, hm⟩ := k0; exact DataW.trod_lt m _ _ _ hm
  have lt1 : ∀ x ∈ p1, x.block < W.heap.size := by obtain ⟨m, hm⟩ := k1; exact DataW.trod_lt m _ _ _ hm
  have lt2 : ∀ x ∈ p2, x.block < W.heap.size := by obtain ⟨m, hm⟩ := k2; exact DataW.trod_lt m _ _ _ hm
  obtain ⟨a1, c1, xs, e1, L1⟩ := open_lin (hval 0 25 v0 rfl rfl) h0
  obtain ⟨a2, c2, ys, e2, L2⟩ := open_lin (hval 1 25 v1 rfl rfl) h1
  obtain ⟨a3, c3, zs, e3, L3⟩ := open_lin (hval 2 25 v2 rfl rfl) h2
  obtain ⟨n, rfl, rfl, rfl, w3⟩ := open_int Tryd.underlying23 (hval 3 23 v3 rfl rfl) h3
  clear hA0
  simp only [List.append_nil] at hk
  have hsum : Rows.uptoBulkAll [d0, d1, d2, .lit (.int .u32 n)] ≤ 1048576 := of_decide_eq_true hk
  simp only [Rows.uptoBulkAll, Rows.uptoBulk] at hsum
  have f1 := L1.few
  have f2 := L2.few
  have f3 := L3.few
  have hgo := groups_any a1 a2 a3 c1 c2 c3 xs ys zs e1 e2 e3 n W ⟨L1.held, L2.held, L3.held⟩ (pow_of_laid hL) (by omega) (by omega) (by omega)
    (fun t ht => by have := (L1.each t ht).2.2; omega) (fun t ht => by have := (L2.each t ht).2.2; omega) (fun t ht => by have := (L3.each t ht).2.2; omega)
  rw [← L1.is, ← L2.is, ← L3.is] at hgo
  refine hgo.mono fun e W' ⟨bel, he⟩ => ?_
  subst he
  exact ⟨_, rfl, _, _, _, [], _, [], hW', trodAll_mk1 (shut_bool Tryd.underlying4 _), (trodAll_cons_mk (Below.trod laidOut (by kernel_rfl) (of_decide_eq_true (by kernel_rfl)) k0 bel lt0) (trodAll_cons_mk (Below.trod laidOut (by kernel_rfl) (of_decide_eq_true (by kernel_rfl)) k1 bel lt1) (trodAll_cons_mk (Below.trod laidOut (by kernel_rfl) (of_decide_eq_true (by kernel_rfl)) k2 bel lt2) (trodAll_cons_mk (shut_int Tryd.underlying23 w3) trodAll_mk0)))), rfl, bel.frame _, fun h => by cases h⟩

theorem laid_met (os : Os) (args : Array Value) : laidMet Tryd.prog Rows.exprGroupsUptoRow.laid ((laidWorld os).forCall (fun _ _ => 0) ⟨#[], args, []⟩).memory :=
  laidMet_of_run' 8 (by kernel_rfl) (by kernel_rfl)
theorem reads (os : Os) {H : Type} (enc : TypeId × Value → H) : ∃ places, DataW.whole enc Tryd.prog ((laidWorld os).forCall (fun _ _ => 0) ⟨#[], #[linV (.slice none 0 0) 0, linV (.slice none 0 0) 0, linV (.slice none 0 0) 0, .int .u32 0], []⟩).memory Tryd.f8.params.toList Rows.exprGroupsSpec.vars false #[linV (.slice none 0 0) 0, linV (.slice none 0 0) 0, linV (.slice none 0 0) 0, .int .u32 0].toList 8 = some ([.agg [.nil, .lit (.int .u32 0)], .agg [.nil, .lit (.int .u32 0)], .agg [.nil, .lit (.int .u32 0)], .lit (.int .u32 0)], [], places) :=
  ⟨[], by kernel_rfl⟩

theorem lifted (os : Os) (started : os.Started) (H : Type) (enc : TypeId × Value → H) (F : Stop.Interp) :
    ReturnsInHanded {} Tryd.checked os 8 .any ((Rows.OpenSpec.upto Rows.exprGroupsSpec).preRow enc Tryd.prog Tryd.f8 Rows.exprGroupsUptoRow.domain false Rows.exprGroupsUptoRow.laid) (((Rows.OpenSpec.upto Rows.exprGroupsSpec).at F).post enc Tryd.prog Tryd.f8 false true false false) := by
  obtain ⟨places, hx⟩ := reads os enc
  refine returnsInHanded_of_row (C := Tryd.checked) (s := Rows.OpenSpec.upto Rows.exprGroupsSpec) own started (by kernel_rfl) Tryd.func8
    (witness_row_at (enc := enc) (C := Tryd.checked) false (laidWorld os) #[linV (.slice none 0 0) 0, linV (.slice none 0 0) 0, linV (.slice none 0 0) 0, .int .u32 0] rfl (by kernel_rfl) (by kernel_rfl) (by kernel_rfl)
      (OpenSpec.preRow_of_cond 8 hx (by kernel_rfl) (fun k hk => by cases hk; kernel_rfl) (by kernel_rfl) (laid_met os _))) ?_
  intro W base args ds gs before hval hW x1 x2 x3 hL x4 x5
  exact contract H enc W base args ds gs before hval hW hL (by first | exact x1 _ rfl | exact x2 _ rfl | exact x3 _ rfl | exact x4 _ rfl | exact x5 _ rfl)

theorem said : Rows.ExprGroupsUptoSaid :=
  OpenClaim.holds_of_cond 8 Tryd.f8 rfl rfl rfl rfl rfl rfl rfl ⟨rfl, rfl, rfl, rfl, rfl⟩ rfl rfl rfl rfl rfl (by kernel_rfl) Tryd.func8 (by kernel_rfl)
    (of_decide_eq_true (by kernel_rfl)) (by unfold Func.isWrapper; first | (rw [if_pos (by decide +kernel)]; kernel_rfl) | (rw [if_neg (by decide +kernel)]; exact ⟨rfl, rfl⟩))
    (fun os started H enc _ F => by rw [OpenClaim.pre_eq_preRow]; exact lifted os started H enc F)

theorem plain (f : FuncId) (fn : Func) (hf : Tryd.pinned.checked.prog.funcNamed "spandrel/spandrellaw4.ExprGroups" = some f) (hfn : Tryd.pinned.checked.prog.funcs[f]? = some fn) :
    false = Tryd.pinned.checked.prog.looks [] ∧ ∀ (j : Nat) t, fn.params[j]? = some t → Tryd.pinned.checked.prog.wantsStandIn t = false := by
  obtain rfl : f = 8 := Option.some.inj ((show Tryd.prog.funcNamed "spandrel/spandrellaw4.ExprGroups" = some 8 by kernel_rfl).symm.trans hf) |>.symm
  obtain rfl : fn = Tryd.f8 := (Option.some.inj (Tryd.func8.symm.trans hfn)).symm
  refine ⟨by kernel_rfl, fun j t ht => ?_⟩
  rw [Tryd.params8] at ht
  have hm := Array.mem_of_getElem? ht
  have h25 : Tryd.prog.wantsStandIn 25 = false := by kernel_rfl
  have h23 : Tryd.prog.wantsStandIn 23 = false := by kernel_rfl
  simp at hm
  rcases hm with rfl | rfl
  · exact h25
  · exact h23

theorem card : Rows.ExprGroupsUptoCardSaid :=
  Claim7.holds_tied_plain_at .later [] _ _ _ _ said (fun _ h => by cases h) (by kernel_rfl) (fun _ h => by cases h) exprGroupsUpto_row_tie rfl ⟨rfl, rfl⟩ (by kernel_rfl) rfl plain (by kernel_rfl)
end Go.Proofs.YtijdjljnppkhmaaDoor.exprGroups
namespace Go.Proofs.YtijdjljnppkhmaaDoor
theorem exprGroupsUpto_holds : Rows.ExprGroupsUptoCardSaid := exprGroups.card
#print axioms exprGroupsUpto_holds
end Go.Proofs.YtijdjljnppkhmaaDoor

/- PROVED, where what comes in is of bulk at most 1048576: of right Lins the value of a sum is the sum of the values, that of a product the product, in thirty-two bits; where a name has none there is none: chapter 4, P4.3, P4.4, P4.6 (spandrellaw4.ExprValues returns true). Conditions: that bound, and the listed tables as the program's text lays them. -/
import Derived.Test.YtijdjljnppkhmaaDoorNumbers
import Derived.Test.YtijdjljnppkhmaaDoorLinF
import Derived.Test.YtijdjljnppkhmaaDoorValWa
import Derived.Test.YtijdjljnppkhmaaDoorValWb
import Derived.Test.YtijdjljnppkhmaaDoorValWc
import Derived.ShutString
import Derived.ChangeOld
import Derived.ChangeSlices
import Derived.JoinedCond
namespace Go.Proofs.YtijdjljnppkhmaaDoor
open Go.ChangeShapes Go.WideShapes Go.ChangeAt Go.RowKit
set_option linter.unusedVariables false
set_option maxRecDepth 100000

theorem values_any (a1 a2 a3 : Option Addr) (c1 c2 c3 : Nat) (xs ys : List Tm) (vs : List Int) (k1 k2 n : Int) (w : World) (h1 : Held w a1 c1 xs) (h2 : Held w a2 c2 ys) (h3 : IntLies w a3 vs) (hP : Pow w)
    (hl1 : xs.length ≤ 1100000) (hl2 : ys.length ≤ 1100000) (hl3 : vs.length ≤ 1100000) (hn1 : ∀ t ∈ xs, t.name.length ≤ 1100000) (hn2 : ∀ t ∈ ys, t.name.length ≤ 1100000) (hk1 : 0 ≤ k1 ∧ k1 < 4294967296) (hk2 : 0 ≤ k2 ∧ k2 < 4294967296) (hvs : ∀ v ∈ vs, 0 ≤ v ∧ v < 4294967296) :
    Calls Tryd.prog 6 #[linV (.slice a1 xs.length c1) k1, linV (.slice a2 ys.length c2) k2, .int .u32 n, .slice a3 vs.length c3] w fun e w' => Below w.heap.size w w' ∧ e = .returned (.bool true) := by
  cases e1 : rightF none xs with
  | false => exact values_no1 a1 a2 a3 c1 c2 c3 xs ys vs k1 k2 n w h1 h2 h3 hP hl1 hl2 hl3 hn1 hn2 hk1 hk2 hvs _ e1 rfl
  | true =>
    cases e2 : rightF none ys with
    | false => exact values_no2 a1 a2 a3 c1 c2 c3 xs ys vs k1 k2 n w h1 h2 h3 hP hl1 hl2 hl3 hn1 hn2 hk1 hk2 hvs e1 e2
    | true =>
      by_cases hV : vs = []
      · by_cases hX : xs = []
        · exact values_nil0 a1 a2 a3 c1 c2 c3 xs ys vs k1 k2 n w h1 h2 h3 hP hl1 hl2 hl3 hn1 hn2 hk1 hk2 hvs e1 e2 hV hX
        · exact values_nil1 a1 a2 a3 c1 c2 c3 xs ys vs k1 k2 n w h1 h2 h3 hP hl1 hl2 hl3 hn1 hn2 hk1 hk2 hvs e1 e2 hV hX
      · exact values_full a1 a2 a3 c1 c2 c3 xs ys vs k1 k2 n w h1 h2 h3 hP hl1 hl2 hl3 hn1 hn2 hk1 hk2 hvs e1 e2 hV

/-- a list of numbers that came in -/
theorem open_nums {H : Type} {enc : TypeId × Value → H} {W : World} {base : Nat} {v : Value} {d : DataW H} {p : List MemPlace}
    (hval : Value.okWide Tryd.prog W .any base 53 v) (h : DataW.Trod enc Tryd.prog W 0 (fun _ => true) true 53 v d p) :
    ∃ a c, ∃ vs : List Int, v = .slice a vs.length c ∧ IntLies W a vs ∧ (∀ x ∈ vs, 0 ≤ x ∧ x < 4294967296) ∧ vs.length ≤ Rows.uptoBulk d := by
  obtain ⟨a0, len, cap, rfl⟩ := okWide_slice Tryd.underlying53 hval
  obtain ⟨fuel, hf⟩ := h
  rcases open_ints Tryd.underlying53 Tryd.underlying23 cells23 hf with ⟨hc, hx⟩ | ⟨a, len', cap', zs, hc, hb, hlc, hcm, hz, hx, hcell, hw⟩
  · simp only [Value.cells, List.cons.injEq, and_true, Value.slice.injEq] at hc
    obtain ⟨rfl, rfl, rfl⟩ := hc
    exact ⟨none, 0, [], rfl, .inl rfl, fun x hx => (by cases hx), Nat.zero_le _⟩
  · simp only [Value.cells, List.cons.injEq, and_true, Value.slice.injEq] at hc
    obtain ⟨rfl, rfl, rfl⟩ := hc
    simp only [if_true] at hz
    have hlen : (zs.take len).length = len := by rw [List.length_take]; omega
    refine ⟨some a, cap, zs.take len, by rw [hlen], ?_, fun x hx => ?_, ?_⟩
    · by_cases h0 : len = 0
      · subst h0
        exact .inl (List.take_zero)
      · obtain ⟨b, off, spot⟩ := a
        have hc0 := hcell 0 (by omega)
        have hspot : spot = none := by simpa [Addr.add] using World.cell?_spot hc0
        subst hspot
        have hadd : ∀ j, (⟨b, off, none⟩ : Addr).add j = ⟨b, off + j, none⟩ := fun j => by unfold Addr.add; split <;> simp_all
        refine .inr ⟨b, off, rfl, ?_, fun i t ht => ?_⟩
        · apply Decidable.byContradiction
          intro hn
          unfold World.cell? at hc0
          simp [Array.getElem?_eq_none (show W.heap.size ≤ b by omega), hadd] at hc0
        · have hi : i < len := by have := (List.getElem?_eq_some_iff.1 ht).1; omega
          have hci := hcell i (by omega)
          rw [hadd] at hci
          rw [hci]
          rw [List.getElem?_take_of_lt hi] at ht
          rw [List.getD, ht]
          rfl
    · have := bounds_u32 (hw x (List.mem_of_mem_take hx))
      exact ⟨this.1, by omega⟩
    · simp only [Prod.mk.injEq] at hx
      rw [hx.1, hlen]
      have := bulk_all (lits (H := H) .u32 (zs.take len))
      simp only [lits, List.length_map] at this
      rw [hlen] at this
      simp only [Rows.uptoBulk, lits]
      omega
end Go.Proofs.YtijdjljnppkhmaaDoor
namespace Go.Proofs.YtijdjljnppkhmaaDoor.exprValues
open Go.ChangeShapes Go.WideShapes Go.ChangeAt Go.RowKit
set_option linter.unusedVariables false
set_option maxRecDepth 100000

theorem own : ownKnob Tryd.prog.godebug = none := by kernel_rfl
theorem laidOut : laidOutB Tryd.prog = true := by kernel_rfl

theorem contract (H : Type) (enc : TypeId × Value → H) (W : World) (base : Nat) (args : Array Value) (ds gs : List (DataW H)) (before : List MemPlace)
    (hval : ∀ (j : Nat) t v, Tryd.f6.params[j]? = some t → args[j]? = some v → Value.okWide Tryd.prog W .any base t v)
    (hW : DataW.Whole enc Tryd.prog Tryd.f6.params.toList Rows.exprValuesSpec.vars false W args.toList ds gs before) (hL : laidMetH Tryd.prog Rows.exprValuesUptoRow.laid W) (hk : Rows.uptoSmall H (ds ++ gs) = true) :
    Calls Tryd.prog 6 args W fun e W' => ∃ v, e = .returned v ∧ Rows.exprValuesSpec.post enc Tryd.prog Tryd.f6 false true false false W args v W' := by
  have hW' := hW
  obtain ⟨p, q, hA0, hV, rfl, hfz, hnd⟩ := hW
  have hA : DataW.TrodAll enc Tryd.prog W 0 (fun _ => true) true Tryd.f6.params.toList args.toList ds p := hA0
  rw [Tryd.params6] at hA hval
  obtain ⟨v0, vs0, d0, ds0, p0, q0, hargs, rfl, rfl, h0, r0⟩ := trodAll_cons hA
  obtain ⟨v1, vs1, d1, ds1, p1, q1, rfl, rfl, rfl, h1, r1⟩ := trodAll_cons r0
  obtain ⟨v2, vs2, d2, ds2, p2, q2, rfl, rfl, rfl, h2, r2⟩ := trodAll_cons r1
  obtain ⟨v3, vs3, d3, ds3, p3, q3, rfl, rfl, rfl, h3, r3⟩ := trodAll_cons r2
  obtain ⟨rfl, rfl, rfl⟩ := trodAll_nil r3
  obtain rfl : args = #[v0, v1, v2, v3] := by cases args; simp_all
  obtain ⟨rfl, rfl⟩ := trodVars_none hV
  have k0 := h0
  have k1 := h1
  have k3 := h3
  have lt0 : ∀ x ∈ p0, x.block < W.heap.size := by obtain ⟨m, hm⟩ := k0; exact DataW.trod_lt m _ _ _ hm
  have lt1 : ∀ x ∈ p1, x.block < W.heap.size := by obtain ⟨m, hm⟩ := k1; exact DataW.trod_lt m _ _ _ hm
  have lt3 : ∀ x ∈ p3, x.block < W.heap.size := by obtain ⟨m, hm⟩ := k3; exact DataW.trod_lt m _ _ _ hm
  obtain ⟨a1, c1, xs, e1, L1⟩ := open_lin (hval 0 25 v0 rfl rfl) h0
  obtain ⟨a2, c2, ys, e2, L2⟩ := open_lin (hval 1 25 v1 rfl rfl) h1
  obtain ⟨n, rfl, rfl, rfl, w2⟩ := open_int Tryd.underlying23 (hval 2 23 v2 rfl rfl) h2
  obtain ⟨a3, c3, vs, hv3, L3, B3, N3⟩ := open_nums (hval 3 53 v3 rfl rfl) h3
  clear hA0
  simp only [List.append_nil] at hk
  have hsum : Rows.uptoBulkAll [d0, d1, .lit (.int .u32 n), d3] ≤ 1048576 := of_decide_eq_true hk
  simp only [Rows.uptoBulkAll, Rows.uptoBulk] at hsum
  have f1 := L1.few
  have f2 := L2.few
  have hgo := values_any a1 a2 a3 c1 c2 c3 xs ys vs e1 e2 n W L1.held L2.held L3 (pow_of_laid hL) (by omega) (by omega) (by omega)
    (fun t ht => by have := (L1.each t ht).2.2; omega) (fun t ht => by have := (L2.each t ht).2.2; omega) ⟨L1.lo, L1.hi⟩ ⟨L2.lo, L2.hi⟩ B3
  rw [← L1.is, ← L2.is, ← hv3] at hgo
  refine hgo.mono fun e W' ⟨bel, he⟩ => ?_
  subst he
  exact ⟨_, rfl, _, _, _, [], _, [], hW', trodAll_mk1 (shut_bool Tryd.underlying4 _), (trodAll_cons_mk (Below.trod laidOut (by kernel_rfl) (of_decide_eq_true (by kernel_rfl)) k0 bel lt0) (trodAll_cons_mk (Below.trod laidOut (by kernel_rfl) (of_decide_eq_true (by kernel_rfl)) k1 bel lt1) (trodAll_cons_mk (shut_int Tryd.underlying23 w2) (trodAll_cons_mk (Below.trod laidOut (by kernel_rfl) (of_decide_eq_true (by kernel_rfl)) k3 bel lt3) trodAll_mk0)))), rfl, bel.frame _, fun h => by cases h⟩

theorem laid_met (os : Os) (args : Array Value) : laidMet Tryd.prog Rows.exprValuesUptoRow.laid ((laidWorld os).forCall (fun _ _ => 0) ⟨#[], args, []⟩).memory :=
  laidMet_of_run' 8 (by kernel_rfl) (by kernel_rfl)
theorem reads (os : Os) {H : Type} (enc : TypeId × Value → H) : ∃ places, DataW.whole enc Tryd.prog ((laidWorld os).forCall (fun _ _ => 0) ⟨#[], #[linV (.slice none 0 0) 0, linV (.slice none 0 0) 0, .int .u32 0, .slice none 0 0], []⟩).memory Tryd.f6.params.toList Rows.exprValuesSpec.vars false #[linV (.slice none 0 0) 0, linV (.slice none 0 0) 0, .int .u32 0, .slice none 0 0].toList 8 = some ([.agg [.nil, .lit (.int .u32 0)], .agg [.nil, .lit (.int .u32 0)], .lit (.int .u32 0), .nil], [], places) :=
  ⟨[], by kernel_rfl⟩

theorem lifted (os : Os) (started : os.Started) (H : Type) (enc : TypeId × Value → H) (F : Stop.Interp) :
    ReturnsInHanded {} Tryd.checked os 6 .any ((Rows.OpenSpec.upto Rows.exprValuesSpec).preRow enc Tryd.prog Tryd.f6 Rows.exprValuesUptoRow.domain false Rows.exprValuesUptoRow.laid) (((Rows.OpenSpec.upto Rows.exprValuesSpec).at F).post enc Tryd.prog Tryd.f6 false true false false) := by
  obtain ⟨places, hx⟩ := reads os enc
  refine returnsInHanded_of_row (C := Tryd.checked) (s := Rows.OpenSpec.upto Rows.exprValuesSpec) own started (by kernel_rfl) Tryd.func6
    (witness_row_at (enc := enc) (C := Tryd.checked) false (laidWorld os) #[linV (.slice none 0 0) 0, linV (.slice none 0 0) 0, .int .u32 0, .slice none 0 0] rfl (by kernel_rfl) (by kernel_rfl) (by kernel_rfl)
      (OpenSpec.preRow_of_cond 8 hx (by kernel_rfl) (fun k hk => by cases hk; kernel_rfl) (by kernel_rfl) (laid_met os _))) ?_
  intro W base args ds gs before hval hW x1 x2 x3 hL x4 x5
  exact contract H enc W base args ds gs before hval hW hL (by first | exact x1 _ rfl | exact x2 _ rfl | exact x3 _ rfl | exact x4 _ rfl | exact x5 _ rfl)

theorem said : Rows.ExprValuesUptoSaid :=
  OpenClaim.holds_of_cond 6 Tryd.f6 rfl rfl rfl rfl rfl rfl rfl ⟨rfl, rfl, rfl, rfl, rfl⟩ rfl rfl rfl rfl rfl (by kernel_rfl) Tryd.func6 (by kernel_rfl)
    (of_decide_eq_true (by kernel_rfl)) (by unfold Func.isWrapper; first | (rw [if_pos (by decide +kernel)]; kernel_rfl) | (rw [if_neg (by decide +kernel)]; exact ⟨rfl, rfl⟩))
    (fun os started H enc _ F => by rw [OpenClaim.pre_eq_preRow]; exact lifted os started H enc F)

theorem plain (f : FuncId) (fn : Func) (hf : Tryd.pinned.checked.prog.funcNamed "spandrel/spandrellaw4.ExprValues" = some f) (hfn : Tryd.pinned.checked.prog.funcs[f]? = some fn) :
    false = Tryd.pinned.checked.prog.looks [] ∧ ∀ (j : Nat) t, fn.params[j]? = some t → Tryd.pinned.checked.prog.wantsStandIn t = false := by
  obtain rfl : f = 6 := Option.some.inj ((show Tryd.prog.funcNamed "spandrel/spandrellaw4.ExprValues" = some 6 by kernel_rfl).symm.trans hf) |>.symm
  obtain rfl : fn = Tryd.f6 := (Option.some.inj (Tryd.func6.symm.trans hfn)).symm
  refine ⟨by kernel_rfl, fun j t ht => ?_⟩
  rw [Tryd.params6] at ht
  have hm := Array.mem_of_getElem? ht
  have h25 : Tryd.prog.wantsStandIn 25 = false := by kernel_rfl
  have h23 : Tryd.prog.wantsStandIn 23 = false := by kernel_rfl
  have h53 : Tryd.prog.wantsStandIn 53 = false := by kernel_rfl
  simp at hm
  rcases hm with rfl | rfl | rfl
  · exact h25
  · exact h23
  · exact h53

theorem card : Rows.ExprValuesUptoCardSaid :=
  Claim7.holds_tied_plain_at .later [] _ _ _ _ said (fun _ h => by cases h) (by kernel_rfl) (fun _ h => by cases h) exprValuesUpto_row_tie rfl ⟨rfl, rfl⟩ (by kernel_rfl) rfl plain (by kernel_rfl)
end Go.Proofs.YtijdjljnppkhmaaDoor.exprValues
namespace Go.Proofs.YtijdjljnppkhmaaDoor
theorem exprValuesUpto_holds : Rows.ExprValuesUptoCardSaid := exprValues.card
#print axioms exprValuesUpto_holds
end Go.Proofs.YtijdjljnppkhmaaDoor

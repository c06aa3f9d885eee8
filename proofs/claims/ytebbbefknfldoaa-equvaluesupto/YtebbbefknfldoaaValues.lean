/- PROVED, where the equs and the numbers that come in hold together at most 1048576 values and letters: what is solved has none of the names, and its value is that of the expression, where each name has the value of its own: chapter 11's P11.4 (spandrellaw11.EquValues returns true). Condition: that bound alone. -/
import Derived.Test.YtebbbefknfldoaaRows
import Derived.WalkKit
import Derived.ProofKit
import Derived.OpenShut
import Derived.ShutString
import Derived.ChangeOld
import Derived.Below
import Derived.JoinedCond
import Derived.Test.YtebbbefknfldoaaVlW
namespace Go.Proofs.Ytebbbefknfldoaa.equValues
open Go.ChangeShapes Go.WideShapes Go.ChangeAt Go.RowKit
set_option linter.unusedVariables false
theorem own : ownKnob Try.prog.godebug = none := by kernel_rfl
theorem laidOut : laidOutB Try.prog = true := by kernel_rfl
set_option maxRecDepth 100000 in
theorem open_inK {H : Type} {enc : TypeId × Value → H} {W : World} {base : Nat} {v : Value} {d : DataW H} {p : List MemPlace} (hval : Value.okWide Try.prog W .any base 22 v) (h : DataW.Trod enc Try.prog W 0 (fun _ => true) true 22 v d p) (hB : Rows.uptoBulk d ≤ 1048576) :
    ∃ a vc l, v = .slice a l.length vc ∧ EqIn W a l ∧ l.length ≤ vc ∧ InL l ∧ EqSr W a l ∧ (nmsOf l).length ≤ Rows.uptoBulk d ∧ (a = none → vc = 0) := by
  obtain ⟨a, n, c, rfl⟩ := okWide_slice Try.underlying22 hval
  obtain ⟨fuel, hf⟩ := h
  have hnil : a = none → c = 0 := fun ha => by
    rcases Deep.open_slice Try.underlying22 hf with ⟨hc, _⟩ | ⟨a2, len, cap, m, n2, D, Pl, hc, _⟩
    · have h9 : Value.slice a n c = .slice none 0 0 := by simpa [Value.cells] using hc
      injection h9
    · have h9 : Value.slice a n c = .slice (some a2) len cap := by simpa [Value.cells] using hc
      injection h9 with e
      rw [ha] at e; cases e
  obtain ⟨a', vc, l, e, h1, h2, h3, h4, h5, h6, h7⟩ := open_equs hf
  cases e
  refine ⟨_, _, l, rfl, h1, h3, ⟨by omega, fun q hq => ?_, fun q hq => ?_, fun q hq t ht => ?_, fun q hq t ht => ?_, fun q hq => ?_, by omega⟩, h6, h7, hnil⟩ <;> obtain ⟨va, vc2, hc⟩ := h5 q hq
  · have := hc.name; omega
  · have := hc.lin.few; omega
  · have := (hc.lin.each t ht).2.2; omega
  · exact ⟨(hc.lin.each t ht).1, (hc.lin.each t ht).2.1⟩
  · exact ⟨hc.lin.lo, hc.lin.hi⟩
set_option maxRecDepth 100000 in
theorem open_nums {H : Type} {enc : TypeId × Value → H} {W : World} {base : Nat} {v : Value} {d : DataW H} {p : List MemPlace}
    (hval : Value.okWide Try.prog W .any base 45 v) (h : DataW.Trod enc Try.prog W 0 (fun _ => true) true 45 v d p) :
    ∃ a c, ∃ vs : List Int, v = .slice a vs.length c ∧ IntLies W a vs ∧ (∀ x ∈ vs, 0 ≤ x ∧ x < 4294967296) ∧ vs.length ≤ Rows.uptoBulk d := by
  obtain ⟨a0, len, cap, rfl⟩ := okWide_slice Try.underlying45 hval
  obtain ⟨fuel, hf⟩ := h
  rcases open_ints Try.underlying45 Try.underlying27 cells23 hf with ⟨hc, hx⟩ | ⟨a, len', cap', zs, hc, hb, hlc, hcm, hz, hx, hcell, hw⟩
  · simp only [Value.cells, List.cons.injEq, and_true, Value.slice.injEq] at hc
    obtain ⟨rfl, rfl, rfl⟩ := hc
    exact ⟨none, 0, [], rfl, .inl rfl, fun x hx => (by cases hx), Nat.zero_le _⟩
  · simp only [Value.cells, List.cons.injEq, and_true, Value.slice.injEq] at hc
    obtain ⟨rfl, rfl, rfl⟩ := hc
    simp only [if_true] at hz
    have hlen : (zs.take len).length = len := by rw [List.length_take]; omega
    refine ⟨some a, cap, zs.take len, by rw [hlen], ?_, fun x hx => ?_, ?_⟩
    · by_cases h0 : len = 0
      · subst h0
        exact .inl (List.take_zero)
      · obtain ⟨b, off, spot⟩ := a
        have hc0 := hcell 0 (by omega)
        have hspot : spot = none := by simpa [Addr.add] using World.cell?_spot hc0
        subst hspot
        have hadd : ∀ j, (⟨b, off, none⟩ : Addr).add j = ⟨b, off + j, none⟩ := fun j => by unfold Addr.add; split <;> simp_all
        refine .inr ⟨b, off, rfl, ?_, fun i t ht => ?_⟩
        · apply Decidable.byContradiction
          intro hn
          unfold World.cell? at hc0
          simp [Array.getElem?_eq_none (show W.heap.size ≤ b by omega), hadd] at hc0
        · have hi : i < len := by have := (List.getElem?_eq_some_iff.1 ht).1; omega
          have hci := hcell i (by omega)
          rw [hadd] at hci
          rw [hci]
          rw [List.getElem?_take_of_lt hi] at ht
          rw [List.getD, ht]
          rfl
    · have := bounds_u32 (hw x (List.mem_of_mem_take hx))
      exact ⟨this.1, by omega⟩
    · simp only [Prod.mk.injEq] at hx
      rw [hx.1, hlen]
      have := bulk_all (lits (H := H) .u32 (zs.take len))
      simp only [lits, List.length_map] at this
      rw [hlen] at this
      simp only [Rows.uptoBulk, lits]
      omega
set_option maxRecDepth 100000 in
theorem contract (H : Type) (enc : TypeId × Value → H) (W : World) (base : Nat) (args : Array Value) (ds gs : List (DataW H)) (before : List MemPlace)
    (hval : ∀ (j : Nat) t v, Try.f5.params[j]? = some t → args[j]? = some v → Value.okWide Try.prog W .any base t v)
    (hW : DataW.Whole enc Try.prog Try.f5.params.toList Rows.equValuesSpec.vars false W args.toList ds gs before) (hk : Rows.uptoSmall H (ds ++ gs) = true) :
    Calls Try.prog 5 args W fun e W' => ∃ v, e = .returned v ∧ Rows.equValuesSpec.post enc Try.prog Try.f5 false true false false W args v W' := by
  have hW' := hW
  obtain ⟨p, q, hA0, hV, rfl, hfz, hnd⟩ := hW
  have hA : DataW.TrodAll enc Try.prog W 0 (fun _ => true) true Try.f5.params.toList args.toList ds p := hA0
  rw [Try.params5] at hA hval
  obtain ⟨v0, vs0, d0, ds0, p0, q0, hargs, rfl, rfl, h0, r0⟩ := trodAll_cons hA
  obtain ⟨v1, vs1, d1, ds1, p1, q1, rfl, rfl, rfl, h1, r1⟩ := trodAll_cons r0
  obtain ⟨rfl, rfl, rfl⟩ := trodAll_nil r1
  obtain rfl : args = #[v0, v1] := by cases args; simp_all
  obtain ⟨rfl, rfl⟩ := trodVars_none hV
  have k0 := h0
  have lt0 : ∀ x ∈ p0, x.block < W.heap.size := by obtain ⟨m, hm⟩ := k0; exact DataW.trod_lt m _ _ _ hm
  have k1 := h1
  have lt1 : ∀ x ∈ p1, x.block < W.heap.size := by obtain ⟨m, hm⟩ := k1; exact DataW.trod_lt m _ _ _ hm
  clear hA0
  simp only [List.append_nil] at hk
  have hsum : Rows.uptoBulkAll [d0, d1] ≤ 1048576 := of_decide_eq_true hk
  simp only [Rows.uptoBulkAll] at hsum
  obtain ⟨a, vc, l, rfl, hE, hc, hI, hSr, hnm, h0n⟩ := open_inK (hval 0 22 v0 rfl rfl) h0 (by omega)
  obtain ⟨va, vc2, vs, hv1, hVl, hvr, hvb⟩ := open_nums (hval 1 45 v1 rfl rfl) h1
  subst hv1
  refine (vals_any l a vc hI (by omega) vs va vc2 hvr (by omega) W hE hVl).mono fun e W' ⟨he, bel⟩ => ?_
  subst he
  exact ⟨_, rfl, _, _, _, [], _, [], hW', trodAll_mk1 (shut_bool Try.underlying4 _), (trodAll_cons_mk (Below.trod laidOut (by kernel_rfl) (of_decide_eq_true (by kernel_rfl)) k0 bel lt0) (trodAll_cons_mk (Below.trod laidOut (by kernel_rfl) (of_decide_eq_true (by kernel_rfl)) k1 bel lt1) trodAll_mk0)), rfl, bel.frame _, fun h => by cases h⟩
set_option maxRecDepth 100000 in
theorem lifted (os : Os) (started : os.Started) (H : Type) (enc : TypeId × Value → H) (F : Stop.Interp) :
    ReturnsInHanded {} Try.checked os 5 .any ((Rows.OpenSpec.upto Rows.equValuesSpec).pre6 enc Try.prog Try.f5 Rows.equValuesUptoRow.domain false) (((Rows.OpenSpec.upto Rows.equValuesSpec).at F).post enc Try.prog Try.f5 false true false false) := by
  refine returnsInHanded_of_cond (C := Try.checked) (s := Rows.OpenSpec.upto Rows.equValuesSpec) (k := Rows.uptoSmall) rfl own started (by kernel_rfl) Try.func5
    (OpenSpec.witness (enc := enc) (C := Try.checked) (s := Rows.OpenSpec.upto Rows.equValuesSpec) (k := Rows.uptoSmall) rfl false ⟨#[], #[.slice none 0 0, .slice none 0 0], []⟩ 8 (by kernel_rfl) (by kernel_rfl) (by kernel_rfl)
      (x := ([.nil, .nil], [], [])) (by kernel_rfl) rfl (by kernel_rfl)) ?_
  intro W base args ds gs before hval hW _ hk _
  exact contract H enc W base args ds gs before hval hW hk
theorem proved : Rows.EquValuesUptoSaid :=
  OpenClaim.holds_of_cond 5 Try.f5 rfl rfl rfl rfl rfl rfl rfl ⟨rfl, rfl, rfl, rfl, rfl⟩ rfl rfl rfl rfl rfl (by kernel_rfl) Try.func5 (by kernel_rfl)
    (of_decide_eq_true (by kernel_rfl)) (by unfold Func.isWrapper; first | (rw [if_pos (by decide +kernel)]; kernel_rfl) | (rw [if_neg (by decide +kernel)]; exact ⟨rfl, rfl⟩))
    (fun os started H enc _ F => lifted os started H enc F)
#print axioms proved
end Go.Proofs.Ytebbbefknfldoaa.equValues
namespace Go.Proofs.Ytebbbefknfldoaa
theorem equValuesUpto_holds : Rows.EquValuesUptoSaid := equValues.proved
end Go.Proofs.Ytebbbefknfldoaa

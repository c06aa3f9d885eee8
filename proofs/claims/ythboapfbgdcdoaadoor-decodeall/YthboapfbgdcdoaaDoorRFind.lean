/- The document's find and number of chapter 7. -/
import Derived.Test.YthboapfbgdcdoaaDoorRefF
import Derived.Test.YthboapfbgdcdoaaDoorRefC
import Derived.Test.YthboapfbgdcdoaaDoorDecode
import Derived.Test.YthboapfbgdcdoaaDoorRefK
/- The document's Find, Shape, Spans; Ops' rows. -/
namespace Go.Proofs.YthboapfbgdcdoaaDoor
open Go.ChangeShapes Go.WideShapes Go.ChangeAt Go.RowKit
set_option linter.unusedVariables false
set_option maxRecDepth 100000

theorem refSpans_any (op : Int) (w : World) :
    Calls Tryd.prog 42 #[.int .i64 op] w fun e w' => e = .returned (.bool (spansB (shapeN op))) ∧ Below w.heap.size w w' := by
  generalize hs : shapeN op = s
  by_cases h1 : s = 12
  · subst h1
    go_enter Tryd.func42, Tryd.ntmps42
    go_wp2_with (go_at_call 27; refine (shape_any _ _).mono ?_; rintro e w' ⟨rfl, hbel⟩; rw [hs])
    go_ret
    exact ⟨rfl, hbel⟩
  · have e1 : (s == 12) = false := by simpa using h1
    have hs2 : spansB s = (s == 13) := by simp [spansB, e1]
    rw [hs2]
    go_enter Tryd.func42, Tryd.ntmps42
    go_wp2_with (first | (go_at_call 27; (with_reducible refine (shape_any _ w).mono ?_); rintro e w1 ⟨rfl, hbel⟩; rw [hs]) | (go_at_call 27; refine (shape_any _ _).mono ?_; rintro e w' ⟨rfl, hbel2⟩; rw [hs]))
    go_ret
    exact ⟨rfl, hbel.trans (hbel2.mono hbel.size)⟩

end Go.Proofs.YthboapfbgdcdoaaDoor
/- The document's Check and Size. -/
namespace Go.Proofs.YthboapfbgdcdoaaDoor
open Go.ChangeShapes Go.WideShapes Go.ChangeAt Go.RowKit
set_option linter.unusedVariables false
set_option maxRecDepth 100000

set_option maxHeartbeats 4000000 in
theorem size_any (op f : Int) (s : Nat) (hs : s < 14) (h1 : 1 ≤ s) (hS : shapeN op = (s : Int)) (w : World) (hf : 0 ≤ f ∧ f ≤ 4) (hz : spansB (s : Int) = false → f = 0) :
    Calls Tryd.prog 26 #[.int .i64 op, .int .i64 f] w fun e w' => e = .returned (.int .i64 (sizeAt s + f)) ∧ Below w.heap.size w w' := by
  have hSH := Hid.intro hS
  have hzH := Hid.intro hz
  clear hS hz
  obtain ⟨R, hR⟩ : ∃ R, R = sizeAt s + f := ⟨_, rfl⟩
  rw [← hR]
  have hRH := Hid.intro hR
  clear hR
  rcases lim_cases s hs with rfl | rfl | rfl | rfl | rfl | rfl | rfl | rfl | rfl | rfl | rfl | rfl | rfl | rfl
  · omega
  all_goals
    go_enter Tryd.func26, Tryd.ntmps26
    go_wp2_with (go_at_call 27; refine (shape_any _ _).mono ?_; rintro e w1 ⟨rfl, hb1⟩; rw [hSH.out]; replace hb1 := Hid.intro hb1)
    all_goals first | omega | skip
    all_goals go_ret
    all_goals refine ⟨?_, hb1.out⟩
    all_goals rw [hRH.out]
    all_goals first | (have hzz := hzH.out rfl; subst hzz; rfl) | (refine congrArg (fun z => Ending.returned (Value.int IntKind.i64 z)) ?_; simp only [sizeAt12, sizeAt13])

end Go.Proofs.YthboapfbgdcdoaaDoor
namespace Go.Proofs.YthboapfbgdcdoaaDoor
open Go.ChangeShapes Go.WideShapes Go.ChangeAt Go.RowKit
set_option linter.unusedVariables false
set_option maxRecDepth 100000

/-- what the document's find answers -/
def findV (c : Int) : Value := if begI c < 43 then .tuple #[.int .i64 (opI c), .int .i64 (frmI c)] else .tuple #[.int .i64 0, .int .i64 0]

set_option maxHeartbeats 4000000 in
theorem find7_any (c : Int) (hc0 : 0 ≤ c) (hc1 : c ≤ 255) (w : World) :
    Calls Tryd.prog 25 #[.int .u8 c] w fun e w' => e = .returned (findV c) ∧ Below w.heap.size w w' := by
  obtain ⟨V, hV⟩ : ∃ V, V = findV c := ⟨_, rfl⟩
  rw [← hV]
  have hVH := Hid.intro hV
  clear hV
  go_enter Tryd.func25, Tryd.ntmps25
  go_wp2_with (go_at_call 41; refine (refOps_row _).mono ?_; rintro e w0 ⟨b, rfl, hb, hs, hbel, hrow⟩; replace hrow := Hid.intro hrow; have hb0 := Hid.intro hbel; clear hbel hs hb)
  go_loopw [5] (fun vi wr => ∃ (i : Nat), i ≤ 43 ∧ vi = .int .i64 (i : Int) ∧ Hid (∀ j, j < i → hitB j c = false) ∧ Hid (Below w0.heap.size w0 wr)) (fun vi _ => 43 - (intOf vi).toNat)
  case atStart => exact ⟨0, by omega, rfl, fun j hj => by omega, Below.refl _ _⟩
  case round =>
    obtain ⟨i, hi, rfl, hI, hB⟩ := hrel
    by_cases hlt : i < 43
    · have hby := byte_range i hlt
      have hSp : Hid (spansB (shapeN ((i : Int) + 1)) = spansB (shapeAt i)) := by
        show _ = _
        rw [shapeN, if_pos (by omega), show ((i : Int) + 1 - 1).toNat = i by omega]
      have hhit : Hid (hitB i c = if spansB (shapeAt i) then decide (byteAt i ≤ c) && decide (c ≤ byteAt i + 2) else decide (c = byteAt i)) := rfl
      have hfrm : Hid (formI i c = if spansB (shapeAt i) then 2 ^ (c - byteAt i).toNat else 0) := rfl
      have hval : Hid (hitB i c = true → V = .tuple #[.int .i64 ((i : Int) + 1), .int .i64 (formI i c)]) := fun h => by
        rw [hVH.out, findV, begI_hit hlt h hI.out, if_pos hlt, opI, frmI, begI_hit hlt h hI.out]
      have hnext : Hid (hitB i c = false → ∀ j, j < i + 1 → hitB j c = false) := fun h j hj => by
        by_cases hji : j = i
        · subst hji; exact h
        · exact hI.out j (by omega)
      have hcell : Hid (∀ W, Below w0.heap.size w0 W → W.cell? ⟨b, i * 3 + 1, none⟩ = some (.int .u8 (byteAt i))) := fun W hW => ((hrow.out.below hW hrow.out.lt).op i hlt).2.1
      generalize byteAt i = BY at *
      generalize shapeAt i = SH at *
      cases hsp : spansB SH with
      | false =>
        rw [hsp] at hSp
        have hhit' := hhit.out
        have hfrm' := hfrm.out
        rw [hsp] at hhit' hfrm'
        simp only [Bool.false_eq_true, if_false] at hhit' hfrm'
        by_cases hcb : BY = c
        · have hv := Hid.intro (hval.out (by rw [hhit']; exact decide_eq_true hcb.symm))
          rw [hfrm'] at hv
          subst hcb
          clear hI hhit hfrm hhit' hfrm' hval hnext hsp
          go_wp2_with (go_at_call 42; (with_reducible refine (refSpans_any _ _).mono ?_); rintro e w2 ⟨rfl, hb2⟩; rw [hSp.out]; have hw2 := Hid.intro (chain2 hB.out hb2); clear hb2; have k1 := hcell.out w2 hw2.out)
          all_goals first | omega | skip
          go_ret2
          exact ⟨by rw [hv.out]; rfl, chain2 hb0.out hw2.out⟩
        · have hn := Hid.intro (hnext.out (by rw [hhit']; exact decide_eq_false (fun h => hcb h.symm)))
          have e1 : (BY == c) = false := by simpa using hcb
          clear hI hhit hfrm hhit' hfrm' hval hnext hsp hcb
          go_wp2_with (go_at_call 42; (with_reducible refine (refSpans_any _ _).mono ?_); rintro e w2 ⟨rfl, hb2⟩; rw [hSp.out]; have hw2 := Hid.intro (chain2 hB.out hb2); clear hb2; have k1 := hcell.out w2 hw2.out)
          all_goals first | omega | skip
          go_roundw
          case rel => exact ⟨i + 1, by omega, by go_num, hn, hw2⟩
          case measure => simp [intOf]; omega
      | true =>
        rw [hsp] at hSp
        have hhit' := hhit.out
        have hfrm' := hfrm.out
        rw [hsp] at hhit' hfrm'
        simp only [if_true] at hhit' hfrm'
        have hv := Hid.intro (fun (h : BY ≤ c ∧ c ≤ BY + 2) => hval.out (by rw [hhit', Bool.and_eq_true]; exact ⟨decide_eq_true h.1, decide_eq_true h.2⟩))
        rw [hfrm'] at hv
        have hn : Hid (¬ (BY ≤ c ∧ c ≤ BY + 2) → ∀ j, j < i + 1 → hitB j c = false) := fun hr => hnext.out (by rw [hhit', Bool.and_eq_false_iff]; rcases Classical.not_and_iff_not_or_not.1 hr with h | h; exact .inl (decide_eq_false h); exact .inr (decide_eq_false h))
        clear hI hhit hfrm hhit' hfrm' hval hnext hsp
        go_wp2_with (go_at_call 42; (with_reducible refine (refSpans_any _ _).mono ?_); rintro e w2 ⟨rfl, hb2⟩; rw [hSp.out]; have hw2 := Hid.intro (chain2 hB.out hb2); clear hb2; have k1 := hcell.out w2 hw2.out)
        all_goals first | omega | skip
        go_loopw [6] (fun vk wq => ∃ (k : Nat), k ≤ 3 ∧ vk = .int .i64 (k : Int) ∧ Hid (∀ j : Nat, j < k → c ≠ BY + j) ∧ wq = w2) (fun vk _ => 3 - (intOf vk).toNat)
        case atStart => exact ⟨0, by omega, rfl, fun j hj => by omega, rfl⟩
        case round =>
          obtain ⟨k, hk, rfl, hK, rfl⟩ := hrel
          by_cases hk3 : k < 3
          · have ek : (k : Int) % 256 = k := by omega
            have es : (BY + (k : Int)) % 256 = BY + k := by omega
            by_cases hck : BY + (k : Int) = c
            · have hv2 := hv.out (by omega)
              rw [show (c - BY).toNat = k by omega] at hv2
              have hvH := Hid.intro hv2
              have e1 : (BY + (k : Int) == c) = true := by simpa using hck
              have hp : Hid (wrap64 (2 ^ k) = 2 ^ k) := by
                show _ = _
                rcases (show k = 0 ∨ k = 1 ∨ k = 2 by omega) with rfl | rfl | rfl <;> decide +kernel
              clear hv hv2 hn hK
              clear hck
              go_wp2
              all_goals first | omega | skip
              go_ret2
              refine ⟨?_, chain2 hb0.out hw2.out⟩
              rw [hvH.out]
              first | rfl | (simp [hp.out]; done) | trace_state
            · have e1 : (BY + (k : Int) == c) = false := by simpa using hck
              have hK2 : Hid (∀ j : Nat, j < k + 1 → c ≠ BY + j) := fun j hj => by
                by_cases hjk : j = k
                · subst hjk; exact fun h => hck h.symm
                · exact hK.out j (by omega)
              clear hck hK
              go_wp2
              all_goals first | omega | skip
              go_roundw
              case rel => exact ⟨k + 1, by omega, by go_num, hK2, by trivial⟩
              case measure => simp [intOf]; omega
          · have hn2 := Hid.intro (hn.out (by
              have h0 := hK.out 0 (by omega)
              have h1 := hK.out 1 (by omega)
              have h2 := hK.out 2 (by omega)
              omega))
            clear hn hv hK
            go_wp2
            all_goals first | omega | skip
            go_roundw
            case rel => exact ⟨i + 1, by omega, by go_num, hn2, hw2⟩
            case measure => simp [intOf]; omega
    · obtain rfl : i = 43 := by omega
      have hv : Hid (V = .tuple #[.int .i64 0, .int .i64 0]) := by
        show V = _
        rw [hVH.out, findV, begI_none hI.out, if_neg (by omega)]
      clear hI
      go_wp2
      all_goals first | omega | skip
      go_ret2
      exact ⟨by rw [hv.out]; rfl, chain2 hb0.out hB.out⟩

theorem refnum_any (b off cap m wd k : Nat) (zs : List Int) (w : World) (hm : m = zs.length) (hl : Lies w (some ⟨b, off, none⟩) zs) (hml : zs.length ≤ 100) (hw : wd = 1 ∨ wd = 2 ∨ wd = 4) (hk : k + wd ≤ zs.length) :
    Calls Tryd.prog 28 #[.slice (some ⟨b, off, none⟩) m cap, .int .i64 (k : Int), .int .i64 (wd : Int)] w fun e w' => e = .returned (.int .i32 (sgn (leN ((zs.drop k).take wd)) wd)) ∧ w' = w := by
  subst hm
  obtain ⟨hz, hl2⟩ := hl
  rcases hl2 with rfl | ⟨b', off', ha, hc⟩
  · simp at hk; omega
  cases ha
  have hG := Hid.intro (refGet_ok b off k wd cap zs w hz hc (by unfold maxLen; omega) hw hk)
  unfold partN at hG
  obtain ⟨R, hR⟩ : ∃ R, R = sgn (leN ((zs.drop k).take wd)) wd := ⟨_, rfl⟩
  rw [← hR]
  generalize leN ((zs.drop k).take wd) = NN at *
  have hSg : Hid (∀ W, Calls Tryd.prog 44 #[.int .u32 NN, .int .i64 (wd : Int)] W fun e w' => e = .returned (.int .i32 R) ∧ w' = W) := by
    show ∀ W, _
    rw [hR]
    exact fun W => refSigned_any NN wd W
  clear hR hc hz
  go_enter Tryd.func28, Tryd.ntmps28
  go_wp2_with (first
    | (go_at_call 43; (with_reducible refine hG.out.mono ?_); rintro e w1 ⟨rfl, rfl⟩)
    | (go_at_call 44; (with_reducible refine (hSg.out _).mono ?_); rintro e w1 ⟨rfl, rfl⟩))
  go_ret
  exact ⟨rfl, rfl⟩
end Go.Proofs.YthboapfbgdcdoaaDoor

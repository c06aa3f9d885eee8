/- decode.Decode, from the label 'whole' on: the instruction is looked at. -/
import Derived.Test.YthboapfbgdcdoaaDoorNum
import Derived.Test.YthboapfbgdcdoaaDoorScope
namespace Go.Proofs.YthboapfbgdcdoaaDoor
open Go.ChangeShapes Go.WideShapes Go.ChangeAt Go.RowKit
set_option linter.unusedVariables false
set_option maxRecDepth 100000

def Q8 (V : Value) (w : World) : Exit → Act → World → Prop := bodyPost Tryd.prog Tryd.f8 fun e w' => e = .returned V ∧ Below w.heap.size w w'

/-- what Decode answers of an instruction that stands there -/
def endV (OP A B N F SZ : Int) : Value := if checkN OP A B N F = 0 then .tuple #[instV OP A B N F, .int .i64 SZ, .int .i64 0] else .tuple #[instV 0 0 0 0 0, .int .i64 0, .int .i64 (checkN OP A B N F)]

set_option maxHeartbeats 4000000 in
theorem whole_lands (OP A B N F SZ : Int) (w W : World) (g7 : Nat) (V : Value) (hV : V = endV OP A B N F SZ) (hz : ZBlk W w.heap.size) (hI : InstAt W g7 OP A B N F) (hne : g7 ≠ w.heap.size) (hb : Below w.heap.size w W) (hT : Tab W) (hn : -2147483648 ≤ N ∧ N ≤ 2147483647) {u0 u1 u2 u3 u5 u6 u9 u10 u11 u12 u13 u14 u15 u16 u17 u18 u19 u20 u21 u22 u23 u24 u25 u26 u27 u28 u29 u30 u31 u32 u33 u34 u35 u36 u37 u38 u39 u40 u41 u42 u43 u44 u45 u46 u47 u48 u49 u50 u51 u52 u53 u54 u55 u56 u57 u58 u59 u60 u61 u62 u63 u64 u65 u66 u67 u68 u69 u70 u71 u72 u73 u74 u75 u76 u77 u78 u79 u80 u81 u82 u83 u84 u85 u86 u87 u88 u89 u90 u91 u92 u93 u94 u95 : Value} :
    Lands Tryd.prog (scopeOf Tryd.f8) (Q8 V w) 0 { tmps := List.toArray (u0 :: u1 :: u2 :: u3 :: .pointer (some ⟨w.heap.size, 0, none⟩) :: u5 :: u6 :: .pointer (some ⟨g7, 0, none⟩) :: .int .i64 SZ :: u9 :: u10 :: u11 :: u12 :: u13 :: u14 :: u15 :: u16 :: u17 :: u18 :: u19 :: u20 :: u21 :: u22 :: u23 :: u24 :: u25 :: u26 :: u27 :: u28 :: u29 :: u30 :: u31 :: u32 :: u33 :: u34 :: u35 :: u36 :: u37 :: u38 :: u39 :: u40 :: u41 :: u42 :: u43 :: u44 :: u45 :: u46 :: u47 :: u48 :: u49 :: u50 :: u51 :: u52 :: u53 :: u54 :: u55 :: u56 :: u57 :: u58 :: u59 :: u60 :: u61 :: u62 :: u63 :: u64 :: u65 :: u66 :: u67 :: u68 :: u69 :: u70 :: u71 :: u72 :: u73 :: u74 :: u75 :: u76 :: u77 :: u78 :: u79 :: u80 :: u81 :: u82 :: u83 :: u84 :: u85 :: u86 :: u87 :: u88 :: u89 :: u90 :: u91 :: u92 :: u93 :: u94 :: u95 :: []), defers := [] } W := by
  refine Lands.of rfl ?_
  have hCk := Hid.intro (fun X hX => check_any OP A B N F X hX hn)
  have hzH := Hid.intro hz
  have hIH := Hid.intro hI
  have hbH := Hid.intro hb
  have hTH := Hid.intro hT
  have hVH := Hid.intro hV
  obtain ⟨i0, i1, i2, i3, i4, _⟩ := hIH.out
  clear hz hI hb hT hV
  unfold endV at hVH
  generalize checkN OP A B N F = C at *
  by_cases hc : C = 0
  · subst hc
    rw [if_pos rfl] at hVH
    go_wp2_with (go_at_call 22; (with_reducible refine (hCk.out _ hTH.out).mono ?_); rintro e w1 ⟨rfl, hb1⟩; obtain ⟨j0, j1, j2, j3, j4, _⟩ := hIH.out.below hb1 hIH.out.lt; obtain ⟨z0, z1, z2, z3, z4, zf⟩ := (hzH.out.below hb1 hzH.out.lt).cells; have hz1 := Hid.intro (hzH.out.below hb1 hzH.out.lt); have hw1 := Hid.intro (chain2 hbH.out hb1); clear hb1)
    rw [jumps_ret]
    have hset := hz1.out.set OP A B N F
    have hbw := below_setInst hw1.out (Nat.le_refl w.heap.size) OP A B N F
    change Q8 _ _ _ _ (setInst _ w.heap.size OP A B N F)
    generalize setInst _ w.heap.size OP A B N F = WW at *
    obtain ⟨y0, y1, y2, y3, y4, _⟩ := hset
    refine bodyPost_ret (by simp [results, Tryd.results8, go_sem, y0, y1, y2, y3, y4]; try rfl) rfl ?_
    exact ⟨by rw [hVH.out], hbw⟩
  · rw [if_neg hc] at hVH
    have e0 : (C == 0) = false := by simpa using hc
    have e1 : (C != 0) = true := by simpa using hc
    clear hc
    go_wp2_with (go_at_call 22; (with_reducible refine (hCk.out _ hTH.out).mono ?_); rintro e w1 ⟨rfl, hb1⟩; obtain ⟨z0, z1, z2, z3, z4, zf⟩ := (hzH.out.below hb1 hzH.out.lt).cells; have hz1 := Hid.intro (hzH.out.below hb1 hzH.out.lt); have hw1 := Hid.intro (chain2 hbH.out hb1); clear hb1)
    rw [jumps_ret]
    have hset := hz1.out.set 0 0 0 0 0
    have hbw := below_setInst hw1.out (Nat.le_refl w.heap.size) 0 0 0 0 0
    change Q8 _ _ _ _ (setInst _ w.heap.size 0 0 0 0 0)
    generalize setInst _ w.heap.size 0 0 0 0 0 = WW at *
    obtain ⟨y0, y1, y2, y3, y4, _⟩ := hset
    refine bodyPost_ret (by simp [results, Tryd.results8, go_sem, y0, y1, y2, y3, y4]; try rfl) rfl ?_
    exact ⟨by rw [hVH.out], hbw⟩
end Go.Proofs.YthboapfbgdcdoaaDoor

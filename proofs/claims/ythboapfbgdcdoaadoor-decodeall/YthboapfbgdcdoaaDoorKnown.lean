/- The runs that every statement of this stage asks. -/
import Derived.Test.YthboapfbgdcdoaaDoorDecode
namespace Go.Proofs.YthboapfbgdcdoaaDoor
open Go.ChangeShapes Go.WideShapes Go.ChangeAt Go.RowKit
set_option linter.unusedVariables false
set_option maxRecDepth 100000

theorem decV_is {zs : List Int} {at' o a b n f l e : Int} (h : ((decX zs at').o, (decX zs at').a, (decX zs at').b, (decX zs at').n, (decX zs at').f, decL zs at', decE zs at') = (o, a, b, n, f, l, e)) : decV zs at' = .tuple #[instV o a b n f, .int .i64 l, .int .i64 e] := by
  simp only [Prod.mk.injEq] at h
  obtain ⟨h0, h1, h2, h3, h4, h5, h6⟩ := h
  unfold decV Ins.val
  rw [h0, h1, h2, h3, h4, h5, h6]

theorem lies_new (w : World) (zs : List Int) (hz : AreBytes zs) : Lies (w.alloc (.cells (cellsOf zs).toArray 5)) (some ⟨w.heap.size, 0, none⟩) zs := by
  refine ⟨hz, .inr ⟨w.heap.size, 0, rfl, fun i hi => ?_⟩⟩
  rw [Nat.zero_add, cell_block (heap_alloc_new w _) i, List.getElem?_toArray]
  exact cellsOf_get zs i hi

/-- Decode of a list written out -/
theorem decode_lit (zs : List Int) (m : Nat) (hm : m = zs.length) (hz : AreBytes zs) (w : World) (hT : Tab w) (at' : Int) (ha : -9223372036854775808 ≤ at' ∧ at' ≤ 9223372036854775807) (hml : m ≤ 100) (V : Value) (hV : decV zs at' = V) :
    Calls Tryd.prog 8 #[.slice (some ⟨w.heap.size, 0, none⟩) m m, .int .i64 at'] (w.alloc (.cells (cellsOf zs).toArray 5)) fun e w' => e = .returned V ∧ Below w.heap.size w w' := by
  subst hV
  refine (decode_any (some ⟨w.heap.size, 0, none⟩) m m zs at' _ hm (hT.alloc _) (lies_new w zs hz) (Nat.le_refl _) (by omega) ha).mono fun e w' ⟨he, hb⟩ => ⟨he, chain2 (below_alloc w _) hb⟩

theorem k1 : decV [16, 18] 0 = .tuple #[instV 13 1 2 0 0, .int .i64 2, .int .i64 0] := decV_is (by decide +kernel)
theorem k2 : decV [16, 146] 0 = .tuple #[instV 0 0 0 0 0, .int .i64 0, .int .i64 12] := decV_is (by decide +kernel)
theorem bytes_two (a b : Int) (ha : 0 ≤ a ∧ a ≤ 255) (hb : 0 ≤ b ∧ b ≤ 255) : AreBytes [a, b] := by
  intro z hz
  simp at hz
  rcases hz with rfl | rfl <;> assumption

set_option maxHeartbeats 1000000 in
theorem known_any (w : World) (hT : Tab w) : Calls Tryd.prog 10 #[] w fun e w' => e = .returned (.bool true) ∧ Below w.heap.size w w' := by
  have hTH := Hid.intro hT
  have hK1 : Hid (∀ (W : World) (G : Nat), W.heap.size = G → Tab W → Calls Tryd.prog 8 #[.slice (some ⟨G, 0, none⟩) 2 2, .int .i64 0] (W.alloc (.cells #[.int .u8 16, .int .u8 18] 5)) fun e w' => e = .returned (.tuple #[instV 13 1 2 0 0, .int .i64 2, .int .i64 0]) ∧ Below W.heap.size W w') := (fun W G hG hW => hG ▸ decode_lit [16, 18] 2 rfl (bytes_two _ _ (by omega) (by omega)) W hW 0 (by omega) (by omega) _ k1)
  have hK2 : Hid (∀ (W : World) (G : Nat), W.heap.size = G → Tab W → Calls Tryd.prog 8 #[.slice (some ⟨G, 0, none⟩) 2 2, .int .i64 0] (W.alloc (.cells #[.int .u8 16, .int .u8 146] 5)) fun e w' => e = .returned (.tuple #[instV 0 0 0 0 0, .int .i64 0, .int .i64 12]) ∧ Below W.heap.size W w') := (fun W G hG hW => hG ▸ decode_lit [16, 146] 2 rfl (bytes_two _ _ (by omega) (by omega)) W hW 0 (by omega) (by omega) _ k2)
  clear hT
  go_enter Tryd.func10, Tryd.ntmps10
  go_wp2_with (first
    | (go_at_call 8; (with_reducible refine (hK1.out _ _ rfl hTH.out).mono ?_); rintro e w1 ⟨rfl, hb1⟩; have hT1 := Hid.intro (hTH.out.below hb1 hTH.out.size); have hT2 := Hid.intro (hT1.out.alloc (.cells #[.int .i64 13, .int .i64 1, .int .i64 2, .int .i32 0, .int .i64 0] 26)); have hI1 := Hid.intro (inst_new w1 13 1 2 0 0); replace hb1 := Hid.intro hb1)
    | (go_at_call 8; (with_reducible refine (hK2.out _ _ (by simp) hT2.out).mono ?_); rintro e w2 ⟨rfl, hb2⟩; have hI2 := hI1.out.below hb2 hI1.out.lt; obtain ⟨i0, i1, i2, i3, i4, _⟩ := hI2.alloc (.cells #[.int .i64 0, .int .i64 0, .int .i64 0, .int .i32 0, .int .i64 0] 26); replace hb2 := Hid.intro hb2))
  go_ret
  exact ⟨rfl, chain2 (chain2 (chain2 hb1.out (below_alloc w1 _)) hb2.out) (below_alloc w2 _)⟩
end Go.Proofs.YthboapfbgdcdoaaDoor

/- How units and bytes that came in are opened. -/
import Derived.Test.YtmndccbeddaphaaGreatDoorUOp
import Derived.Test.YtmndccbeddaphaaGreatDoorOwr5
import Derived.SizedLaws
import Derived.ChangeSlices
namespace Go.Proofs.YtmndccbeddaphaaGreatDoor
open Go.ChangeShapes Go.WideShapes Go.ChangeAt Go.RowKit
set_option linter.unusedVariables false
set_option linter.unusedSimpArgs false
set_option maxRecDepth 100000
theorem bytes5 : Tryz.prog.bytesOf 5 = 1 := by kernel_rfl
theorem lies_nil (w : World) (a : Option Addr) : O.Lies w a [] := ⟨fun z hz => (by cases hz), .inl rfl⟩
theorem lies_open {w : World} {x : Addr} {zs : List Int} {len : Nat} (hl : len ≤ zs.length) (hcell : ∀ i, i < zs.length → w.cell? (x.add i) = some (.int .u8 (zs.getD i 0)))
    (hwz : ∀ n ∈ zs, (Lit.int .u8 n).wf = true) : O.Lies w (some x) (zs.take len) := by
  refine ⟨fun z hz => ?_, ?_⟩
  · have := bounds_u8 (hwz z (List.mem_of_mem_take hz))
    omega
  · by_cases h0 : len = 0
    · subst h0
      exact .inl (by simp)
    · refine .inr ?_
      obtain ⟨b, off, spot⟩ := x
      have hspot : spot = none := by simpa [Addr.add] using World.cell?_spot (hcell 0 (by omega))
      subst hspot
      refine ⟨b, off, rfl, fun i hi => ?_⟩
      simp at hi
      have := hcell i (by omega)
      have hadd : (⟨b, off, none⟩ : Addr).add i = ⟨b, off + i, none⟩ := by unfold Addr.add; split <;> simp_all
      rw [hadd] at this
      rw [this]
      simp [List.getElem?_take_of_lt (show i < len by omega)]
theorem bulk_slice {H : Type} (elems spare : List (DataW H)) (n : Nat) (h : n ≤ elems.length) : n + 1 ≤ Rows.uptoBulk (.slice elems spare) := by
  have := bulk_all elems
  simp only [Rows.uptoBulk]
  omega
theorem slice_lt {W : World} {base : Nat} {x : Addr} {l c : Nat} (hval : Value.okWide Tryz.prog W .any base 22 (.slice (some x) l c)) : x.block < W.heap.size := by
  simp only [Value.okWide, Tryz.underlying22, Cell.okWide, Cell.ok, World.has] at hval
  obtain ⟨_, _, _, _, row, cells, hs, _⟩ := hval
  unfold World.shape? at hs
  rcases Nat.lt_or_ge x.block W.heap.size with h | h
  · exact h
  · rw [Array.getElem?_eq_none h] at hs
    cases hs
theorem open_bytes {H : Type} {enc : TypeId × Value → H} {W : World} {base : Nat} {v : Value} {d : DataW H} {p : List MemPlace}
    (hval : Value.okWide Tryz.prog W .any base 22 v) (h : DataW.Trod enc Tryz.prog W 0 (fun _ => true) true 22 v d p) :
    ∃ a zs c, v = .slice a zs.length c ∧ O.Lies W a zs ∧ zs.length ≤ c ∧ (a = none → zs.length = 0 ∧ c = 0) ∧ (∀ x, a = some x → x.block < W.heap.size) ∧ zs.length ≤ maxLen ∧ zs.length + 1 ≤ Rows.uptoBulk d := by
  obtain ⟨a0, len0, cap0, rfl⟩ := okWide_slice Tryz.underlying22 hval
  obtain ⟨fuel, hf⟩ := h
  rcases open_ints Tryz.underlying22 Tryz.underlying5 (by kernel_rfl) hf with ⟨hcs, hx⟩ | ⟨x, l, c, zs, hcs, _, hl, hm, hz, hx, hcell, hwz⟩
  · simp [Value.cells] at hcs
    obtain ⟨rfl, rfl, rfl⟩ := hcs
    exact ⟨none, [], 0, rfl, lies_nil _ _, Nat.le_refl _, fun _ => ⟨rfl, rfl⟩, fun x hx => (by cases hx), Nat.zero_le _, bulk_pos _⟩
  · simp [Value.cells] at hcs
    obtain ⟨rfl, rfl, rfl⟩ := hcs
    simp only [Prod.mk.injEq] at hx
    have hz' : zs.length = cap0 := by simpa using hz
    have e1 : (zs.take len0).length = len0 := by simp; omega
    refine ⟨some x, zs.take len0, cap0, by rw [e1], lies_open (by omega) hcell hwz, by omega, fun h => (by cases h), fun y hy => (by cases hy; exact slice_lt hval), by omega, ?_⟩
    rw [hx.1]
    exact bulk_slice _ _ _ (by simp [lits])
theorem ItC.held {W : World} {B : Nat} {cs : List Value} {x : Itm} {va : Option Addr} {vc : Nat} (h : ItC W B cs x va vc) (hB : B ≤ 1100000) : HeldI x :=
  ⟨by have := h.name; omega, h.m, h.n, by have := h.lin.few; omega, fun t ht => by have := (h.lin.each t ht).2.2; omega⟩
theorem EqC.held {W : World} {B : Nat} {cs : List Value} {q : List UInt8 × Lin} {va : Option Addr} {vc : Nat} (h : EqC W B cs q va vc) (hB : B ≤ 1100000) : HeldE q :=
  ⟨by have := h.name; omega, by have := h.lin.few; omega, fun t ht => by have := (h.lin.each t ht).2.2; omega⟩
theorem UIn.held {W : World} {v : Value} {B : Nat} {ta da ea ga : Option Addr} {tc dc ec gc : Nat} {u : UVal} (h : UIn W v B ta da ea ga tc dc ec gc u) (hB : B ≤ 1100000) : HeldU u := by
  obtain ⟨f1, f2, f3, f4⟩ := h.few
  refine ⟨⟨by omega, fun x hx => ?_⟩, ⟨by omega, fun x hx => ?_⟩, ⟨by omega, fun x hx => ?_⟩, by omega⟩
  · obtain ⟨va, vc, g⟩ := h.text x hx
    exact g.held hB
  · obtain ⟨va, vc, g⟩ := h.data x hx
    exact g.held hB
  · obtain ⟨va, vc, g⟩ := h.equs x hx
    exact g.held hB
theorem LinC.num {W : World} {B : Nat} {a : Option Addr} {c : Nat} {x : Lin} (h : LinC W B a c x) : NumL x := ⟨⟨h.lo, by have := h.hi; omega⟩, fun t ht => ⟨(h.each t ht).1, by have := (h.each t ht).2.1; omega⟩⟩
theorem UIn.num {W : World} {v : Value} {B : Nat} {ta da ea ga : Option Addr} {tc dc ec gc : Nat} {u : UVal} (h : UIn W v B ta da ea ga tc dc ec gc u) : NumU u := by
  refine ⟨fun x hx => ?_, fun x hx => ?_, fun x hx => ?_⟩
  · obtain ⟨va, vc, g⟩ := h.text x hx
    exact g.lin.num
  · obtain ⟨va, vc, g⟩ := h.data x hx
    exact g.lin.num
  · obtain ⟨va, vc, g⟩ := h.equs x hx
    exact g.lin.num
end Go.Proofs.YtmndccbeddaphaaGreatDoor

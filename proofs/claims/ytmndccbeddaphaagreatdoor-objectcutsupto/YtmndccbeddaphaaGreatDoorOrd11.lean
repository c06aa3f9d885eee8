/- object's reader: an item of Text, an item of Data. -/
import Derived.Test.YtmndccbeddaphaaGreatDoorOrd10
namespace Go.Proofs.YtmndccbeddaphaaGreatDoor
open Go.ChangeShapes Go.WideShapes Go.ChangeAt Go.RowKit
set_option linter.unusedVariables false
set_option linter.unusedSimpArgs false
set_option maxRecDepth 100000

section
variable {w w' w1 : World} {r : Nat} {a : Option Addr} {c : Nat} {zs : List Int} {p : Nat} {bad : Option (Int × Int)} {rp : Option Nat} {mv : Value} {last : List UInt8} {b n : Nat} {g : List (List UInt8)} {q : Nat} {A : Array Value} {w2 : World}

/-- what one item's reading answers -/
def ItmOut (w : World) (r : Nat) (a : Option Addr) (c : Nat) (zs : List Int) (b n : Nat) (g : List (List UInt8)) (last : List UInt8) (p : Nat) (bad : Option (Int × Int)) (sec : Int) (e : Ending) (w' : World) : Prop :=
  ∃ v, e = .returned (.agg (itmCells (itR zs p bad).1 v)) ∧ w'.ownsRow w.heap.size 107 2 v (itR zs p bad).1.e.terms.length (rowT (itR zs p bad).1.e.terms) ∧ IE w r a c zs b (n + 1) (itG (itR zs p bad).1 sec g) last (itR zs p bad).2.1 (itB (itR zs p bad).1 sec g p (itR zs p bad).2.2) w'

theorem item_is (h : RS w r a c zs p bad rp (.map (some b)) last) (hS : SetIs w b n g) (hn : n ≤ 3000000) (hT : Tab w) (hlo : 3 ≤ r ∧ 3 ≤ b ∧ r < w.heap.size ∧ b < w.heap.size ∧ b ≠ r) (ha : ∀ x, a = some x → x.block ≠ b) (sec : Int) (hsec : sec = 0 ∨ sec = 1) :
    Calls Tryz.prog 114 #[.pointer (some ⟨r, 0, none⟩), .int .i64 sec] w fun e w' => ItmOut w r a c zs b n g last p bad sec e w' := by
  by_cases k1 : rdV zs p 1 = 1
  · exact item_1 h hS hn hT hlo ha sec hsec k1
  by_cases k2 : rdV zs p 1 = 2
  · exact item_2 h hS hn hT hlo ha sec hsec k2
  by_cases k3 : rdV zs p 1 = 3
  · exact item_3 h hS hn hT hlo ha sec hsec k3
  by_cases k5 : rdV zs p 1 = 5
  · exact item_5 h hS hn hT hlo ha sec hsec k5
  by_cases k6 : rdV zs p 1 = 6
  · exact item_6 h hS hn hT hlo ha sec hsec k6
  by_cases k7 : rdV zs p 1 = 7
  · exact item_7 h hS hn hT hlo ha sec hsec k7
  exact item_o h hS hn hT hlo ha sec hsec k1 k2 k3 k5 k6 k7

theorem IE.out (h : IE (w.alloc (.cells itZ 86)) r a c zs b n g last p bad w2) (hlo : 3 ≤ r ∧ 3 ≤ b ∧ r < w.heap.size ∧ b < w.heap.size ∧ b ≠ r) (v0 v1 v2 v3 v4 v5 v6 v7 v8 v9 : Value) : w2.heap[w.heap.size]? = some (.cells itZ 86 (0, 0)) ∧ IE w r a c zs b n g last p bad (put10 w2 w.heap.size v0 v1 v2 v3 v4 v5 v6 v7 v8 v9) ∧ (put10 w2 w.heap.size v0 v1 v2 v3 v4 v5 v6 v7 v8 v9).heap[w.heap.size]? = some (.cells #[v0, v1, v2, v3, v4, v5, v6, v7, v8, v9] 86 (0, 0)) ∧ w2.grownBy (put10 w2 w.heap.size v0 v1 v2 v3 v4 v5 v6 v7 v8 v9) (some w.heap.size) := by
  obtain ⟨t0, t1, t2, t3, t4⟩ := hlo
  have h0 := heap_alloc_new w (.cells itZ 86)
  have hres : w2.heap[w.heap.size]? = some (.cells itZ 86 (0, 0)) := (h.gr.block _ (blk_lt h0) (by omega) (by omega)).trans h0
  have hs : (w.alloc (.cells itZ 86)).heap.size = w.heap.size + 1 := by simp
  have g0 : G2 w w2 r b := (G2.of (World.grownBy_alloc w (.cells itZ 86) none) (fun j e => by cases e)).trans h.gr
  obtain ⟨s, k⟩ := put10_is hres v0 v1 v2 v3 v4 v5 v6 v7 v8 v9
  obtain ⟨rp, hrs⟩ := h.rs
  exact ⟨hres, ⟨⟨_, hrs.far t2 hres (by decide) k⟩, ⟨k.os.trans g0.os, k.tape.trans g0.tape, k.output.trans g0.output, Nat.le_trans g0.size k.size, fun j hj h1 h2 => (k.block j (Nat.lt_of_lt_of_le hj g0.size) (fun e => by have := Option.some.inj e; omega)).trans (g0.block j hj h1 h2)⟩, h.set.blk (k.block b h.set.lt (fun e => by have := Option.some.inj e; omega)), h.tab.grown k (by omega)⟩, s, k⟩

set_option maxHeartbeats 16000000 in
theorem textItem_is (h : RS w r a c zs p bad rp (.map (some b)) last) (hS : SetIs w b n g) (hn : n ≤ 3000000) (hT : Tab w) (hlo : 3 ≤ r ∧ 3 ≤ b ∧ r < w.heap.size ∧ b < w.heap.size ∧ b ≠ r) (ha : ∀ x, a = some x → x.block ≠ b) :
    Calls Tryz.prog 76 #[.pointer (some ⟨r, 0, none⟩)] w fun e w' => ItmOut w r a c zs b n g last p bad 0 e w' := by
  have hs : (w.alloc (.cells itZ 86)).heap.size = w.heap.size + 1 := by simp
  have h114 : Hid (Calls Tryz.prog 114 #[.pointer (some ⟨r, 0, none⟩), .int .i64 0] (w.alloc (.cells itZ 86)) fun e w' => ItmOut (w.alloc (.cells itZ 86)) r a c zs b n g last p bad 0 e w') := item_is (h.below (below_alloc w _)) (hS.blk ((below_alloc w _).block b hS.lt)) hn (hT.alloc _) (by rw [hs]; omega) ha 0 (.inl rfl)
  unfold ItmOut at h114 ⊢
  generalize (itR zs p bad).2 = R2 at *
  generalize (itR zs p bad).1 = X at *
  have hloH := Hid.intro hlo
  clear h hS hT ha
  go_enter Tryz.func76, Tryz.ntmps76
  go_wp2_with (go_at_call 114; (with_reducible refine (h114.out).mono ?_); rintro e w2 ⟨v2, rfl, ho2, hE2⟩; obtain ⟨a2, c2, rfl⟩ := own_slice ho2; obtain ⟨k1, k2, k3, k4⟩ := hE2.out hloH.out (.int .i64 X.kind) (.string (str X.name)) (.int .i64 X.op) (.int .i64 X.a) (.int .i64 X.b) (.int .i32 X.m) (.int .i64 X.form) (.slice a2 X.e.terms.length c2) (.int .u32 X.e.const) (.int .i64 X.n); obtain ⟨t0, t1, t2, t3, t4, t5, t6, t7, t8, t9⟩ := rowIt k1; have tf := fun j => frozen_of_row w2 w.heap.size j _ 86 k1; replace k2 := Hid.intro k2; replace k3 := Hid.intro k3; replace k4 := Hid.intro k4; replace ho2 := Hid.intro ho2; clear hE2 k1)
  all_goals first | omega | skip
  obtain ⟨q0, q1, q2, q3, q4, q5, q6, q7, q8, q9⟩ := rowIt k3.out
  refine bodyPost_ret (by simp [results, Tryz.results76, go_sem, q0, q1, q2, q3, q4, q5, q6, q7, q8, q9]; try rfl) rfl ?_
  exact ⟨.slice a2 X.e.terms.length c2, rfl, own_weaken (own_low ho2.out k4.out (by omega)) (by omega), k2.out⟩

set_option maxHeartbeats 16000000 in
theorem dataItem_is (h : RS w r a c zs p bad rp (.map (some b)) last) (hS : SetIs w b n g) (hn : n ≤ 3000000) (hT : Tab w) (hlo : 3 ≤ r ∧ 3 ≤ b ∧ r < w.heap.size ∧ b < w.heap.size ∧ b ≠ r) (ha : ∀ x, a = some x → x.block ≠ b) :
    Calls Tryz.prog 77 #[.pointer (some ⟨r, 0, none⟩)] w fun e w' => ItmOut w r a c zs b n g last p bad 1 e w' := by
  have hs : (w.alloc (.cells itZ 86)).heap.size = w.heap.size + 1 := by simp
  have h114 : Hid (Calls Tryz.prog 114 #[.pointer (some ⟨r, 0, none⟩), .int .i64 1] (w.alloc (.cells itZ 86)) fun e w' => ItmOut (w.alloc (.cells itZ 86)) r a c zs b n g last p bad 1 e w') := item_is (h.below (below_alloc w _)) (hS.blk ((below_alloc w _).block b hS.lt)) hn (hT.alloc _) (by rw [hs]; omega) ha 1 (.inr rfl)
  unfold ItmOut at h114 ⊢
  generalize (itR zs p bad).2 = R2 at *
  generalize (itR zs p bad).1 = X at *
  have hloH := Hid.intro hlo
  clear h hS hT ha
  go_enter Tryz.func77, Tryz.ntmps77
  go_wp2_with (go_at_call 114; (with_reducible refine (h114.out).mono ?_); rintro e w2 ⟨v2, rfl, ho2, hE2⟩; obtain ⟨a2, c2, rfl⟩ := own_slice ho2; obtain ⟨k1, k2, k3, k4⟩ := hE2.out hloH.out (.int .i64 X.kind) (.string (str X.name)) (.int .i64 X.op) (.int .i64 X.a) (.int .i64 X.b) (.int .i32 X.m) (.int .i64 X.form) (.slice a2 X.e.terms.length c2) (.int .u32 X.e.const) (.int .i64 X.n); obtain ⟨t0, t1, t2, t3, t4, t5, t6, t7, t8, t9⟩ := rowIt k1; have tf := fun j => frozen_of_row w2 w.heap.size j _ 86 k1; replace k2 := Hid.intro k2; replace k3 := Hid.intro k3; replace k4 := Hid.intro k4; replace ho2 := Hid.intro ho2; clear hE2 k1)
  all_goals first | omega | skip
  obtain ⟨q0, q1, q2, q3, q4, q5, q6, q7, q8, q9⟩ := rowIt k3.out
  refine bodyPost_ret (by simp [results, Tryz.results77, go_sem, q0, q1, q2, q3, q4, q5, q6, q7, q8, q9]; try rfl) rfl ?_
  exact ⟨.slice a2 X.e.terms.length c2, rfl, own_weaken (own_low ho2.out k4.out (by omega)) (by omega), k2.out⟩
end
end Go.Proofs.YtmndccbeddaphaaGreatDoor

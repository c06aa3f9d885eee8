/- object's reader: a list of items. -/
import Derived.Test.YtmndccbeddaphaaGreatDoorOrd10
import Derived.Test.YtmndccbeddaphaaGreatDoorShx
/- object's reader: an item of Text, an item of Data. -/
namespace Go.Proofs.YtmndccbeddaphaaGreatDoor
open Go.ChangeShapes Go.WideShapes Go.ChangeAt Go.RowKit
set_option linter.unusedVariables false
set_option linter.unusedSimpArgs false
set_option maxRecDepth 100000
section
variable {w w' w1 : World} {r : Nat} {a : Option Addr} {c : Nat} {zs : List Int} {p : Nat} {bad : Option (Int × Int)} {rp : Option Nat} {mv : Value} {last : List UInt8} {b n : Nat} {g : List (List UInt8)} {q : Nat} {A : Array Value} {w2 : World}
def ItmOut (w : World) (r : Nat) (a : Option Addr) (c : Nat) (zs : List Int) (b n : Nat) (g : List (List UInt8)) (last : List UInt8) (p : Nat) (bad : Option (Int × Int)) (sec : Int) (e : Ending) (w' : World) : Prop :=
  ∃ v, e = .returned (.agg (itmCells (itR zs p bad).1 v)) ∧ w'.ownsRow w.heap.size 107 2 v (itR zs p bad).1.e.terms.length (rowT (itR zs p bad).1.e.terms) ∧ IE w r a c zs b (n + 1) (itG (itR zs p bad).1 sec g) last (itR zs p bad).2.1 (itB (itR zs p bad).1 sec g p (itR zs p bad).2.2) w'
theorem item_is (h : RS w r a c zs p bad rp (.map (some b)) last) (hS : SetIs w b n g) (hn : n ≤ 3000000) (hT : Tab w) (hlo : 3 ≤ r ∧ 3 ≤ b ∧ r < w.heap.size ∧ b < w.heap.size ∧ b ≠ r) (ha : ∀ x, a = some x → x.block ≠ b) (sec : Int) (hsec : sec = 0 ∨ sec = 1) :
    Calls Tryz.prog 114 #[.pointer (some ⟨r, 0, none⟩), .int .i64 sec] w fun e w' => ItmOut w r a c zs b n g last p bad sec e w' := by
  by_cases k1 : rdV zs p 1 = 1
  · exact item_1 h hS hn hT hlo ha sec hsec k1
  by_cases k2 : rdV zs p 1 = 2
  · exact item_2 h hS hn hT hlo ha sec hsec k2
  by_cases k3 : rdV zs p 1 = 3
  · exact item_3 h hS hn hT hlo ha sec hsec k3
  by_cases k5 : rdV zs p 1 = 5
  · exact item_5 h hS hn hT hlo ha sec hsec k5
  by_cases k6 : rdV zs p 1 = 6
  · exact item_6 h hS hn hT hlo ha sec hsec k6
  by_cases k7 : rdV zs p 1 = 7
  · exact item_7 h hS hn hT hlo ha sec hsec k7
  exact item_o h hS hn hT hlo ha sec hsec k1 k2 k3 k5 k6 k7
theorem IE.out (h : IE (w.alloc (.cells itZ 86)) r a c zs b n g last p bad w2) (hlo : 3 ≤ r ∧ 3 ≤ b ∧ r < w.heap.size ∧ b < w.heap.size ∧ b ≠ r) (v0 v1 v2 v3 v4 v5 v6 v7 v8 v9 : Value) : w2.heap[w.heap.size]? = some (.cells itZ 86 (0, 0)) ∧ IE w r a c zs b n g last p bad (put10 w2 w.heap.size v0 v1 v2 v3 v4 v5 v6 v7 v8 v9) ∧ (put10 w2 w.heap.size v0 v1 v2 v3 v4 v5 v6 v7 v8 v9).heap[w.heap.size]? = some (.cells #[v0, v1, v2, v3, v4, v5, v6, v7, v8, v9] 86 (0, 0)) ∧ w2.grownBy (put10 w2 w.heap.size v0 v1 v2 v3 v4 v5 v6 v7 v8 v9) (some w.heap.size) := by
  obtain ⟨t0, t1, t2, t3, t4⟩ := hlo
  have h0 := heap_alloc_new w (.cells itZ 86)
  have hres : w2.heap[w.heap.size]? = some (.cells itZ 86 (0, 0)) := (h.gr.block _ (blk_lt h0) (by omega) (by omega)).trans h0
  have hs : (w.alloc (.cells itZ 86)).heap.size = w.heap.size + 1 := by simp
  have g0 : G2 w w2 r b := (G2.of (World.grownBy_alloc w (.cells itZ 86) none) (fun j e => by cases e)).trans h.gr
  obtain ⟨s, k⟩ := put10_is hres v0 v1 v2 v3 v4 v5 v6 v7 v8 v9
  obtain ⟨rp, hrs⟩ := h.rs
  exact ⟨hres, ⟨⟨_, hrs.far t2 hres (by decide) k⟩, ⟨k.os.trans g0.os, k.tape.trans g0.tape, k.output.trans g0.output, Nat.le_trans g0.size k.size, fun j hj h1 h2 => (k.block j (Nat.lt_of_lt_of_le hj g0.size) (fun e => by have := Option.some.inj e; omega)).trans (g0.block j hj h1 h2)⟩, h.set.blk (k.block b h.set.lt (fun e => by have := Option.some.inj e; omega)), h.tab.grown k (by omega)⟩, s, k⟩
set_option maxHeartbeats 16000000 in
theorem textItem_is (h : RS w r a c zs p bad rp (.map (some b)) last) (hS : SetIs w b n g) (hn : n ≤ 3000000) (hT : Tab w) (hlo : 3 ≤ r ∧ 3 ≤ b ∧ r < w.heap.size ∧ b < w.heap.size ∧ b ≠ r) (ha : ∀ x, a = some x → x.block ≠ b) :
    Calls Tryz.prog 76 #[.pointer (some ⟨r, 0, none⟩)] w fun e w' => ItmOut w r a c zs b n g last p bad 0 e w' := by
  have hs : (w.alloc (.cells itZ 86)).heap.size = w.heap.size + 1 := by simp
  have h114 : Hid (Calls Tryz.prog 114 #[.pointer (some ⟨r, 0, none⟩), .int .i64 0] (w.alloc (.cells itZ 86)) fun e w' => ItmOut (w.alloc (.cells itZ 86)) r a c zs b n g last p bad 0 e w') := item_is (h.below (below_alloc w _)) (hS.blk ((below_alloc w _).block b hS.lt)) hn (hT.alloc _) (by rw [hs]; omega) ha 0 (.inl rfl)
  unfold ItmOut at h114 ⊢
  generalize (itR zs p bad).2 = R2 at *
  generalize (itR zs p bad).1 = X at *
  have hloH := Hid.intro hlo
  clear h hS hT ha
  go_enter Tryz.func76, Tryz.ntmps76
  go_wp2_with (go_at_call 114; (with_reducible refine (h114.out).mono ?_); rintro e w2 ⟨v2, rfl, ho2, hE2⟩; obtain ⟨a2, c2, rfl⟩ := own_slice ho2; obtain ⟨k1, k2, k3, k4⟩ := hE2.out hloH.out (.int .i64 X.kind) (.string (str X.name)) (.int .i64 X.op) (.int .i64 X.a) (.int .i64 X.b) (.int .i32 X.m) (.int .i64 X.form) (.slice a2 X.e.terms.length c2) (.int .u32 X.e.const) (.int .i64 X.n); obtain ⟨t0, t1, t2, t3, t4, t5, t6, t7, t8, t9⟩ := rowIt k1; have tf := fun j => frozen_of_row w2 w.heap.size j _ 86 k1; replace k2 := Hid.intro k2; replace k3 := Hid.intro k3; replace k4 := Hid.intro k4; replace ho2 := Hid.intro ho2; clear hE2 k1)
  all_goals first | omega | skip
  obtain ⟨q0, q1, q2, q3, q4, q5, q6, q7, q8, q9⟩ := rowIt k3.out
  refine bodyPost_ret (by simp [results, Tryz.results76, go_sem, q0, q1, q2, q3, q4, q5, q6, q7, q8, q9]; try rfl) rfl ?_
  exact ⟨.slice a2 X.e.terms.length c2, rfl, own_weaken (own_low ho2.out k4.out (by omega)) (by omega), k2.out⟩
set_option maxHeartbeats 16000000 in
theorem dataItem_is (h : RS w r a c zs p bad rp (.map (some b)) last) (hS : SetIs w b n g) (hn : n ≤ 3000000) (hT : Tab w) (hlo : 3 ≤ r ∧ 3 ≤ b ∧ r < w.heap.size ∧ b < w.heap.size ∧ b ≠ r) (ha : ∀ x, a = some x → x.block ≠ b) :
    Calls Tryz.prog 77 #[.pointer (some ⟨r, 0, none⟩)] w fun e w' => ItmOut w r a c zs b n g last p bad 1 e w' := by
  have hs : (w.alloc (.cells itZ 86)).heap.size = w.heap.size + 1 := by simp
  have h114 : Hid (Calls Tryz.prog 114 #[.pointer (some ⟨r, 0, none⟩), .int .i64 1] (w.alloc (.cells itZ 86)) fun e w' => ItmOut (w.alloc (.cells itZ 86)) r a c zs b n g last p bad 1 e w') := item_is (h.below (below_alloc w _)) (hS.blk ((below_alloc w _).block b hS.lt)) hn (hT.alloc _) (by rw [hs]; omega) ha 1 (.inr rfl)
  unfold ItmOut at h114 ⊢
  generalize (itR zs p bad).2 = R2 at *
  generalize (itR zs p bad).1 = X at *
  have hloH := Hid.intro hlo
  clear h hS hT ha
  go_enter Tryz.func77, Tryz.ntmps77
  go_wp2_with (go_at_call 114; (with_reducible refine (h114.out).mono ?_); rintro e w2 ⟨v2, rfl, ho2, hE2⟩; obtain ⟨a2, c2, rfl⟩ := own_slice ho2; obtain ⟨k1, k2, k3, k4⟩ := hE2.out hloH.out (.int .i64 X.kind) (.string (str X.name)) (.int .i64 X.op) (.int .i64 X.a) (.int .i64 X.b) (.int .i32 X.m) (.int .i64 X.form) (.slice a2 X.e.terms.length c2) (.int .u32 X.e.const) (.int .i64 X.n); obtain ⟨t0, t1, t2, t3, t4, t5, t6, t7, t8, t9⟩ := rowIt k1; have tf := fun j => frozen_of_row w2 w.heap.size j _ 86 k1; replace k2 := Hid.intro k2; replace k3 := Hid.intro k3; replace k4 := Hid.intro k4; replace ho2 := Hid.intro ho2; clear hE2 k1)
  all_goals first | omega | skip
  obtain ⟨q0, q1, q2, q3, q4, q5, q6, q7, q8, q9⟩ := rowIt k3.out
  refine bodyPost_ret (by simp [results, Tryz.results77, go_sem, q0, q1, q2, q3, q4, q5, q6, q7, q8, q9]; try rfl) rfl ?_
  exact ⟨.slice a2 X.e.terms.length c2, rfl, own_weaken (own_low ho2.out k4.out (by omega)) (by omega), k2.out⟩
end
end Go.Proofs.YtmndccbeddaphaaGreatDoor
namespace Go.Proofs.YtmndccbeddaphaaGreatDoor
open Go.ChangeShapes Go.WideShapes Go.ChangeAt Go.RowKit Go.Sort
set_option linter.unusedVariables false
set_option linter.unusedSimpArgs false
set_option maxRecDepth 100000
abbrev INm := List (List UInt8)
abbrev Rfu := Option (Int × Int)
def rdItLoop (zs : List Int) (sec : Int) : Nat → List Itm → INm → Nat → Rfu → List Itm × INm × Nat × Rfu
  | 0, acc, g, p, b => (acc, g, p, b)
  | k + 1, acc, g, p, b => if b.isSome then ([], g, p, b) else rdItLoop zs sec k (acc ++ [(itR zs p b).1]) (itG (itR zs p b).1 sec g) (itR zs p b).2.1 (itB (itR zs p b).1 sec g p (itR zs p b).2.2)
def manyB (n most : Int) (p : Nat) (b : Rfu) : Rfu := if n > most then firstR b ((p : Int), 4) else b
def rdItems (zs : List Int) (sec most : Int) (g : INm) (p : Nat) (b : Rfu) : List Itm × INm × Nat × Rfu :=
  rdItLoop zs sec (rdV zs p 2).toNat [] g (rdP zs p 2) (manyB (rdV zs p 2) most p (rdB zs p 2 b))
theorem own_G2 {w w' : World} {r q lo : Nat} {T : TypeId} {sz : Nat} {v : Value} {n : Nat} {xs : List Value} (h : w.ownsRow lo T sz v n xs) (hg : G2 w w' r q) (h1 : r < lo) (h2 : q < lo) : w'.ownsRow lo T sz v n xs := by
  refine ⟨h.1, ?_⟩
  rcases h.2 with hx | ⟨g, cap, cur, k1, k2, k3, k4⟩
  · exact .inl hx
  · exact .inr ⟨g, cap, cur, k1, k2, (hg.block g (blk_lt k3) (by omega) (by omega)).trans k3, k4⟩
theorem own_other {w w' : World} {lo lo' : Nat} {T T' : TypeId} {sz sz' : Nat} {v v' : Value} {n n' : Nat} {xs xs' : List Value} (h : w.ownsRow lo T sz v n xs) (hr : w.ownsRow lo' T' sz' v' n' xs') (hT : T ≠ T') (hg : w.grownBy w' v'.ownBlock) : w'.ownsRow lo T sz v n xs := by
  refine ⟨h.1, ?_⟩
  rcases h.2 with hx | ⟨g, cap, cur, k1, k2, k3, k4⟩
  · exact .inl hx
  · refine .inr ⟨g, cap, cur, k1, k2, (hg.block g (blk_lt k3) (fun e => ?_)).trans k3, k4⟩
    rcases hr.2 with ⟨rfl, _⟩ | ⟨g', cap', cur', rfl, _, hgg, _⟩
    · simp [Value.ownBlock] at e
    · simp [Value.ownBlock] at e
      subst e
      rw [hgg] at k3
      cases k3
      exact hT rfl
theorem Tab.grownO {w w' : World} {k : Option Nat} (h : Tab w) (hg : w.grownBy w' k) (hb : ∀ j, k = some j → 3 ≤ j) : Tab w' := by
  obtain ⟨⟨t, z, h1⟩, t2, z2, h2⟩ := h
  have l0 := (Array.getElem?_eq_some_iff.1 h1).1
  have l1 := (Array.getElem?_eq_some_iff.1 h2).1
  exact ⟨⟨t, z, by rw [hg.block 0 l0 (fun e => by have := hb 0 e.symm; omega)]; exact h1⟩, t2, z2, by rw [hg.block 2 l1 (fun e => by have := hb 2 e.symm; omega)]; exact h2⟩
theorem rowI_push (p : List (Itm × Value)) (q : Itm × Value) : rowI (p ++ [q]) = rowI p ++ (itmCells q.1 q.2).toList := by simp [rowI]
section
variable {w w' w1 : World} {r : Nat} {a : Option Addr} {c : Nat} {zs : List Int} {p : Nat} {bad : Option (Int × Int)} {rp : Option Nat} {mv : Value} {last : List UInt8} {b n : Nat} {g : List (List UInt8)} {q : Nat} {A : Array Value} {w2 : World}
structure IL (w : World) (r : Nat) (a : Option Addr) (c : Nat) (zs : List Int) (b : Nat) (last : List UInt8) (sec : Int) (R : List Itm × INm × Nat × Rfu) (k : Nat) (L : List (Itm × Value)) (g : INm) (n : Nat) (p : Nat) (bad : Rfu) (v : Value) (wr : World) : Prop where
  rs : ∃ rp, RS wr r a c zs p bad rp (.map (some b)) last
  own : ItOwn w.heap.size wr v L
  gr : G2 w wr r b
  set : SetIs wr b n g
  tab : Tab wr
  res : rdItLoop zs sec k (L.map (·.1)) g p bad = R
  lo : 3 ≤ r ∧ 3 ≤ b ∧ r < w.heap.size ∧ b < w.heap.size ∧ b ≠ r
  ab : ∀ x, a = some x → x.block ≠ b
theorem IL.los {sec : Int} {R : List Itm × INm × Nat × Rfu} {k : Nat} {L : List (Itm × Value)} {v : Value} {wr : World} (h : IL w r a c zs b last sec R k L g n p bad v wr) : 3 ≤ r ∧ 3 ≤ b ∧ r < wr.heap.size ∧ b < wr.heap.size ∧ b ≠ r := by
  obtain ⟨t0, t1, t2, t3, t4⟩ := h.lo
  have := h.gr.size
  exact ⟨t0, t1, by omega, by omega, t4⟩
theorem IL.mid {sec : Int} {R : List Itm × INm × Nat × Rfu} {k : Nat} {L : List (Itm × Value)} {v : Value} {wr : World} (h : IL w r a c zs b last sec R k L g n p bad v wr) {g' : INm} {n' p' : Nat} {bad' : Rfu} (hE : IE wr r a c zs b n' g' last p' bad' w2) (o : Obj) : ItOwn w.heap.size (w2.alloc o) v L := by
  obtain ⟨t0, t1, t2, t3, t4⟩ := h.lo
  exact ⟨own_keptB (own_G2 h.own.row hE.gr t2 t3) (below_alloc w2 o), fun q hq => own_keptB (own_G2 (h.own.each q hq) hE.gr t2 t3) (below_alloc w2 o)⟩
theorem IL.next {sec : Int} {R : List Itm × INm × Nat × Rfu} {k : Nat} {L : List (Itm × Value)} {v v' vt : Value} {wr w4 : World} {n' : Nat} (h : IL w r a c zs b last sec R (k + 1) L g n p none v wr)
    (hE : IE wr r a c zs b n' (itG (itR zs p none).1 sec g) last (itR zs p none).2.1 (itB (itR zs p none).1 sec g p (itR zs p none).2.2) w2) (hvt : w2.ownsRow wr.heap.size 107 2 vt (itR zs p none).1.e.terms.length (rowT (itR zs p none).1.e.terms)) (o : Obj)
    (ho : w4.ownsRow w.heap.size 86 10 v' (L.length + 1) (rowI L ++ (itmCells (itR zs p none).1 vt).toList)) (hg4 : (w2.alloc o).grownBy w4 v.ownBlock) :
    IL w r a c zs b last sec R k (L ++ [((itR zs p none).1, vt)]) (itG (itR zs p none).1 sec g) n' (itR zs p none).2.1 (itB (itR zs p none).1 sec g p (itR zs p none).2.2) v' w4 := by
  obtain ⟨t0, t1, t2, t3, t4⟩ := h.lo
  have hm := h.mid hE o
  have hb := below_alloc w2 o
  have hbl : ∀ j, v.ownBlock = some j → w.heap.size ≤ j := fun j e => (hm.row.lt j e).1
  obtain ⟨rp, hrs⟩ := hE.rs
  refine ⟨⟨rp, (hrs.below hb).off hm.row t2 (by decide) hg4⟩, ⟨?_, fun q hq => ?_⟩, ?_, ?_, ?_, ?_, h.lo, h.ab⟩
  · rw [rowI_push, List.length_append]
    exact ho
  · rcases List.mem_append.1 hq with h1 | h1
    · exact own_other (hm.each q h1) hm.row (by decide) hg4
    · rw [List.mem_singleton] at h1
      subst h1
      exact own_other (own_keptB (own_weaken hvt h.gr.size) hb) hm.row (by decide) hg4
  · have g0 := (h.gr.trans hE.gr).trans (G2.of (grown_of_below hb) (fun j e => by cases e))
    exact ⟨hg4.os.trans g0.os, hg4.tape.trans g0.tape, hg4.output.trans g0.output, Nat.le_trans g0.size hg4.size, fun j hj h1 h2 => (hg4.block j (Nat.lt_of_lt_of_le hj g0.size) (fun e => by have := hbl j e.symm; omega)).trans (g0.block j hj h1 h2)⟩
  · exact hE.set.blk ((hg4.block b (Nat.lt_of_lt_of_le hE.set.lt hb.size) (fun e => by have := hbl b e.symm; omega)).trans (hb.block b hE.set.lt))
  · exact (hE.tab.below hb hE.tab.size).grownO hg4 (fun j e => by have := hbl j e; omega)
  · have := h.res
    rw [rdItLoop] at this
    simpa using this
def ItsOut (w : World) (r : Nat) (a : Option Addr) (c : Nat) (zs : List Int) (b n : Nat) (last : List UInt8) (R : List Itm × INm × Nat × Rfu) (e : Ending) (w' : World) : Prop :=
  ∃ v L, e = .returned v ∧ ItOwn w.heap.size w' v L ∧ L.map (·.1) = R.1 ∧ IE w r a c zs b (n + 65535) R.2.1 last R.2.2.1 R.2.2.2 w'
set_option maxHeartbeats 16000000 in
theorem textItems_is (h : RS w r a c zs p bad rp (.map (some b)) last) (hS : SetIs w b n g) (hn : n ≤ 2000000) (hT : Tab w) (hlo : 3 ≤ r ∧ 3 ≤ b ∧ r < w.heap.size ∧ b < w.heap.size ∧ b ≠ r) (ha : ∀ x, a = some x → x.block ≠ b) (most : Int) (hmo : 0 ≤ most ∧ most ≤ 8192) :
    Calls Tryz.prog 75 #[.pointer (some ⟨r, 0, none⟩), .int .i64 most, .func (.func 76) #[.pointer (some ⟨r, 0, none⟩)] #[]] w fun e w' => ItsOut w r a c zs b n last (rdItems zs 0 most g p bad) e w' := by
  obtain ⟨i1, hi1, hy0, hy1, hy2⟩ := info_parts info91
  have hbd := rdV_bd h.lies.1 p
  obtain ⟨_, c1, _, _, _⟩ := five_read h.blk
  have h113 := Hid.intro (num2_is h)
  have hR : Hid (rdItLoop zs 0 (rdV zs p 2).toNat [] g (rdP zs p 2) (manyB (rdV zs p 2) most p (rdB zs p 2 bad)) = rdItems zs 0 most g p bad) := rfl
  generalize rdItems zs 0 most g p bad = R at *
  obtain ⟨n0, hn0⟩ : ∃ n0 : Nat, rdV zs p 2 = (n0 : Int) := ⟨(rdV zs p 2).toNat, by omega⟩
  rw [hn0] at h113 hR hbd
  have hn1 : n0 ≤ 65535 := by omega
  rw [Int.toNat_natCast] at hR
  generalize rdP zs p 2 = p1 at *
  generalize rdB zs p 2 bad = b1 at *
  have hSH := Hid.intro hS
  have hTH := Hid.intro hT
  have haH := Hid.intro ha
  have hloH := Hid.intro hlo
  have hst : Hid (∀ w1 (rp1 : Option Nat) b2, w.grownBy w1 (some r) → RS w1 r a c zs p1 b2 rp1 (.map (some b)) last → b2 = manyB n0 most p b1 → IL w r a c zs b last 0 R n0 [] g n p1 b2 (.slice none 0 0) w1) := fun w1 rp1 b2 g1 hR1 hb2 =>
    ⟨⟨rp1, hR1⟩, ⟨World.ownsRow_nil _ _ _ _, fun q hq => by cases hq⟩, G2.of g1 (fun j e => .inl (Option.some.inj e).symm), hS.blk (g1.block b hS.lt (fun e => hlo.2.2.2.2 (Option.some.inj e))), hT.grown g1 hlo.1, by rw [hb2]; exact hR.out, hlo, ha⟩
  clear hn0 hbd h hS hT ha hR
  have hloop : Hid (∀ (w1 : World) (b2 : Rfu), IL w r a c zs b last 0 R n0 [] g n p1 b2 (.slice none 0 0) w1 → True) := fun _ _ _ => trivial
  by_cases hmany : (n0 : Int) > most
  · have hmb : Hid (manyB n0 most p b1 = firstR b1 ((p : Int), 4)) := if_pos hmany
    go_enter Tryz.func75, Tryz.ntmps75
    go_wp2_with (first
      | (go_at_call 113; (with_reducible refine (h113.out).mono ?_); rintro e w1 ⟨rfl, g1, rp1, hR1⟩; replace g1 := Hid.intro g1; replace hR1 := Hid.intro hR1)
      | (go_at_call 82; (with_reducible refine (refuse_is hR1.out _ _).mono ?_); rintro e w2 ⟨rfl, g2, rp2, hR2⟩; have hL0 := Hid.intro (hst.out w2 rp2 _ (grown_trans g1.out g2) hR2 hmb.out.symm); clear g2 hR2))
    all_goals first | omega | skip
    clear h113 hst c1 g1 hR1
    go_loopw [9, 24] (fun v9 v24 wr => ∃ (j : Nat) (L : List (Itm × Value)) (g' : INm) (n' p' : Nat) (b' : Rfu) (a9 : Option Addr) (l9 c9 : Nat), j ≤ n0 ∧ v24 = .int .i64 (j : Int) ∧ v9 = .slice a9 l9 c9 ∧ l9 ≤ j ∧ n' ≤ n + j ∧ Hid (l9 = L.length) ∧ Hid (IL w r a c zs b last 0 R (n0 - j) L g' n' p' b' (.slice a9 L.length c9) wr)) (fun v9 v24 _ => n0 - (intOf v24).toNat)
    case atStart => exact ⟨0, [], _, _, _, _, none, 0, 0, by omega, rfl, rfl, by omega, by omega, rfl, hL0⟩
    case round =>
      obtain ⟨j, L, g', n', p', b', a9, l9, c9, hj, rfl, rfl, hl9, hn', hl, hL⟩ := hrel
      clear hL0
      by_cases hjn : j < n0
      · have hk : Hid (n0 - j = (n0 - (j + 1)) + 1) := by show _ = _; omega
        obtain ⟨rp', hrs'⟩ := hL.out.rs
        have h32 := Hid.intro (refused_is hrs')
        cases b' with
        | some f =>
          replace hrs' := Hid.intro hrs'
          go_wp2_with (go_at_call 32; (with_reducible refine (h32.out).mono ?_); rintro e w2 ⟨rfl, hw2⟩; subst w2)
          all_goals first | omega | skip
          go_ret
          have hres : R = ([], g', p', some f) := by
            rw [← hL.out.res, hk.out, rdItLoop]
            rfl
          rw [hres]
          exact ⟨_, [], rfl, ⟨World.ownsRow_nil _ _ _ _, fun q hq => by cases hq⟩, rfl, ⟨⟨rp', hrs'.out⟩, hL.out.gr, hL.out.set.more (by omega), hL.out.tab⟩⟩
        | none =>
          have h76 := Hid.intro (textItem_is hrs' hL.out.set (by omega) hL.out.tab hL.out.los hL.out.ab)
          have hnx : Hid (∀ w2 vt v' w4, IE wr r a c zs b (n' + 1) (itG (itR zs p' none).1 0 g') last (itR zs p' none).2.1 (itB (itR zs p' none).1 0 g' p' (itR zs p' none).2.2) w2 → w2.ownsRow wr.heap.size 107 2 vt (itR zs p' none).1.e.terms.length (rowT (itR zs p' none).1.e.terms) → w4.ownsRow w.heap.size 86 10 v' (l9 + 1) (rowI L ++ (itmCells (itR zs p' none).1 vt).toList) → (w2.alloc (.cells (itmCells (itR zs p' none).1 vt) 86)).grownBy w4 (Value.slice a9 l9 c9).ownBlock → IL w r a c zs b last 0 R (n0 - (j + 1)) (L ++ [((itR zs p' none).1, vt)]) (itG (itR zs p' none).1 0 g') (n' + 1) (itR zs p' none).2.1 (itB (itR zs p' none).1 0 g' p' (itR zs p' none).2.2) v' w4) := fun w2 vt v' w4 h1 h2 h3 h4 => by
            have hh := hL.out
            rw [hk.out] at hh
            rw [hl.out] at h3 h4
            exact hh.next h1 h2 _ h3 h4
          have hmid : Hid (∀ w2 vt, IE wr r a c zs b (n' + 1) (itG (itR zs p' none).1 0 g') last (itR zs p' none).2.1 (itB (itR zs p' none).1 0 g' p' (itR zs p' none).2.2) w2 → (w2.alloc (.cells (itmCells (itR zs p' none).1 vt) 86)).ownsRow w.heap.size 86 10 (.slice a9 l9 c9) l9 (rowI L) ∧ w.heap.size ≤ (w2.alloc (.cells (itmCells (itR zs p' none).1 vt) 86)).heap.size) := fun w2 vt h1 => by
            have := (hL.out.mid h1 (.cells (itmCells (itR zs p' none).1 vt) 86)).row
            rw [← hl.out] at this
            exact ⟨this, by have := hL.out.gr.size; have := h1.gr.size; simp; omega⟩
          have hll : Hid (∀ vt, l9 + 1 = (L ++ [((itR zs p' none).1, vt)]).length) := fun vt => by rw [List.length_append, hl.out]; rfl
          unfold ItmOut at h76
          generalize itB (itR zs p' none).1 0 g' p' (itR zs p' none).2.2 = B3 at *
          generalize itG (itR zs p' none).1 0 g' = G3 at *
          generalize (itR zs p' none).2.1 = P3 at *
          generalize (itR zs p' none).1 = X at *
          clear hL hl hk hrs'
          go_wp2_with (first
            | (go_at_call 32; (with_reducible refine (h32.out).mono ?_); rintro e w2 ⟨rfl, hw2⟩; subst w2)
            | (go_at_call 76; (with_reducible refine (h76.out).mono ?_); rintro e w3 ⟨v3, rfl, ho3, hE3⟩; obtain ⟨a3, c3, rfl⟩ := own_slice ho3; obtain ⟨hm1, hm2⟩ := hmid.out w3 (.slice a3 X.e.terms.length c3) hE3; replace ho3 := Hid.intro ho3; replace hE3 := Hid.intro hE3; replace hm1 := Hid.intro hm1)
            | (at_builtin; go_must (refine wpList_app rfl (.tmp 28) (.tmp 31) 26 rfl w.heap.size 86 i1 _ 10 104 Tryz.underlying26 hi1 hy0 hy1 hy2 rfl (by decide) (.slice a9 l9 c9) l9 (rowI L) rfl hm1.out (.slice (some ⟨w3.heap.size, 0, none⟩) 1 1) 1 (itmCells X (.slice a3 X.e.terms.length c3)).toList rfl (.inr ⟨_, _, rfl, cells_new w3 (itmCells X (.slice a3 X.e.terms.length c3)) 86⟩) rfl (by simp [Value.oneCell']) (by unfold maxLen; omega) (by omega) hm2 ?_; intro v' w4 ho4 hg4 hw4; have hn4 := Hid.intro (hnx.out w3 _ v' w4 hE3.out ho3.out ho4 hg4); obtain ⟨a4, c4, rfl⟩ := own_slice ho4; clear ho4 hg4 hw4)))
          all_goals first | omega | skip
          go_roundw
          case rel => exact ⟨j + 1, _, _, n' + 1, _, _, a4, l9 + 1, c4, by omega, by go_num, rfl, by omega, by omega, hll.out _, by rw [← hll.out]; exact hn4⟩
          case measure => simp [intOf]; omega
      · obtain rfl : j = n0 := by omega
        go_wp2_with fail
        all_goals first | omega | skip
        go_ret
        have hres : R = (L.map (·.1), g', p', b') := by
          rw [← hL.out.res, Nat.sub_self, rdItLoop]
        rw [hres, hl.out]
        exact ⟨_, L, rfl, hL.out.own, rfl, ⟨hL.out.rs, hL.out.gr, hL.out.set.more (by omega), hL.out.tab⟩⟩
  · have hmb : Hid (manyB n0 most p b1 = b1) := if_neg hmany
    go_enter Tryz.func75, Tryz.ntmps75
    go_wp2_with (go_at_call 113; (with_reducible refine (h113.out).mono ?_); rintro e w1 ⟨rfl, g1, rp1, hR1⟩; have hL0 := Hid.intro (hst.out w1 rp1 _ g1 hR1 hmb.out.symm); clear g1 hR1)
    all_goals first | omega | skip
    clear h113 hst c1
    go_loopw [9, 24] (fun v9 v24 wr => ∃ (j : Nat) (L : List (Itm × Value)) (g' : INm) (n' p' : Nat) (b' : Rfu) (a9 : Option Addr) (l9 c9 : Nat), j ≤ n0 ∧ v24 = .int .i64 (j : Int) ∧ v9 = .slice a9 l9 c9 ∧ l9 ≤ j ∧ n' ≤ n + j ∧ Hid (l9 = L.length) ∧ Hid (IL w r a c zs b last 0 R (n0 - j) L g' n' p' b' (.slice a9 L.length c9) wr)) (fun v9 v24 _ => n0 - (intOf v24).toNat)
    case atStart => exact ⟨0, [], _, _, _, _, none, 0, 0, by omega, rfl, rfl, by omega, by omega, rfl, hL0⟩
    case round =>
      obtain ⟨j, L, g', n', p', b', a9, l9, c9, hj, rfl, rfl, hl9, hn', hl, hL⟩ := hrel
      clear hL0
      by_cases hjn : j < n0
      · have hk : Hid (n0 - j = (n0 - (j + 1)) + 1) := by show _ = _; omega
        obtain ⟨rp', hrs'⟩ := hL.out.rs
        have h32 := Hid.intro (refused_is hrs')
        cases b' with
        | some f =>
          replace hrs' := Hid.intro hrs'
          go_wp2_with (go_at_call 32; (with_reducible refine (h32.out).mono ?_); rintro e w2 ⟨rfl, hw2⟩; subst w2)
          all_goals first | omega | skip
          go_ret
          have hres : R = ([], g', p', some f) := by
            rw [← hL.out.res, hk.out, rdItLoop]
            rfl
          rw [hres]
          exact ⟨_, [], rfl, ⟨World.ownsRow_nil _ _ _ _, fun q hq => by cases hq⟩, rfl, ⟨⟨rp', hrs'.out⟩, hL.out.gr, hL.out.set.more (by omega), hL.out.tab⟩⟩
        | none =>
          have h76 := Hid.intro (textItem_is hrs' hL.out.set (by omega) hL.out.tab hL.out.los hL.out.ab)
          have hnx : Hid (∀ w2 vt v' w4, IE wr r a c zs b (n' + 1) (itG (itR zs p' none).1 0 g') last (itR zs p' none).2.1 (itB (itR zs p' none).1 0 g' p' (itR zs p' none).2.2) w2 → w2.ownsRow wr.heap.size 107 2 vt (itR zs p' none).1.e.terms.length (rowT (itR zs p' none).1.e.terms) → w4.ownsRow w.heap.size 86 10 v' (l9 + 1) (rowI L ++ (itmCells (itR zs p' none).1 vt).toList) → (w2.alloc (.cells (itmCells (itR zs p' none).1 vt) 86)).grownBy w4 (Value.slice a9 l9 c9).ownBlock → IL w r a c zs b last 0 R (n0 - (j + 1)) (L ++ [((itR zs p' none).1, vt)]) (itG (itR zs p' none).1 0 g') (n' + 1) (itR zs p' none).2.1 (itB (itR zs p' none).1 0 g' p' (itR zs p' none).2.2) v' w4) := fun w2 vt v' w4 h1 h2 h3 h4 => by
            have hh := hL.out
            rw [hk.out] at hh
            rw [hl.out] at h3 h4
            exact hh.next h1 h2 _ h3 h4
          have hmid : Hid (∀ w2 vt, IE wr r a c zs b (n' + 1) (itG (itR zs p' none).1 0 g') last (itR zs p' none).2.1 (itB (itR zs p' none).1 0 g' p' (itR zs p' none).2.2) w2 → (w2.alloc (.cells (itmCells (itR zs p' none).1 vt) 86)).ownsRow w.heap.size 86 10 (.slice a9 l9 c9) l9 (rowI L) ∧ w.heap.size ≤ (w2.alloc (.cells (itmCells (itR zs p' none).1 vt) 86)).heap.size) := fun w2 vt h1 => by
            have := (hL.out.mid h1 (.cells (itmCells (itR zs p' none).1 vt) 86)).row
            rw [← hl.out] at this
            exact ⟨this, by have := hL.out.gr.size; have := h1.gr.size; simp; omega⟩
          have hll : Hid (∀ vt, l9 + 1 = (L ++ [((itR zs p' none).1, vt)]).length) := fun vt => by rw [List.length_append, hl.out]; rfl
          unfold ItmOut at h76
          generalize itB (itR zs p' none).1 0 g' p' (itR zs p' none).2.2 = B3 at *
          generalize itG (itR zs p' none).1 0 g' = G3 at *
          generalize (itR zs p' none).2.1 = P3 at *
          generalize (itR zs p' none).1 = X at *
          clear hL hl hk hrs'
          go_wp2_with (first
            | (go_at_call 32; (with_reducible refine (h32.out).mono ?_); rintro e w2 ⟨rfl, hw2⟩; subst w2)
            | (go_at_call 76; (with_reducible refine (h76.out).mono ?_); rintro e w3 ⟨v3, rfl, ho3, hE3⟩; obtain ⟨a3, c3, rfl⟩ := own_slice ho3; obtain ⟨hm1, hm2⟩ := hmid.out w3 (.slice a3 X.e.terms.length c3) hE3; replace ho3 := Hid.intro ho3; replace hE3 := Hid.intro hE3; replace hm1 := Hid.intro hm1)
            | (at_builtin; go_must (refine wpList_app rfl (.tmp 28) (.tmp 31) 26 rfl w.heap.size 86 i1 _ 10 104 Tryz.underlying26 hi1 hy0 hy1 hy2 rfl (by decide) (.slice a9 l9 c9) l9 (rowI L) rfl hm1.out (.slice (some ⟨w3.heap.size, 0, none⟩) 1 1) 1 (itmCells X (.slice a3 X.e.terms.length c3)).toList rfl (.inr ⟨_, _, rfl, cells_new w3 (itmCells X (.slice a3 X.e.terms.length c3)) 86⟩) rfl (by simp [Value.oneCell']) (by unfold maxLen; omega) (by omega) hm2 ?_; intro v' w4 ho4 hg4 hw4; have hn4 := Hid.intro (hnx.out w3 _ v' w4 hE3.out ho3.out ho4 hg4); obtain ⟨a4, c4, rfl⟩ := own_slice ho4; clear ho4 hg4 hw4)))
          all_goals first | omega | skip
          go_roundw
          case rel => exact ⟨j + 1, _, _, n' + 1, _, _, a4, l9 + 1, c4, by omega, by go_num, rfl, by omega, by omega, hll.out _, by rw [← hll.out]; exact hn4⟩
          case measure => simp [intOf]; omega
      · obtain rfl : j = n0 := by omega
        go_wp2_with fail
        all_goals first | omega | skip
        go_ret
        have hres : R = (L.map (·.1), g', p', b') := by
          rw [← hL.out.res, Nat.sub_self, rdItLoop]
        rw [hres, hl.out]
        exact ⟨_, L, rfl, hL.out.own, rfl, ⟨hL.out.rs, hL.out.gr, hL.out.set.more (by omega), hL.out.tab⟩⟩
set_option maxHeartbeats 16000000 in
theorem dataItems_is (h : RS w r a c zs p bad rp (.map (some b)) last) (hS : SetIs w b n g) (hn : n ≤ 2000000) (hT : Tab w) (hlo : 3 ≤ r ∧ 3 ≤ b ∧ r < w.heap.size ∧ b < w.heap.size ∧ b ≠ r) (ha : ∀ x, a = some x → x.block ≠ b) (most : Int) (hmo : 0 ≤ most ∧ most ≤ 8192) :
    Calls Tryz.prog 75 #[.pointer (some ⟨r, 0, none⟩), .int .i64 most, .func (.func 77) #[.pointer (some ⟨r, 0, none⟩)] #[]] w fun e w' => ItsOut w r a c zs b n last (rdItems zs 1 most g p bad) e w' := by
  obtain ⟨i1, hi1, hy0, hy1, hy2⟩ := info_parts info91
  have hbd := rdV_bd h.lies.1 p
  obtain ⟨_, c1, _, _, _⟩ := five_read h.blk
  have h113 := Hid.intro (num2_is h)
  have hR : Hid (rdItLoop zs 1 (rdV zs p 2).toNat [] g (rdP zs p 2) (manyB (rdV zs p 2) most p (rdB zs p 2 bad)) = rdItems zs 1 most g p bad) := rfl
  generalize rdItems zs 1 most g p bad = R at *
  obtain ⟨n0, hn0⟩ : ∃ n0 : Nat, rdV zs p 2 = (n0 : Int) := ⟨(rdV zs p 2).toNat, by omega⟩
  rw [hn0] at h113 hR hbd
  have hn1 : n0 ≤ 65535 := by omega
  rw [Int.toNat_natCast] at hR
  generalize rdP zs p 2 = p1 at *
  generalize rdB zs p 2 bad = b1 at *
  have hSH := Hid.intro hS
  have hTH := Hid.intro hT
  have haH := Hid.intro ha
  have hloH := Hid.intro hlo
  have hst : Hid (∀ w1 (rp1 : Option Nat) b2, w.grownBy w1 (some r) → RS w1 r a c zs p1 b2 rp1 (.map (some b)) last → b2 = manyB n0 most p b1 → IL w r a c zs b last 1 R n0 [] g n p1 b2 (.slice none 0 0) w1) := fun w1 rp1 b2 g1 hR1 hb2 =>
    ⟨⟨rp1, hR1⟩, ⟨World.ownsRow_nil _ _ _ _, fun q hq => by cases hq⟩, G2.of g1 (fun j e => .inl (Option.some.inj e).symm), hS.blk (g1.block b hS.lt (fun e => hlo.2.2.2.2 (Option.some.inj e))), hT.grown g1 hlo.1, by rw [hb2]; exact hR.out, hlo, ha⟩
  clear hn0 hbd h hS hT ha hR
  have hloop : Hid (∀ (w1 : World) (b2 : Rfu), IL w r a c zs b last 1 R n0 [] g n p1 b2 (.slice none 0 0) w1 → True) := fun _ _ _ => trivial
  by_cases hmany : (n0 : Int) > most
  · have hmb : Hid (manyB n0 most p b1 = firstR b1 ((p : Int), 4)) := if_pos hmany
    go_enter Tryz.func75, Tryz.ntmps75
    go_wp2_with (first
      | (go_at_call 113; (with_reducible refine (h113.out).mono ?_); rintro e w1 ⟨rfl, g1, rp1, hR1⟩; replace g1 := Hid.intro g1; replace hR1 := Hid.intro hR1)
      | (go_at_call 82; (with_reducible refine (refuse_is hR1.out _ _).mono ?_); rintro e w2 ⟨rfl, g2, rp2, hR2⟩; have hL0 := Hid.intro (hst.out w2 rp2 _ (grown_trans g1.out g2) hR2 hmb.out.symm); clear g2 hR2))
    all_goals first | omega | skip
    clear h113 hst c1 g1 hR1
    go_loopw [9, 24] (fun v9 v24 wr => ∃ (j : Nat) (L : List (Itm × Value)) (g' : INm) (n' p' : Nat) (b' : Rfu) (a9 : Option Addr) (l9 c9 : Nat), j ≤ n0 ∧ v24 = .int .i64 (j : Int) ∧ v9 = .slice a9 l9 c9 ∧ l9 ≤ j ∧ n' ≤ n + j ∧ Hid (l9 = L.length) ∧ Hid (IL w r a c zs b last 1 R (n0 - j) L g' n' p' b' (.slice a9 L.length c9) wr)) (fun v9 v24 _ => n0 - (intOf v24).toNat)
    case atStart => exact ⟨0, [], _, _, _, _, none, 0, 0, by omega, rfl, rfl, by omega, by omega, rfl, hL0⟩
    case round =>
      obtain ⟨j, L, g', n', p', b', a9, l9, c9, hj, rfl, rfl, hl9, hn', hl, hL⟩ := hrel
      clear hL0
      by_cases hjn : j < n0
      · have hk : Hid (n0 - j = (n0 - (j + 1)) + 1) := by show _ = _; omega
        obtain ⟨rp', hrs'⟩ := hL.out.rs
        have h32 := Hid.intro (refused_is hrs')
        cases b' with
        | some f =>
          replace hrs' := Hid.intro hrs'
          go_wp2_with (go_at_call 32; (with_reducible refine (h32.out).mono ?_); rintro e w2 ⟨rfl, hw2⟩; subst w2)
          all_goals first | omega | skip
          go_ret
          have hres : R = ([], g', p', some f) := by
            rw [← hL.out.res, hk.out, rdItLoop]
            rfl
          rw [hres]
          exact ⟨_, [], rfl, ⟨World.ownsRow_nil _ _ _ _, fun q hq => by cases hq⟩, rfl, ⟨⟨rp', hrs'.out⟩, hL.out.gr, hL.out.set.more (by omega), hL.out.tab⟩⟩
        | none =>
          have h76 := Hid.intro (dataItem_is hrs' hL.out.set (by omega) hL.out.tab hL.out.los hL.out.ab)
          have hnx : Hid (∀ w2 vt v' w4, IE wr r a c zs b (n' + 1) (itG (itR zs p' none).1 1 g') last (itR zs p' none).2.1 (itB (itR zs p' none).1 1 g' p' (itR zs p' none).2.2) w2 → w2.ownsRow wr.heap.size 107 2 vt (itR zs p' none).1.e.terms.length (rowT (itR zs p' none).1.e.terms) → w4.ownsRow w.heap.size 86 10 v' (l9 + 1) (rowI L ++ (itmCells (itR zs p' none).1 vt).toList) → (w2.alloc (.cells (itmCells (itR zs p' none).1 vt) 86)).grownBy w4 (Value.slice a9 l9 c9).ownBlock → IL w r a c zs b last 1 R (n0 - (j + 1)) (L ++ [((itR zs p' none).1, vt)]) (itG (itR zs p' none).1 1 g') (n' + 1) (itR zs p' none).2.1 (itB (itR zs p' none).1 1 g' p' (itR zs p' none).2.2) v' w4) := fun w2 vt v' w4 h1 h2 h3 h4 => by
            have hh := hL.out
            rw [hk.out] at hh
            rw [hl.out] at h3 h4
            exact hh.next h1 h2 _ h3 h4
          have hmid : Hid (∀ w2 vt, IE wr r a c zs b (n' + 1) (itG (itR zs p' none).1 1 g') last (itR zs p' none).2.1 (itB (itR zs p' none).1 1 g' p' (itR zs p' none).2.2) w2 → (w2.alloc (.cells (itmCells (itR zs p' none).1 vt) 86)).ownsRow w.heap.size 86 10 (.slice a9 l9 c9) l9 (rowI L) ∧ w.heap.size ≤ (w2.alloc (.cells (itmCells (itR zs p' none).1 vt) 86)).heap.size) := fun w2 vt h1 => by
            have := (hL.out.mid h1 (.cells (itmCells (itR zs p' none).1 vt) 86)).row
            rw [← hl.out] at this
            exact ⟨this, by have := hL.out.gr.size; have := h1.gr.size; simp; omega⟩
          have hll : Hid (∀ vt, l9 + 1 = (L ++ [((itR zs p' none).1, vt)]).length) := fun vt => by rw [List.length_append, hl.out]; rfl
          unfold ItmOut at h76
          generalize itB (itR zs p' none).1 1 g' p' (itR zs p' none).2.2 = B3 at *
          generalize itG (itR zs p' none).1 1 g' = G3 at *
          generalize (itR zs p' none).2.1 = P3 at *
          generalize (itR zs p' none).1 = X at *
          clear hL hl hk hrs'
          go_wp2_with (first
            | (go_at_call 32; (with_reducible refine (h32.out).mono ?_); rintro e w2 ⟨rfl, hw2⟩; subst w2)
            | (go_at_call 77; (with_reducible refine (h76.out).mono ?_); rintro e w3 ⟨v3, rfl, ho3, hE3⟩; obtain ⟨a3, c3, rfl⟩ := own_slice ho3; obtain ⟨hm1, hm2⟩ := hmid.out w3 (.slice a3 X.e.terms.length c3) hE3; replace ho3 := Hid.intro ho3; replace hE3 := Hid.intro hE3; replace hm1 := Hid.intro hm1)
            | (at_builtin; go_must (refine wpList_app rfl (.tmp 28) (.tmp 31) 26 rfl w.heap.size 86 i1 _ 10 104 Tryz.underlying26 hi1 hy0 hy1 hy2 rfl (by decide) (.slice a9 l9 c9) l9 (rowI L) rfl hm1.out (.slice (some ⟨w3.heap.size, 0, none⟩) 1 1) 1 (itmCells X (.slice a3 X.e.terms.length c3)).toList rfl (.inr ⟨_, _, rfl, cells_new w3 (itmCells X (.slice a3 X.e.terms.length c3)) 86⟩) rfl (by simp [Value.oneCell']) (by unfold maxLen; omega) (by omega) hm2 ?_; intro v' w4 ho4 hg4 hw4; have hn4 := Hid.intro (hnx.out w3 _ v' w4 hE3.out ho3.out ho4 hg4); obtain ⟨a4, c4, rfl⟩ := own_slice ho4; clear ho4 hg4 hw4)))
          all_goals first | omega | skip
          go_roundw
          case rel => exact ⟨j + 1, _, _, n' + 1, _, _, a4, l9 + 1, c4, by omega, by go_num, rfl, by omega, by omega, hll.out _, by rw [← hll.out]; exact hn4⟩
          case measure => simp [intOf]; omega
      · obtain rfl : j = n0 := by omega
        go_wp2_with fail
        all_goals first | omega | skip
        go_ret
        have hres : R = (L.map (·.1), g', p', b') := by
          rw [← hL.out.res, Nat.sub_self, rdItLoop]
        rw [hres, hl.out]
        exact ⟨_, L, rfl, hL.out.own, rfl, ⟨hL.out.rs, hL.out.gr, hL.out.set.more (by omega), hL.out.tab⟩⟩
  · have hmb : Hid (manyB n0 most p b1 = b1) := if_neg hmany
    go_enter Tryz.func75, Tryz.ntmps75
    go_wp2_with (go_at_call 113; (with_reducible refine (h113.out).mono ?_); rintro e w1 ⟨rfl, g1, rp1, hR1⟩; have hL0 := Hid.intro (hst.out w1 rp1 _ g1 hR1 hmb.out.symm); clear g1 hR1)
    all_goals first | omega | skip
    clear h113 hst c1
    go_loopw [9, 24] (fun v9 v24 wr => ∃ (j : Nat) (L : List (Itm × Value)) (g' : INm) (n' p' : Nat) (b' : Rfu) (a9 : Option Addr) (l9 c9 : Nat), j ≤ n0 ∧ v24 = .int .i64 (j : Int) ∧ v9 = .slice a9 l9 c9 ∧ l9 ≤ j ∧ n' ≤ n + j ∧ Hid (l9 = L.length) ∧ Hid (IL w r a c zs b last 1 R (n0 - j) L g' n' p' b' (.slice a9 L.length c9) wr)) (fun v9 v24 _ => n0 - (intOf v24).toNat)
    case atStart => exact ⟨0, [], _, _, _, _, none, 0, 0, by omega, rfl, rfl, by omega, by omega, rfl, hL0⟩
    case round =>
      obtain ⟨j, L, g', n', p', b', a9, l9, c9, hj, rfl, rfl, hl9, hn', hl, hL⟩ := hrel
      clear hL0
      by_cases hjn : j < n0
      · have hk : Hid (n0 - j = (n0 - (j + 1)) + 1) := by show _ = _; omega
        obtain ⟨rp', hrs'⟩ := hL.out.rs
        have h32 := Hid.intro (refused_is hrs')
        cases b' with
        | some f =>
          replace hrs' := Hid.intro hrs'
          go_wp2_with (go_at_call 32; (with_reducible refine (h32.out).mono ?_); rintro e w2 ⟨rfl, hw2⟩; subst w2)
          all_goals first | omega | skip
          go_ret
          have hres : R = ([], g', p', some f) := by
            rw [← hL.out.res, hk.out, rdItLoop]
            rfl
          rw [hres]
          exact ⟨_, [], rfl, ⟨World.ownsRow_nil _ _ _ _, fun q hq => by cases hq⟩, rfl, ⟨⟨rp', hrs'.out⟩, hL.out.gr, hL.out.set.more (by omega), hL.out.tab⟩⟩
        | none =>
          have h76 := Hid.intro (dataItem_is hrs' hL.out.set (by omega) hL.out.tab hL.out.los hL.out.ab)
          have hnx : Hid (∀ w2 vt v' w4, IE wr r a c zs b (n' + 1) (itG (itR zs p' none).1 1 g') last (itR zs p' none).2.1 (itB (itR zs p' none).1 1 g' p' (itR zs p' none).2.2) w2 → w2.ownsRow wr.heap.size 107 2 vt (itR zs p' none).1.e.terms.length (rowT (itR zs p' none).1.e.terms) → w4.ownsRow w.heap.size 86 10 v' (l9 + 1) (rowI L ++ (itmCells (itR zs p' none).1 vt).toList) → (w2.alloc (.cells (itmCells (itR zs p' none).1 vt) 86)).grownBy w4 (Value.slice a9 l9 c9).ownBlock → IL w r a c zs b last 1 R (n0 - (j + 1)) (L ++ [((itR zs p' none).1, vt)]) (itG (itR zs p' none).1 1 g') (n' + 1) (itR zs p' none).2.1 (itB (itR zs p' none).1 1 g' p' (itR zs p' none).2.2) v' w4) := fun w2 vt v' w4 h1 h2 h3 h4 => by
            have hh := hL.out
            rw [hk.out] at hh
            rw [hl.out] at h3 h4
            exact hh.next h1 h2 _ h3 h4
          have hmid : Hid (∀ w2 vt, IE wr r a c zs b (n' + 1) (itG (itR zs p' none).1 1 g') last (itR zs p' none).2.1 (itB (itR zs p' none).1 1 g' p' (itR zs p' none).2.2) w2 → (w2.alloc (.cells (itmCells (itR zs p' none).1 vt) 86)).ownsRow w.heap.size 86 10 (.slice a9 l9 c9) l9 (rowI L) ∧ w.heap.size ≤ (w2.alloc (.cells (itmCells (itR zs p' none).1 vt) 86)).heap.size) := fun w2 vt h1 => by
            have := (hL.out.mid h1 (.cells (itmCells (itR zs p' none).1 vt) 86)).row
            rw [← hl.out] at this
            exact ⟨this, by have := hL.out.gr.size; have := h1.gr.size; simp; omega⟩
          have hll : Hid (∀ vt, l9 + 1 = (L ++ [((itR zs p' none).1, vt)]).length) := fun vt => by rw [List.length_append, hl.out]; rfl
          unfold ItmOut at h76
          generalize itB (itR zs p' none).1 1 g' p' (itR zs p' none).2.2 = B3 at *
          generalize itG (itR zs p' none).1 1 g' = G3 at *
          generalize (itR zs p' none).2.1 = P3 at *
          generalize (itR zs p' none).1 = X at *
          clear hL hl hk hrs'
          go_wp2_with (first
            | (go_at_call 32; (with_reducible refine (h32.out).mono ?_); rintro e w2 ⟨rfl, hw2⟩; subst w2)
            | (go_at_call 77; (with_reducible refine (h76.out).mono ?_); rintro e w3 ⟨v3, rfl, ho3, hE3⟩; obtain ⟨a3, c3, rfl⟩ := own_slice ho3; obtain ⟨hm1, hm2⟩ := hmid.out w3 (.slice a3 X.e.terms.length c3) hE3; replace ho3 := Hid.intro ho3; replace hE3 := Hid.intro hE3; replace hm1 := Hid.intro hm1)
            | (at_builtin; go_must (refine wpList_app rfl (.tmp 28) (.tmp 31) 26 rfl w.heap.size 86 i1 _ 10 104 Tryz.underlying26 hi1 hy0 hy1 hy2 rfl (by decide) (.slice a9 l9 c9) l9 (rowI L) rfl hm1.out (.slice (some ⟨w3.heap.size, 0, none⟩) 1 1) 1 (itmCells X (.slice a3 X.e.terms.length c3)).toList rfl (.inr ⟨_, _, rfl, cells_new w3 (itmCells X (.slice a3 X.e.terms.length c3)) 86⟩) rfl (by simp [Value.oneCell']) (by unfold maxLen; omega) (by omega) hm2 ?_; intro v' w4 ho4 hg4 hw4; have hn4 := Hid.intro (hnx.out w3 _ v' w4 hE3.out ho3.out ho4 hg4); obtain ⟨a4, c4, rfl⟩ := own_slice ho4; clear ho4 hg4 hw4)))
          all_goals first | omega | skip
          go_roundw
          case rel => exact ⟨j + 1, _, _, n' + 1, _, _, a4, l9 + 1, c4, by omega, by go_num, rfl, by omega, by omega, hll.out _, by rw [← hll.out]; exact hn4⟩
          case measure => simp [intOf]; omega
      · obtain rfl : j = n0 := by omega
        go_wp2_with fail
        all_goals first | omega | skip
        go_ret
        have hres : R = (L.map (·.1), g', p', b') := by
          rw [← hL.out.res, Nat.sub_self, rdItLoop]
        rw [hres, hl.out]
        exact ⟨_, L, rfl, hL.out.own, rfl, ⟨hL.out.rs, hL.out.gr, hL.out.set.more (by omega), hL.out.tab⟩⟩
end
end Go.Proofs.YtmndccbeddaphaaGreatDoor

/- object's reader: an item. -/
import Derived.Test.YtmndccbeddaphaaGreatDoorOrd9
namespace Go.Proofs.YtmndccbeddaphaaGreatDoor
open Go.ChangeShapes Go.WideShapes Go.ChangeAt Go.RowKit
set_option linter.unusedVariables false
set_option linter.unusedSimpArgs false
set_option maxRecDepth 100000
abbrev itZ : Array Value := itA 0 ⟨#[]⟩ 0 0 0 0 0 none 0 0 0 0
def itR (zs : List Int) (p : Nat) (bad : Option (Int × Int)) : Itm × Nat × Option (Int × Int) :=
  if rdV zs p 1 = 1 then (⟨1, txL zs (rdP zs p 1), 0, 0, 0, 0, 0, linE, 0⟩, txP zs (rdP zs p 1), txB zs (rdP zs p 1) (rdB zs p 1 bad))
  else if rdV zs p 1 = 2 then (⟨2, [], cdOp zs (rdP zs p 1), cdA zs (rdP zs p 1), cdB zs (rdP zs p 1), cdM zs (rdP zs p 1), 0, ⟨cdL zs (rdP zs p 1) (rdB zs p 1 bad), cdN zs (rdP zs p 1) (rdB zs p 1 bad)⟩, 0⟩, cdP zs (rdP zs p 1) (rdB zs p 1 bad), cdE zs (rdP zs p 1) (rdB zs p 1 bad))
  else if rdV zs p 1 = 3 then (⟨3, [], 0, 0, 0, 0, 0, linE, rdV zs (rdP zs p 1) 2⟩, rdP zs (rdP zs p 1) 2, rdB zs (rdP zs p 1) 2 (rdB zs p 1 bad))
  else if rdV zs p 1 = 5 then (⟨5, [], 0, 0, 0, 0, 0, linE, O.sgn (rdV zs (rdP zs p 1) 2) 2⟩, rdP zs (rdP zs p 1) 2, rdB zs (rdP zs p 1) 2 (rdB zs p 1 bad))
  else if rdV zs p 1 = 6 then (⟨6, [], 0, 0, 0, 0, 0, ⟨liL zs (rdP zs p 1) (rdB zs p 1 bad), liN zs (rdP zs p 1) (rdB zs p 1 bad)⟩, 0⟩, liP zs (rdP zs p 1) (rdB zs p 1 bad), liB zs (rdP zs p 1) (rdB zs p 1 bad))
  else if rdV zs p 1 = 7 then (⟨7, [], 0, 0, 0, 0, 0, linE, rdV zs (rdP zs p 1) 4⟩, rdP zs (rdP zs p 1) 4, rdB zs (rdP zs p 1) 4 (rdB zs p 1 bad))
  else (⟨rdV zs p 1, [], 0, 0, 0, 0, 0, linE, 0⟩, rdP zs p 1, rdB zs p 1 bad)
def itOk (x : Itm) (sec : Int) : Bool := okB x.kind (str x.name) x.op x.a x.b x.m x.form x.e.terms x.e.const x.n sec
def itG (x : Itm) (sec : Int) (g : List (List UInt8)) : List (List UInt8) := if itOk x sec = true ∧ x.kind = 1 then givN g x.name else g
def itB (x : Itm) (sec : Int) (g : List (List UInt8)) (p : Nat) (b : Option (Int × Int)) : Option (Int × Int) := if itOk x sec = true ∧ ¬ (x.kind = 1 ∧ x.name ∈ g) then b else firstR b ((p : Int), 31)
section
variable {w w' w1 : World} {r : Nat} {a : Option Addr} {c : Nat} {zs : List Int} {p : Nat} {bad : Option (Int × Int)} {rp : Option Nat} {mv : Value} {last : List UInt8} {b n : Nat} {g : List (List UInt8)} {q : Nat} {A : Array Value} {w2 : World}
structure IT (w : World) (r : Nat) (a : Option Addr) (c : Nat) (zs : List Int) (b n : Nat) (g : List (List UInt8)) (last : List UInt8) (q : Nat) (A : Array Value) (p : Nat) (bad : Option (Int × Int)) (rp : Option Nat) (w2 : World) : Prop where
  rs : RS w2 r a c zs p bad rp (.map (some b)) last
  row : w2.heap[q]? = some (.cells A 86 (0, 0))
  res : w2.heap[w.heap.size]? = some (.cells itZ 86 (0, 0))
  gr : G2 w w2 r b
  set : SetIs w2 b n g
  tab : Tab w2
  lt : w.heap.size < q
  lo : 3 ≤ r ∧ 3 ≤ b ∧ r < w.heap.size ∧ b < w.heap.size ∧ b ≠ r
  ab : ∀ x, a = some x → x.block ≠ b
theorem CI.new (hR : RS w1 r a c zs p bad rp mv last) (hT : Tab w1) (hlo : 3 ≤ r) (k : Int) : CI w1 r a c zs mv last w1.heap.size (itA k ⟨#[]⟩ 0 0 0 0 0 none 0 0 0 0) p bad rp (w1.alloc (.cells (itA k ⟨#[]⟩ 0 0 0 0 0 none 0 0 0 0) 86)) := by
  have h0 := heap_alloc_new w1 (.cells (itA k ⟨#[]⟩ 0 0 0 0 0 none 0 0 0 0) 86)
  have hb := below_alloc w1 (.cells (itA k ⟨#[]⟩ 0 0 0 0 0 none 0 0 0 0) 86)
  exact ⟨hR.below hb, h0, G2.of (grown_of_below hb) (fun j e => by cases e), hT.below hb hT.size, hlo, blk_lt hR.blk⟩
theorem CI.it (h : CI w1 r a c zs (.map (some b)) last q A p bad rp w2) (hq : q = w1.heap.size) (hg : (w.alloc (.cells itZ 86)).grownBy w1 (some r)) (hS : SetIs w b n g) (hT : 3 ≤ b ∧ r < w.heap.size ∧ b < w.heap.size ∧ b ≠ r) (ha : ∀ x, a = some x → x.block ≠ b) : IT w r a c zs b n g last q A p bad rp w2 := by
  have hs : (w.alloc (.cells itZ 86)).heap.size = w.heap.size + 1 := by simp
  have g2 := h.gr.grown (.inr (by omega))
  have g3 := grown_trans hg g2
  have g4 := grown_trans (World.grownBy_alloc w (.cells itZ 86) (some r)) g3
  obtain ⟨t1, t2, t3, t4⟩ := hT
  refine ⟨h.rs, h.row, ?_, .of g4 (fun j e => .inl (Option.some.inj e).symm), hS.blk (g4.block b t3 (fun e => t4 (Option.some.inj e))), h.tab, by have := hg.size; omega, ⟨h.lo, t1, t2, t3, t4⟩, ha⟩
  have h0 := heap_alloc_new w (.cells itZ 86)
  exact (g3.block _ (blk_lt h0) (fun e => by have := Option.some.inj e; omega)).trans h0
theorem IT.below {w3 : World} (h : IT w r a c zs b n g last q A p bad rp w2) (hb : Below w2.heap.size w2 w3) : IT w r a c zs b n g last q A p bad rp w3 :=
  ⟨h.rs.below hb, (hb.block q (blk_lt h.row)).trans h.row, (hb.block _ (blk_lt h.res)).trans h.res, h.gr.trans (.of (grown_of_below hb) (fun j e => by cases e)), h.set.blk (hb.block b h.set.lt), h.tab.below hb h.tab.size, h.lt, h.lo, h.ab⟩
theorem IT.num {w3 : World} (h : IT w r a c zs b n g last q A p bad rp w2) {p' : Nat} {bad' : Option (Int × Int)} {rp' : Option Nat} (hg : w2.grownBy w3 (some r)) (hR : RS w3 r a c zs p' bad' rp' (.map (some b)) last) : IT w r a c zs b n g last q A p' bad' rp' w3 := by
  obtain ⟨t0, t1, t2, t3, t4⟩ := h.lo
  have hl := h.lt
  exact ⟨hR, (hg.block q (blk_lt h.row) (fun e => by have := Option.some.inj e; omega)).trans h.row, (hg.block _ (blk_lt h.res) (fun e => by have := Option.some.inj e; omega)).trans h.res, h.gr.trans (.of hg (fun j e => .inl (Option.some.inj e).symm)), h.set.blk (hg.block b h.set.lt (fun e => t4 (Option.some.inj e))), h.tab.grown hg t0, h.lt, h.lo, h.ab⟩
theorem IT.give {w3 : World} {n' : Nat} {g' : List (List UInt8)} (h : IT w r a c zs b n g last q A p bad rp w2) (hg : w2.grownBy w3 (some b)) (hS : SetIs w3 b n' g') : IT w r a c zs b n' g' last q A p bad rp w3 := by
  obtain ⟨t0, t1, t2, t3, t4⟩ := h.lo
  have hl := h.lt
  exact ⟨h.rs.map h.set h.ab hg, (hg.block q (blk_lt h.row) (fun e => by have := Option.some.inj e; omega)).trans h.row, (hg.block _ (blk_lt h.res) (fun e => by have := Option.some.inj e; omega)).trans h.res, h.gr.trans (.of hg (fun j e => .inr (.inl (Option.some.inj e).symm))), hS, h.tab.grown hg t1, h.lt, h.lo, h.ab⟩
structure IE (w : World) (r : Nat) (a : Option Addr) (c : Nat) (zs : List Int) (b n : Nat) (g : List (List UInt8)) (last : List UInt8) (p : Nat) (bad : Option (Int × Int)) (w2 : World) : Prop where
  rs : ∃ rp, RS w2 r a c zs p bad rp (.map (some b)) last
  gr : G2 w w2 r b
  set : SetIs w2 b n g
  tab : Tab w2
theorem IT.end {n' : Nat} (h : IT w r a c zs b n g last q A p bad rp w2) (hn : n ≤ n') (v0 v1 v2 v3 v4 v5 v6 v7 v8 v9 : Value) : IE w r a c zs b n' g last p bad (put10 w2 w.heap.size v0 v1 v2 v3 v4 v5 v6 v7 v8 v9) ∧ (put10 w2 w.heap.size v0 v1 v2 v3 v4 v5 v6 v7 v8 v9).heap[w.heap.size]? = some (.cells #[v0, v1, v2, v3, v4, v5, v6, v7, v8, v9] 86 (0, 0)) ∧ w2.grownBy (put10 w2 w.heap.size v0 v1 v2 v3 v4 v5 v6 v7 v8 v9) (some w.heap.size) := by
  obtain ⟨t0, t1, t2, t3, t4⟩ := h.lo
  obtain ⟨s, k⟩ := put10_is h.res v0 v1 v2 v3 v4 v5 v6 v7 v8 v9
  exact ⟨⟨⟨_, h.rs.far t2 h.res (by decide) k⟩, ⟨k.os.trans h.gr.os, k.tape.trans h.gr.tape, k.output.trans h.gr.output, Nat.le_trans h.gr.size k.size, fun j hj h1 h2 => (k.block j (Nat.lt_of_lt_of_le hj h.gr.size) (fun e => by have := Option.some.inj e; omega)).trans (h.gr.block j hj h1 h2)⟩, (h.set.blk (k.block b h.set.lt (fun e => by have := Option.some.inj e; omega))).more hn, h.tab.grown k (by omega)⟩, s, k⟩
theorem right_two (sec : Int) (ok : Bool) (h : sec = 0 ∨ sec = 1) : rightN sec ok = if ok then 0 else 31 := by
  unfold rightN
  rcases h with rfl | rfl <;> simp
theorem sgn_bd (n m : Int) : -2147483648 ≤ O.sgn n m ∧ O.sgn n m ≤ 2147483647 := by
  unfold O.sgn wrap32
  repeat' split
  all_goals omega
set_option maxHeartbeats 16000000 in
theorem item_1 (h : RS w r a c zs p bad rp (.map (some b)) last) (hS : SetIs w b n g) (hn : n ≤ 3000000) (hT : Tab w) (hlo : 3 ≤ r ∧ 3 ≤ b ∧ r < w.heap.size ∧ b < w.heap.size ∧ b ≠ r) (ha : ∀ x, a = some x → x.block ≠ b) (sec : Int) (hsec : sec = 0 ∨ sec = 1) (hk : rdV zs p 1 = 1) :
    Calls Tryz.prog 114 #[.pointer (some ⟨r, 0, none⟩), .int .i64 sec] w fun e w' => ∃ v, e = .returned (.agg (itmCells (itR zs p bad).1 v)) ∧ w'.ownsRow w.heap.size 107 2 v (itR zs p bad).1.e.terms.length (rowT (itR zs p bad).1.e.terms) ∧ IE w r a c zs b (n + 1) (itG (itR zs p bad).1 sec g) last (itR zs p bad).2.1 (itB (itR zs p bad).1 sec g p (itR zs p bad).2.2) w' := by
  have hz := h.lies.1
  have hA := Hid.intro (h.below (below_alloc w (.cells itZ 86)))
  have n1 := Hid.intro (num1_is hA.out)
  have hTA := Hid.intro (hT.alloc (.cells itZ 86))
  have hlt := blk_lt h.blk
  have c1 := (five_read hA.out.blk).2.1
  have hR : itR zs p bad = (⟨1, txL zs (rdP zs p 1), 0, 0, 0, 0, 0, linE, 0⟩, txP zs (rdP zs p 1), txB zs (rdP zs p 1) (rdB zs p 1 bad)) := by
    rw [itR, if_pos hk]
  have hX : (itR zs p bad).1 = _ := congrArg Prod.fst hR
  have hP : (itR zs p bad).2.1 = _ := congrArg (fun x => x.2.1) hR
  have hB : (itR zs p bad).2.2 = _ := congrArg (fun x => x.2.2) hR
  dsimp only at hX hP hB
  rw [hX, hP, hB]
  clear hX hP hB hR
  rw [hk] at n1
  have hsz : (txL zs (rdP zs p 1)).length ≤ 65535 := by
    have := txL_le hz (rdP zs p 1)
    rw [ByteArray.size, ← Array.length_toList] at this
    exact this
  have n2 : Hid (∀ w1 rp1, RS w1 r a c zs (rdP zs p 1) (rdB zs p 1 bad) rp1 (.map (some b)) last → Calls Tryz.prog 115 #[.pointer (some ⟨r, 0, none⟩)] w1 fun e w' => e = .returned (.string (str (txL zs (rdP zs p 1)))) ∧ w1.grownBy w' (some r) ∧ ∃ rp', RS w' r a c zs (txP zs (rdP zs p 1)) (txB zs (rdP zs p 1) (rdB zs p 1 bad)) rp' (.map (some b)) last) := fun w1 rp1 h => by
    rw [str_txL]
    exact text_is h
  generalize txL zs (rdP zs p 1) = sN at *
  generalize txB zs (rdP zs p 1) (rdB zs p 1 bad) = b2 at *
  generalize txP zs (rdP zs p 1) = p2 at *
  generalize rdB zs p 1 bad = b1 at *
  generalize rdP zs p 1 = p1 at *
  have h101 : Hid (∀ w2, Tab w2 → Calls Tryz.prog 101 #[itV 1 (str sN) 0 0 0 0 0 none 0 0 0 0, .int .i64 sec] w2 fun e w' => e = .returned (.int .i64 (if itOk ⟨1, sN, 0, 0, 0, 0, 0, linE, 0⟩ sec then 0 else 31)) ∧ Below w2.heap.size w2 w') := fun w2 hT2 => by
    have := itemRight_any 1 (str sN) (by simp [str, ByteArray.size]; omega) 0 0 0 0 0 (by decide) none 0 [] 0 0 sec (by decide) w2 hT2 (.inl rfl) (by decide) (by simp)
    rw [right_two sec _ hsec] at this
    exact this
  have hG : itG ⟨1, sN, 0, 0, 0, 0, 0, linE, 0⟩ sec g = if itOk ⟨1, sN, 0, 0, 0, 0, 0, linE, 0⟩ sec then givN g sN else g := by unfold itG; simp
  have hBB : itB ⟨1, sN, 0, 0, 0, 0, 0, linE, 0⟩ sec g p b2 = if itOk ⟨1, sN, 0, 0, 0, 0, 0, linE, 0⟩ sec = true ∧ sN ∉ g then b2 else firstR b2 ((p : Int), 31) := by unfold itB; simp
  have hgv : Hid (∀ w3, w3.cell? ⟨r, 3, none⟩ = some (.map (some b)) → SetIs w3 b n g → r < w3.heap.size → Calls Tryz.prog 117 #[.pointer (some ⟨r, 0, none⟩), .string (str sN)] w3 fun e w' => e = .returned (.bool (decide (sN ∉ g))) ∧ SetIs w' b (n + 1) (givN g sN) ∧ w3.grownBy w' (some b)) := fun w3 h1 h2 h3 => give_is r b n g sN (by omega) hn w3 h1 h2 h3
  rw [hG, hBB]
  clear hG hBB
  generalize itOk ⟨1, sN, 0, 0, 0, 0, 0, linE, 0⟩ sec = ok at *
  have hSH := Hid.intro hS
  have haH := Hid.intro ha
  have hloH := Hid.intro hlo
  have hl1 := hlo.2.2.1
  clear h hS hT ha hA hlo hk hz
  dsimp only
  cases ok with
  | true =>
    by_cases hg : sN ∈ g
    · simp only [if_true, hg, not_true_eq_false, and_false, if_false, decide_false] at *
      go_enter Tryz.func114, Tryz.ntmps114
      go_wp2_with (first | (go_at_call 113; (with_reducible refine (n1.out).mono ?_); rintro e w1 ⟨rfl, g1, rp1, hR1⟩; have hz1 := g1.size; have hC1 := Hid.intro (CI.new hR1 (hTA.out.grown g1 hloH.out.1) hloH.out.1 1); have y0 := (rowIt hC1.out.row).1; replace g1 := Hid.intro g1; clear n1 hR1) | (go_at_call 115; (with_reducible refine (n2.out _ _ hC1.out.rs).mono ?_); rintro e w2 ⟨rfl, g2, rp2, hR2⟩; have hz2 := g2.size; have hD2 := Hid.intro (hC1.out.num g2 hR2); have f2 := fun j => frozen_of_row w2 w1.heap.size j _ 86 hD2.out.row; have d2 := (rowIt hD2.out.row).2.1; have hC2 := Hid.intro (hD2.out.set 1 (.string (str sN))); obtain ⟨x0, x1, x2, x3, x4, x5, x6, x7, x8, x9⟩ := rowIt hC2.out.row; clear g2 hR2 n2) | (go_at_call 101; (with_reducible refine (h101.out _ hC2.out.tab).mono ?_); rintro e w3 ⟨rfl, hb3⟩; have hI3 := Hid.intro ((hC2.out.it rfl g1.out hSH.out hloH.out.2 haH.out).below hb3); obtain ⟨u0, u1, u2, u3, u4, u5, u6, u7, u8, u9⟩ := rowIt hI3.out.row; obtain ⟨t0, t1, t2, t3, t4, t5, t6, t7, t8, t9⟩ := rowIt hI3.out.res; have tf := fun j => frozen_of_row w3 w.heap.size j _ 86 hI3.out.res; have cm := (five_read hI3.out.rs.blk).2.2.2.1; clear hb3 x0 x1 x2 x3 x4 x5 x6 x7 x8 x9) | (go_at_call 117; (with_reducible refine (hgv.out _ cm hI3.out.set (blk_lt hI3.out.rs.blk)).mono ?_); rintro e w5 ⟨rfl, hS5, g5⟩; clear u0 u1 u2 u3 u4 u5 u6 u7 u8 u9 t0 t1 t2 t3 t4 t5 t6 t7 t8 t9 tf cm; have hI5 := Hid.intro (hI3.out.give g5 hS5); obtain ⟨u0, u1, u2, u3, u4, u5, u6, u7, u8, u9⟩ := rowIt hI5.out.row; obtain ⟨t0, t1, t2, t3, t4, t5, t6, t7, t8, t9⟩ := rowIt hI5.out.res; have tf := fun j => frozen_of_row w5 w.heap.size j _ 86 hI5.out.res; clear g5 hS5) | (go_at_call 82; (with_reducible refine (refuse_is hI5.out.rs _ _).mono ?_); rintro e w4 ⟨rfl, g4, rp4, hR4⟩; clear u0 u1 u2 u3 u4 u5 u6 u7 u8 u9 t0 t1 t2 t3 t4 t5 t6 t7 t8 t9 tf; have hI4 := Hid.intro (hI5.out.num g4 hR4); obtain ⟨u0, u1, u2, u3, u4, u5, u6, u7, u8, u9⟩ := rowIt hI4.out.row; obtain ⟨t0, t1, t2, t3, t4, t5, t6, t7, t8, t9⟩ := rowIt hI4.out.res; have tf := fun j => frozen_of_row w4 w.heap.size j _ 86 hI4.out.res; clear g4 hR4))
      all_goals first | omega | skip
      obtain ⟨e1, e2, e3⟩ := hI4.out.end (show _ ≤ n + 1 by omega) (.int .i64 1) (.string (str sN)) (.int .i64 0) (.int .i64 0) (.int .i64 0) (.int .i32 0) (.int .i64 0) (.slice none 0 0) (.int .u32 0) (.int .i64 0)
      obtain ⟨q0, q1, q2, q3, q4, q5, q6, q7, q8, q9⟩ := rowIt e2
      refine bodyPost_ret (by simp [results, Tryz.results114, go_sem, q0, q1, q2, q3, q4, q5, q6, q7, q8, q9]; try rfl) rfl ?_
      exact ⟨.slice none 0 0, rfl, World.ownsRow_nil _ _ _ _, e1⟩
    · simp only [if_true, hg, not_false_eq_true, and_true, if_true, decide_true] at *
      go_enter Tryz.func114, Tryz.ntmps114
      go_wp2_with (first | (go_at_call 113; (with_reducible refine (n1.out).mono ?_); rintro e w1 ⟨rfl, g1, rp1, hR1⟩; have hz1 := g1.size; have hC1 := Hid.intro (CI.new hR1 (hTA.out.grown g1 hloH.out.1) hloH.out.1 1); have y0 := (rowIt hC1.out.row).1; replace g1 := Hid.intro g1; clear n1 hR1) | (go_at_call 115; (with_reducible refine (n2.out _ _ hC1.out.rs).mono ?_); rintro e w2 ⟨rfl, g2, rp2, hR2⟩; have hz2 := g2.size; have hD2 := Hid.intro (hC1.out.num g2 hR2); have f2 := fun j => frozen_of_row w2 w1.heap.size j _ 86 hD2.out.row; have d2 := (rowIt hD2.out.row).2.1; have hC2 := Hid.intro (hD2.out.set 1 (.string (str sN))); obtain ⟨x0, x1, x2, x3, x4, x5, x6, x7, x8, x9⟩ := rowIt hC2.out.row; clear g2 hR2 n2) | (go_at_call 101; (with_reducible refine (h101.out _ hC2.out.tab).mono ?_); rintro e w3 ⟨rfl, hb3⟩; have hI3 := Hid.intro ((hC2.out.it rfl g1.out hSH.out hloH.out.2 haH.out).below hb3); obtain ⟨u0, u1, u2, u3, u4, u5, u6, u7, u8, u9⟩ := rowIt hI3.out.row; obtain ⟨t0, t1, t2, t3, t4, t5, t6, t7, t8, t9⟩ := rowIt hI3.out.res; have tf := fun j => frozen_of_row w3 w.heap.size j _ 86 hI3.out.res; have cm := (five_read hI3.out.rs.blk).2.2.2.1; clear hb3 x0 x1 x2 x3 x4 x5 x6 x7 x8 x9) | (go_at_call 117; (with_reducible refine (hgv.out _ cm hI3.out.set (blk_lt hI3.out.rs.blk)).mono ?_); rintro e w5 ⟨rfl, hS5, g5⟩; clear u0 u1 u2 u3 u4 u5 u6 u7 u8 u9 t0 t1 t2 t3 t4 t5 t6 t7 t8 t9 tf cm; have hI5 := Hid.intro (hI3.out.give g5 hS5); obtain ⟨u0, u1, u2, u3, u4, u5, u6, u7, u8, u9⟩ := rowIt hI5.out.row; obtain ⟨t0, t1, t2, t3, t4, t5, t6, t7, t8, t9⟩ := rowIt hI5.out.res; have tf := fun j => frozen_of_row w5 w.heap.size j _ 86 hI5.out.res; clear g5 hS5))
      all_goals first | omega | skip
      obtain ⟨e1, e2, e3⟩ := hI5.out.end (show _ ≤ n + 1 by omega) (.int .i64 1) (.string (str sN)) (.int .i64 0) (.int .i64 0) (.int .i64 0) (.int .i32 0) (.int .i64 0) (.slice none 0 0) (.int .u32 0) (.int .i64 0)
      obtain ⟨q0, q1, q2, q3, q4, q5, q6, q7, q8, q9⟩ := rowIt e2
      refine bodyPost_ret (by simp [results, Tryz.results114, go_sem, q0, q1, q2, q3, q4, q5, q6, q7, q8, q9]; try rfl) rfl ?_
      exact ⟨.slice none 0 0, rfl, World.ownsRow_nil _ _ _ _, e1⟩
  | false =>
    simp only [Bool.false_eq_true, if_false, false_and] at *
    go_enter Tryz.func114, Tryz.ntmps114
    go_wp2_with (first | (go_at_call 113; (with_reducible refine (n1.out).mono ?_); rintro e w1 ⟨rfl, g1, rp1, hR1⟩; have hz1 := g1.size; have hC1 := Hid.intro (CI.new hR1 (hTA.out.grown g1 hloH.out.1) hloH.out.1 1); have y0 := (rowIt hC1.out.row).1; replace g1 := Hid.intro g1; clear n1 hR1) | (go_at_call 115; (with_reducible refine (n2.out _ _ hC1.out.rs).mono ?_); rintro e w2 ⟨rfl, g2, rp2, hR2⟩; have hz2 := g2.size; have hD2 := Hid.intro (hC1.out.num g2 hR2); have f2 := fun j => frozen_of_row w2 w1.heap.size j _ 86 hD2.out.row; have d2 := (rowIt hD2.out.row).2.1; have hC2 := Hid.intro (hD2.out.set 1 (.string (str sN))); obtain ⟨x0, x1, x2, x3, x4, x5, x6, x7, x8, x9⟩ := rowIt hC2.out.row; clear g2 hR2 n2) | (go_at_call 101; (with_reducible refine (h101.out _ hC2.out.tab).mono ?_); rintro e w3 ⟨rfl, hb3⟩; have hI3 := Hid.intro ((hC2.out.it rfl g1.out hSH.out hloH.out.2 haH.out).below hb3); obtain ⟨u0, u1, u2, u3, u4, u5, u6, u7, u8, u9⟩ := rowIt hI3.out.row; obtain ⟨t0, t1, t2, t3, t4, t5, t6, t7, t8, t9⟩ := rowIt hI3.out.res; have tf := fun j => frozen_of_row w3 w.heap.size j _ 86 hI3.out.res; have cm := (five_read hI3.out.rs.blk).2.2.2.1; clear hb3 x0 x1 x2 x3 x4 x5 x6 x7 x8 x9) | (go_at_call 82; (with_reducible refine (refuse_is hI3.out.rs _ _).mono ?_); rintro e w4 ⟨rfl, g4, rp4, hR4⟩; clear u0 u1 u2 u3 u4 u5 u6 u7 u8 u9 t0 t1 t2 t3 t4 t5 t6 t7 t8 t9 tf; have hI4 := Hid.intro (hI3.out.num g4 hR4); obtain ⟨u0, u1, u2, u3, u4, u5, u6, u7, u8, u9⟩ := rowIt hI4.out.row; obtain ⟨t0, t1, t2, t3, t4, t5, t6, t7, t8, t9⟩ := rowIt hI4.out.res; have tf := fun j => frozen_of_row w4 w.heap.size j _ 86 hI4.out.res; clear g4 hR4))
    all_goals first | omega | skip
    obtain ⟨e1, e2, e3⟩ := hI4.out.end (show _ ≤ n + 1 by omega) (.int .i64 1) (.string (str sN)) (.int .i64 0) (.int .i64 0) (.int .i64 0) (.int .i32 0) (.int .i64 0) (.slice none 0 0) (.int .u32 0) (.int .i64 0)
    obtain ⟨q0, q1, q2, q3, q4, q5, q6, q7, q8, q9⟩ := rowIt e2
    refine bodyPost_ret (by simp [results, Tryz.results114, go_sem, q0, q1, q2, q3, q4, q5, q6, q7, q8, q9]; try rfl) rfl ?_
    exact ⟨.slice none 0 0, rfl, World.ownsRow_nil _ _ _ _, e1⟩
set_option maxHeartbeats 16000000 in
theorem item_2 (h : RS w r a c zs p bad rp (.map (some b)) last) (hS : SetIs w b n g) (hn : n ≤ 3000000) (hT : Tab w) (hlo : 3 ≤ r ∧ 3 ≤ b ∧ r < w.heap.size ∧ b < w.heap.size ∧ b ≠ r) (ha : ∀ x, a = some x → x.block ≠ b) (sec : Int) (hsec : sec = 0 ∨ sec = 1) (hk : rdV zs p 1 = 2) :
    Calls Tryz.prog 114 #[.pointer (some ⟨r, 0, none⟩), .int .i64 sec] w fun e w' => ∃ v, e = .returned (.agg (itmCells (itR zs p bad).1 v)) ∧ w'.ownsRow w.heap.size 107 2 v (itR zs p bad).1.e.terms.length (rowT (itR zs p bad).1.e.terms) ∧ IE w r a c zs b (n + 1) (itG (itR zs p bad).1 sec g) last (itR zs p bad).2.1 (itB (itR zs p bad).1 sec g p (itR zs p bad).2.2) w' := by
  have hz := h.lies.1
  have hA := Hid.intro (h.below (below_alloc w (.cells itZ 86)))
  have n1 := Hid.intro (num1_is hA.out)
  have hTA := Hid.intro (hT.alloc (.cells itZ 86))
  have hlt := blk_lt h.blk
  have c1 := (five_read hA.out.blk).2.1
  have hR : itR zs p bad = (⟨2, [], cdOp zs (rdP zs p 1), cdA zs (rdP zs p 1), cdB zs (rdP zs p 1), cdM zs (rdP zs p 1), 0, ⟨cdL zs (rdP zs p 1) (rdB zs p 1 bad), cdN zs (rdP zs p 1) (rdB zs p 1 bad)⟩, 0⟩, cdP zs (rdP zs p 1) (rdB zs p 1 bad), cdE zs (rdP zs p 1) (rdB zs p 1 bad)) := by
    rw [itR, if_neg (by omega), if_pos hk]
  have hX : (itR zs p bad).1 = _ := congrArg Prod.fst hR
  have hP : (itR zs p bad).2.1 = _ := congrArg (fun x => x.2.1) hR
  have hB : (itR zs p bad).2.2 = _ := congrArg (fun x => x.2.2) hR
  dsimp only at hX hP hB
  rw [hX, hP, hB]
  clear hX hP hB hR
  rw [hk] at n1
  have hL := cdL_le hz (rdP zs p 1) (rdB zs p 1 bad)
  have hM := sgn_bd (rdV zs (rdP zs (rdP zs (rdP zs (rdP zs p 1) 1) 1) 1) 4) 4
  rw [show O.sgn (rdV zs (rdP zs (rdP zs (rdP zs (rdP zs p 1) 1) 1) 1) 4) 4 = cdM zs (rdP zs p 1) from rfl] at hM
  have n2 : Hid (∀ w0 q w1 rp1, CI w0 r a c zs (.map (some b)) last q (itA 2 ⟨#[]⟩ 0 0 0 0 0 none 0 0 0 0) (rdP zs p 1) (rdB zs p 1 bad) rp1 w1 → _) := fun w0 q w1 rp1 h => code_is 2 ⟨#[]⟩ 0 h
  generalize cdL zs (rdP zs p 1) (rdB zs p 1 bad) = L at *
  generalize cdN zs (rdP zs p 1) (rdB zs p 1 bad) = Ln at *
  generalize cdE zs (rdP zs p 1) (rdB zs p 1 bad) = b2 at *
  generalize cdP zs (rdP zs p 1) (rdB zs p 1 bad) = p2 at *
  generalize cdOp zs (rdP zs p 1) = Op at *
  generalize cdA zs (rdP zs p 1) = Aa at *
  generalize cdB zs (rdP zs p 1) = Bb at *
  generalize cdM zs (rdP zs p 1) = Mm at *
  generalize rdB zs p 1 bad = b1 at *
  generalize rdP zs p 1 = p1 at *
  have h101 : Hid (∀ w2 va6 vc6, Tab w2 → TmLies w2 va6 L → Calls Tryz.prog 101 #[itV 2 ⟨#[]⟩ Op Aa Bb Mm 0 va6 L.length vc6 Ln 0, .int .i64 sec] w2 fun e w' => e = .returned (.int .i64 (if itOk ⟨2, [], Op, Aa, Bb, Mm, 0, ⟨L, Ln⟩, 0⟩ sec then 0 else 31)) ∧ Below w2.heap.size w2 w') := fun w2 va6 vc6 hT2 hl2 => by
    have := itemRight_any 2 ⟨#[]⟩ (by decide) Op Aa Bb Mm 0 hM va6 vc6 L Ln 0 sec (by decide) w2 hT2 hl2 (by omega) (fun t ht => Nat.le_trans (hL.2 t ht) (by decide))
    rw [right_two sec _ hsec] at this
    exact this
  have hG : itG ⟨2, [], Op, Aa, Bb, Mm, 0, ⟨L, Ln⟩, 0⟩ sec g = g := by unfold itG; simp
  have hBB : itB ⟨2, [], Op, Aa, Bb, Mm, 0, ⟨L, Ln⟩, 0⟩ sec g p b2 = if itOk ⟨2, [], Op, Aa, Bb, Mm, 0, ⟨L, Ln⟩, 0⟩ sec then b2 else firstR b2 ((p : Int), 31) := by unfold itB; simp
  rw [hG, hBB]
  clear hG hBB
  generalize itOk ⟨2, [], Op, Aa, Bb, Mm, 0, ⟨L, Ln⟩, 0⟩ sec = ok at *
  have hSH := Hid.intro hS
  have haH := Hid.intro ha
  have hloH := Hid.intro hlo
  have hl1 := hlo.2.2.1
  clear h hS hT ha hA hlo hk hz
  dsimp only
  cases ok with
  | true =>
    simp only [if_true] at *
    go_enter Tryz.func114, Tryz.ntmps114
    go_wp2_with (first | (go_at_call 113; (with_reducible refine (n1.out).mono ?_); rintro e w1 ⟨rfl, g1, rp1, hR1⟩; have hz1 := g1.size; have hC1 := Hid.intro (CI.new hR1 (hTA.out.grown g1 hloH.out.1) hloH.out.1 2); have y0 := (rowIt hC1.out.row).1; replace g1 := Hid.intro g1; clear n1 hR1) | (go_at_call 138; (with_reducible refine (n2.out _ _ _ _ hC1.out).mono ?_); rintro e w2 ⟨rfl, rp2, va6, vc6, hC2, ho2⟩; have hz2 := hC2.gr.size; replace hC2 := Hid.intro hC2; replace ho2 := Hid.intro (own_weaken ho2 (show w.heap.size + 1 ≤ _ by simp at *; omega)); have hl2 := Hid.intro (own_tmLies ho2.out); obtain ⟨x0, x1, x2, x3, x4, x5, x6, x7, x8, x9⟩ := rowIt hC2.out.row; clear n2) | (go_at_call 101; (with_reducible refine (h101.out _ _ _ hC2.out.tab hl2.out).mono ?_); rintro e w3 ⟨rfl, hb3⟩; have hI3 := Hid.intro ((hC2.out.it rfl g1.out hSH.out hloH.out.2 haH.out).below hb3); have ho3 := Hid.intro (own_keptB ho2.out hb3); obtain ⟨u0, u1, u2, u3, u4, u5, u6, u7, u8, u9⟩ := rowIt hI3.out.row; obtain ⟨t0, t1, t2, t3, t4, t5, t6, t7, t8, t9⟩ := rowIt hI3.out.res; have tf := fun j => frozen_of_row w3 w.heap.size j _ 86 hI3.out.res; clear hb3 x0 x1 x2 x3 x4 x5 x6 x7 x8 x9))
    all_goals first | omega | skip
    obtain ⟨e1, e2, e3⟩ := hI3.out.end (show _ ≤ n + 1 by omega) (.int .i64 2) (.string ⟨#[]⟩) (.int .i64 Op) (.int .i64 Aa) (.int .i64 Bb) (.int .i32 Mm) (.int .i64 0) (.slice va6 L.length vc6) (.int .u32 Ln) (.int .i64 0)
    obtain ⟨q0, q1, q2, q3, q4, q5, q6, q7, q8, q9⟩ := rowIt e2
    refine bodyPost_ret (by simp [results, Tryz.results114, go_sem, q0, q1, q2, q3, q4, q5, q6, q7, q8, q9]; try rfl) rfl ?_
    exact ⟨.slice va6 L.length vc6, rfl, own_weaken (own_low ho3.out e3 (by omega)) (by omega), e1⟩
  | false =>
    simp only [Bool.false_eq_true, if_false] at *
    go_enter Tryz.func114, Tryz.ntmps114
    go_wp2_with (first | (go_at_call 113; (with_reducible refine (n1.out).mono ?_); rintro e w1 ⟨rfl, g1, rp1, hR1⟩; have hz1 := g1.size; have hC1 := Hid.intro (CI.new hR1 (hTA.out.grown g1 hloH.out.1) hloH.out.1 2); have y0 := (rowIt hC1.out.row).1; replace g1 := Hid.intro g1; clear n1 hR1) | (go_at_call 138; (with_reducible refine (n2.out _ _ _ _ hC1.out).mono ?_); rintro e w2 ⟨rfl, rp2, va6, vc6, hC2, ho2⟩; have hz2 := hC2.gr.size; replace hC2 := Hid.intro hC2; replace ho2 := Hid.intro (own_weaken ho2 (show w.heap.size + 1 ≤ _ by simp at *; omega)); have hl2 := Hid.intro (own_tmLies ho2.out); obtain ⟨x0, x1, x2, x3, x4, x5, x6, x7, x8, x9⟩ := rowIt hC2.out.row; clear n2) | (go_at_call 101; (with_reducible refine (h101.out _ _ _ hC2.out.tab hl2.out).mono ?_); rintro e w3 ⟨rfl, hb3⟩; have hI3 := Hid.intro ((hC2.out.it rfl g1.out hSH.out hloH.out.2 haH.out).below hb3); have ho3 := Hid.intro (own_keptB ho2.out hb3); obtain ⟨u0, u1, u2, u3, u4, u5, u6, u7, u8, u9⟩ := rowIt hI3.out.row; obtain ⟨t0, t1, t2, t3, t4, t5, t6, t7, t8, t9⟩ := rowIt hI3.out.res; have tf := fun j => frozen_of_row w3 w.heap.size j _ 86 hI3.out.res; clear hb3 x0 x1 x2 x3 x4 x5 x6 x7 x8 x9) | (go_at_call 82; (with_reducible refine (refuse_is hI3.out.rs _ _).mono ?_); rintro e w4 ⟨rfl, g4, rp4, hR4⟩; clear u0 u1 u2 u3 u4 u5 u6 u7 u8 u9 t0 t1 t2 t3 t4 t5 t6 t7 t8 t9 tf; have hI4 := Hid.intro (hI3.out.num g4 hR4); have ho4 := Hid.intro (own_low ho3.out g4 (by omega)); obtain ⟨u0, u1, u2, u3, u4, u5, u6, u7, u8, u9⟩ := rowIt hI4.out.row; obtain ⟨t0, t1, t2, t3, t4, t5, t6, t7, t8, t9⟩ := rowIt hI4.out.res; have tf := fun j => frozen_of_row w4 w.heap.size j _ 86 hI4.out.res; clear g4 hR4))
    all_goals first | omega | skip
    obtain ⟨e1, e2, e3⟩ := hI4.out.end (show _ ≤ n + 1 by omega) (.int .i64 2) (.string ⟨#[]⟩) (.int .i64 Op) (.int .i64 Aa) (.int .i64 Bb) (.int .i32 Mm) (.int .i64 0) (.slice va6 L.length vc6) (.int .u32 Ln) (.int .i64 0)
    obtain ⟨q0, q1, q2, q3, q4, q5, q6, q7, q8, q9⟩ := rowIt e2
    refine bodyPost_ret (by simp [results, Tryz.results114, go_sem, q0, q1, q2, q3, q4, q5, q6, q7, q8, q9]; try rfl) rfl ?_
    exact ⟨.slice va6 L.length vc6, rfl, own_weaken (own_low ho4.out e3 (by omega)) (by omega), e1⟩
set_option maxHeartbeats 16000000 in
theorem item_3 (h : RS w r a c zs p bad rp (.map (some b)) last) (hS : SetIs w b n g) (hn : n ≤ 3000000) (hT : Tab w) (hlo : 3 ≤ r ∧ 3 ≤ b ∧ r < w.heap.size ∧ b < w.heap.size ∧ b ≠ r) (ha : ∀ x, a = some x → x.block ≠ b) (sec : Int) (hsec : sec = 0 ∨ sec = 1) (hk : rdV zs p 1 = 3) :
    Calls Tryz.prog 114 #[.pointer (some ⟨r, 0, none⟩), .int .i64 sec] w fun e w' => ∃ v, e = .returned (.agg (itmCells (itR zs p bad).1 v)) ∧ w'.ownsRow w.heap.size 107 2 v (itR zs p bad).1.e.terms.length (rowT (itR zs p bad).1.e.terms) ∧ IE w r a c zs b (n + 1) (itG (itR zs p bad).1 sec g) last (itR zs p bad).2.1 (itB (itR zs p bad).1 sec g p (itR zs p bad).2.2) w' := by
  have hz := h.lies.1
  have hA := Hid.intro (h.below (below_alloc w (.cells itZ 86)))
  have n1 := Hid.intro (num1_is hA.out)
  have hTA := Hid.intro (hT.alloc (.cells itZ 86))
  have hlt := blk_lt h.blk
  have c1 := (five_read hA.out.blk).2.1
  have hR : itR zs p bad = (⟨3, [], 0, 0, 0, 0, 0, linE, rdV zs (rdP zs p 1) 2⟩, rdP zs (rdP zs p 1) 2, rdB zs (rdP zs p 1) 2 (rdB zs p 1 bad)) := by
    rw [itR, if_neg (by omega), if_neg (by omega), if_pos hk]
  have hX : (itR zs p bad).1 = _ := congrArg Prod.fst hR
  have hP : (itR zs p bad).2.1 = _ := congrArg (fun x => x.2.1) hR
  have hB : (itR zs p bad).2.2 = _ := congrArg (fun x => x.2.2) hR
  dsimp only at hX hP hB
  rw [hX, hP, hB]
  clear hX hP hB hR
  rw [hk] at n1
  have hv := rdV_wd hz (rdP zs p 1) 2
  simp only [Int.reducePow] at hv
  have n2 : Hid (∀ w1 rp1, RS w1 r a c zs (rdP zs p 1) (rdB zs p 1 bad) rp1 (.map (some b)) last → _) := fun w1 rp1 h => num2_is h
  generalize rdV zs (rdP zs p 1) 2 = N at *
  generalize rdB zs (rdP zs p 1) 2 (rdB zs p 1 bad) = b2 at *
  generalize rdP zs (rdP zs p 1) 2 = p2 at *
  generalize rdB zs p 1 bad = b1 at *
  generalize rdP zs p 1 = p1 at *
  have h101 : Hid (∀ w2, Tab w2 → Calls Tryz.prog 101 #[itV 3 ⟨#[]⟩ 0 0 0 0 0 none 0 0 0 N, .int .i64 sec] w2 fun e w' => e = .returned (.int .i64 (if itOk ⟨3, [], 0, 0, 0, 0, 0, linE, N⟩ sec then 0 else 31)) ∧ Below w2.heap.size w2 w') := fun w2 hT2 => by
    have := itemRight_any 3 ⟨#[]⟩ (by decide) 0 0 0 0 0 (by decide) none 0 [] 0 N sec (by omega) w2 hT2 (.inl rfl) (by decide) (by simp)
    rw [right_two sec _ hsec] at this
    exact this
  have hG : itG ⟨3, [], 0, 0, 0, 0, 0, linE, N⟩ sec g = g := by unfold itG; simp
  have hBB : itB ⟨3, [], 0, 0, 0, 0, 0, linE, N⟩ sec g p b2 = if itOk ⟨3, [], 0, 0, 0, 0, 0, linE, N⟩ sec then b2 else firstR b2 ((p : Int), 31) := by unfold itB; simp
  rw [hG, hBB]
  clear hG hBB
  generalize itOk ⟨3, [], 0, 0, 0, 0, 0, linE, N⟩ sec = ok at *
  have hSH := Hid.intro hS
  have haH := Hid.intro ha
  have hloH := Hid.intro hlo
  have hl1 := hlo.2.2.1
  clear h hS hT ha hA hlo hk hz
  dsimp only
  cases ok with
  | true =>
    simp only [if_true] at *
    go_enter Tryz.func114, Tryz.ntmps114
    go_wp2_with (first | (go_at_call 113; (with_reducible refine (n1.out).mono ?_); rintro e w1 ⟨rfl, g1, rp1, hR1⟩; have hz1 := g1.size; have hC1 := Hid.intro (CI.new hR1 (hTA.out.grown g1 hloH.out.1) hloH.out.1 3); have y0 := (rowIt hC1.out.row).1; replace g1 := Hid.intro g1; clear n1 hR1) | (go_at_call 113; (with_reducible refine (n2.out _ _ hC1.out.rs).mono ?_); rintro e w2 ⟨rfl, g2, rp2, hR2⟩; have hz2 := g2.size; have hD2 := Hid.intro (hC1.out.num g2 hR2); have f2 := fun j => frozen_of_row w2 w1.heap.size j _ 86 hD2.out.row; have d2 := (rowIt hD2.out.row).2.2.2.2.2.2.2.2.2; have hC2 := Hid.intro (hD2.out.set 9 (.int .i64 N)); obtain ⟨x0, x1, x2, x3, x4, x5, x6, x7, x8, x9⟩ := rowIt hC2.out.row; clear g2 hR2 n2) | (go_at_call 101; (with_reducible refine (h101.out _ hC2.out.tab).mono ?_); rintro e w3 ⟨rfl, hb3⟩; have hI3 := Hid.intro ((hC2.out.it rfl g1.out hSH.out hloH.out.2 haH.out).below hb3); obtain ⟨u0, u1, u2, u3, u4, u5, u6, u7, u8, u9⟩ := rowIt hI3.out.row; obtain ⟨t0, t1, t2, t3, t4, t5, t6, t7, t8, t9⟩ := rowIt hI3.out.res; have tf := fun j => frozen_of_row w3 w.heap.size j _ 86 hI3.out.res; clear hb3 x0 x1 x2 x3 x4 x5 x6 x7 x8 x9))
    all_goals first | omega | skip
    obtain ⟨e1, e2, e3⟩ := hI3.out.end (show _ ≤ n + 1 by omega) (.int .i64 3) (.string ⟨#[]⟩) (.int .i64 0) (.int .i64 0) (.int .i64 0) (.int .i32 0) (.int .i64 0) (.slice none 0 0) (.int .u32 0) (.int .i64 N)
    obtain ⟨q0, q1, q2, q3, q4, q5, q6, q7, q8, q9⟩ := rowIt e2
    refine bodyPost_ret (by simp [results, Tryz.results114, go_sem, q0, q1, q2, q3, q4, q5, q6, q7, q8, q9]; try rfl) rfl ?_
    exact ⟨.slice none 0 0, rfl, World.ownsRow_nil _ _ _ _, e1⟩
  | false =>
    simp only [Bool.false_eq_true, if_false] at *
    go_enter Tryz.func114, Tryz.ntmps114
    go_wp2_with (first | (go_at_call 113; (with_reducible refine (n1.out).mono ?_); rintro e w1 ⟨rfl, g1, rp1, hR1⟩; have hz1 := g1.size; have hC1 := Hid.intro (CI.new hR1 (hTA.out.grown g1 hloH.out.1) hloH.out.1 3); have y0 := (rowIt hC1.out.row).1; replace g1 := Hid.intro g1; clear n1 hR1) | (go_at_call 113; (with_reducible refine (n2.out _ _ hC1.out.rs).mono ?_); rintro e w2 ⟨rfl, g2, rp2, hR2⟩; have hz2 := g2.size; have hD2 := Hid.intro (hC1.out.num g2 hR2); have f2 := fun j => frozen_of_row w2 w1.heap.size j _ 86 hD2.out.row; have d2 := (rowIt hD2.out.row).2.2.2.2.2.2.2.2.2; have hC2 := Hid.intro (hD2.out.set 9 (.int .i64 N)); obtain ⟨x0, x1, x2, x3, x4, x5, x6, x7, x8, x9⟩ := rowIt hC2.out.row; clear g2 hR2 n2) | (go_at_call 101; (with_reducible refine (h101.out _ hC2.out.tab).mono ?_); rintro e w3 ⟨rfl, hb3⟩; have hI3 := Hid.intro ((hC2.out.it rfl g1.out hSH.out hloH.out.2 haH.out).below hb3); obtain ⟨u0, u1, u2, u3, u4, u5, u6, u7, u8, u9⟩ := rowIt hI3.out.row; obtain ⟨t0, t1, t2, t3, t4, t5, t6, t7, t8, t9⟩ := rowIt hI3.out.res; have tf := fun j => frozen_of_row w3 w.heap.size j _ 86 hI3.out.res; clear hb3 x0 x1 x2 x3 x4 x5 x6 x7 x8 x9) | (go_at_call 82; (with_reducible refine (refuse_is hI3.out.rs _ _).mono ?_); rintro e w4 ⟨rfl, g4, rp4, hR4⟩; clear u0 u1 u2 u3 u4 u5 u6 u7 u8 u9 t0 t1 t2 t3 t4 t5 t6 t7 t8 t9 tf; have hI4 := Hid.intro (hI3.out.num g4 hR4); obtain ⟨u0, u1, u2, u3, u4, u5, u6, u7, u8, u9⟩ := rowIt hI4.out.row; obtain ⟨t0, t1, t2, t3, t4, t5, t6, t7, t8, t9⟩ := rowIt hI4.out.res; have tf := fun j => frozen_of_row w4 w.heap.size j _ 86 hI4.out.res; clear g4 hR4))
    all_goals first | omega | skip
    obtain ⟨e1, e2, e3⟩ := hI4.out.end (show _ ≤ n + 1 by omega) (.int .i64 3) (.string ⟨#[]⟩) (.int .i64 0) (.int .i64 0) (.int .i64 0) (.int .i32 0) (.int .i64 0) (.slice none 0 0) (.int .u32 0) (.int .i64 N)
    obtain ⟨q0, q1, q2, q3, q4, q5, q6, q7, q8, q9⟩ := rowIt e2
    refine bodyPost_ret (by simp [results, Tryz.results114, go_sem, q0, q1, q2, q3, q4, q5, q6, q7, q8, q9]; try rfl) rfl ?_
    exact ⟨.slice none 0 0, rfl, World.ownsRow_nil _ _ _ _, e1⟩
set_option maxHeartbeats 16000000 in
theorem item_5 (h : RS w r a c zs p bad rp (.map (some b)) last) (hS : SetIs w b n g) (hn : n ≤ 3000000) (hT : Tab w) (hlo : 3 ≤ r ∧ 3 ≤ b ∧ r < w.heap.size ∧ b < w.heap.size ∧ b ≠ r) (ha : ∀ x, a = some x → x.block ≠ b) (sec : Int) (hsec : sec = 0 ∨ sec = 1) (hk : rdV zs p 1 = 5) :
    Calls Tryz.prog 114 #[.pointer (some ⟨r, 0, none⟩), .int .i64 sec] w fun e w' => ∃ v, e = .returned (.agg (itmCells (itR zs p bad).1 v)) ∧ w'.ownsRow w.heap.size 107 2 v (itR zs p bad).1.e.terms.length (rowT (itR zs p bad).1.e.terms) ∧ IE w r a c zs b (n + 1) (itG (itR zs p bad).1 sec g) last (itR zs p bad).2.1 (itB (itR zs p bad).1 sec g p (itR zs p bad).2.2) w' := by
  have hz := h.lies.1
  have hA := Hid.intro (h.below (below_alloc w (.cells itZ 86)))
  have n1 := Hid.intro (num1_is hA.out)
  have hTA := Hid.intro (hT.alloc (.cells itZ 86))
  have hlt := blk_lt h.blk
  have c1 := (five_read hA.out.blk).2.1
  have hR : itR zs p bad = (⟨5, [], 0, 0, 0, 0, 0, linE, O.sgn (rdV zs (rdP zs p 1) 2) 2⟩, rdP zs (rdP zs p 1) 2, rdB zs (rdP zs p 1) 2 (rdB zs p 1 bad)) := by
    rw [itR, if_neg (by omega), if_neg (by omega), if_neg (by omega), if_pos hk]
  have hX : (itR zs p bad).1 = _ := congrArg Prod.fst hR
  have hP : (itR zs p bad).2.1 = _ := congrArg (fun x => x.2.1) hR
  have hB : (itR zs p bad).2.2 = _ := congrArg (fun x => x.2.2) hR
  dsimp only at hX hP hB
  rw [hX, hP, hB]
  clear hX hP hB hR
  rw [hk] at n1
  have hv := sgn_bd (rdV zs (rdP zs p 1) 2) 2
  have n2 : Hid (∀ w1 rp1, RS w1 r a c zs (rdP zs p 1) (rdB zs p 1 bad) rp1 (.map (some b)) last → _) := fun w1 rp1 h => num2_is h
  have h139 := Hid.intro (fun w1 => O.signed_any (rdV zs (rdP zs p 1) 2) 2 w1)
  generalize O.sgn (rdV zs (rdP zs p 1) 2) 2 = N at *
  generalize rdV zs (rdP zs p 1) 2 = N0 at *
  generalize rdB zs (rdP zs p 1) 2 (rdB zs p 1 bad) = b2 at *
  generalize rdP zs (rdP zs p 1) 2 = p2 at *
  generalize rdB zs p 1 bad = b1 at *
  generalize rdP zs p 1 = p1 at *
  have h101 : Hid (∀ w2, Tab w2 → Calls Tryz.prog 101 #[itV 5 ⟨#[]⟩ 0 0 0 0 0 none 0 0 0 N, .int .i64 sec] w2 fun e w' => e = .returned (.int .i64 (if itOk ⟨5, [], 0, 0, 0, 0, 0, linE, N⟩ sec then 0 else 31)) ∧ Below w2.heap.size w2 w') := fun w2 hT2 => by
    have := itemRight_any 5 ⟨#[]⟩ (by decide) 0 0 0 0 0 (by decide) none 0 [] 0 N sec (by omega) w2 hT2 (.inl rfl) (by decide) (by simp)
    rw [right_two sec _ hsec] at this
    exact this
  have hG : itG ⟨5, [], 0, 0, 0, 0, 0, linE, N⟩ sec g = g := by unfold itG; simp
  have hBB : itB ⟨5, [], 0, 0, 0, 0, 0, linE, N⟩ sec g p b2 = if itOk ⟨5, [], 0, 0, 0, 0, 0, linE, N⟩ sec then b2 else firstR b2 ((p : Int), 31) := by unfold itB; simp
  rw [hG, hBB]
  clear hG hBB
  generalize itOk ⟨5, [], 0, 0, 0, 0, 0, linE, N⟩ sec = ok at *
  have hSH := Hid.intro hS
  have haH := Hid.intro ha
  have hloH := Hid.intro hlo
  have hl1 := hlo.2.2.1
  clear h hS hT ha hA hlo hk hz
  dsimp only
  cases ok with
  | true =>
    simp only [if_true] at *
    go_enter Tryz.func114, Tryz.ntmps114
    go_wp2_with (first | (go_at_call 113; (with_reducible refine (n1.out).mono ?_); rintro e w1 ⟨rfl, g1, rp1, hR1⟩; have hz1 := g1.size; have hC1 := Hid.intro (CI.new hR1 (hTA.out.grown g1 hloH.out.1) hloH.out.1 5); have y0 := (rowIt hC1.out.row).1; replace g1 := Hid.intro g1; clear n1 hR1) | (go_at_call 113; (with_reducible refine (n2.out _ _ hC1.out.rs).mono ?_); rintro e w2 ⟨rfl, g2, rp2, hR2⟩; have hz2 := g2.size; have hD2 := Hid.intro (hC1.out.num g2 hR2); have f2 := fun j => frozen_of_row w2 w1.heap.size j _ 86 hD2.out.row; have d2 := (rowIt hD2.out.row).2.2.2.2.2.2.2.2.2; have hC2 := Hid.intro (hD2.out.set 9 (.int .i64 N)); obtain ⟨x0, x1, x2, x3, x4, x5, x6, x7, x8, x9⟩ := rowIt hC2.out.row; clear g2 hR2 n2) | (go_at_call 139; (with_reducible refine (h139.out _).mono ?_); rintro e w9 ⟨rfl, hw9⟩; subst w9; clear h139) | (go_at_call 101; (with_reducible refine (h101.out _ hC2.out.tab).mono ?_); rintro e w3 ⟨rfl, hb3⟩; have hI3 := Hid.intro ((hC2.out.it rfl g1.out hSH.out hloH.out.2 haH.out).below hb3); obtain ⟨u0, u1, u2, u3, u4, u5, u6, u7, u8, u9⟩ := rowIt hI3.out.row; obtain ⟨t0, t1, t2, t3, t4, t5, t6, t7, t8, t9⟩ := rowIt hI3.out.res; have tf := fun j => frozen_of_row w3 w.heap.size j _ 86 hI3.out.res; clear hb3 x0 x1 x2 x3 x4 x5 x6 x7 x8 x9))
    all_goals first | omega | skip
    obtain ⟨e1, e2, e3⟩ := hI3.out.end (show _ ≤ n + 1 by omega) (.int .i64 5) (.string ⟨#[]⟩) (.int .i64 0) (.int .i64 0) (.int .i64 0) (.int .i32 0) (.int .i64 0) (.slice none 0 0) (.int .u32 0) (.int .i64 N)
    obtain ⟨q0, q1, q2, q3, q4, q5, q6, q7, q8, q9⟩ := rowIt e2
    refine bodyPost_ret (by simp [results, Tryz.results114, go_sem, q0, q1, q2, q3, q4, q5, q6, q7, q8, q9]; try rfl) rfl ?_
    exact ⟨.slice none 0 0, rfl, World.ownsRow_nil _ _ _ _, e1⟩
  | false =>
    simp only [Bool.false_eq_true, if_false] at *
    go_enter Tryz.func114, Tryz.ntmps114
    go_wp2_with (first | (go_at_call 113; (with_reducible refine (n1.out).mono ?_); rintro e w1 ⟨rfl, g1, rp1, hR1⟩; have hz1 := g1.size; have hC1 := Hid.intro (CI.new hR1 (hTA.out.grown g1 hloH.out.1) hloH.out.1 5); have y0 := (rowIt hC1.out.row).1; replace g1 := Hid.intro g1; clear n1 hR1) | (go_at_call 113; (with_reducible refine (n2.out _ _ hC1.out.rs).mono ?_); rintro e w2 ⟨rfl, g2, rp2, hR2⟩; have hz2 := g2.size; have hD2 := Hid.intro (hC1.out.num g2 hR2); have f2 := fun j => frozen_of_row w2 w1.heap.size j _ 86 hD2.out.row; have d2 := (rowIt hD2.out.row).2.2.2.2.2.2.2.2.2; have hC2 := Hid.intro (hD2.out.set 9 (.int .i64 N)); obtain ⟨x0, x1, x2, x3, x4, x5, x6, x7, x8, x9⟩ := rowIt hC2.out.row; clear g2 hR2 n2) | (go_at_call 139; (with_reducible refine (h139.out _).mono ?_); rintro e w9 ⟨rfl, hw9⟩; subst w9; clear h139) | (go_at_call 101; (with_reducible refine (h101.out _ hC2.out.tab).mono ?_); rintro e w3 ⟨rfl, hb3⟩; have hI3 := Hid.intro ((hC2.out.it rfl g1.out hSH.out hloH.out.2 haH.out).below hb3); obtain ⟨u0, u1, u2, u3, u4, u5, u6, u7, u8, u9⟩ := rowIt hI3.out.row; obtain ⟨t0, t1, t2, t3, t4, t5, t6, t7, t8, t9⟩ := rowIt hI3.out.res; have tf := fun j => frozen_of_row w3 w.heap.size j _ 86 hI3.out.res; clear hb3 x0 x1 x2 x3 x4 x5 x6 x7 x8 x9) | (go_at_call 82; (with_reducible refine (refuse_is hI3.out.rs _ _).mono ?_); rintro e w4 ⟨rfl, g4, rp4, hR4⟩; clear u0 u1 u2 u3 u4 u5 u6 u7 u8 u9 t0 t1 t2 t3 t4 t5 t6 t7 t8 t9 tf; have hI4 := Hid.intro (hI3.out.num g4 hR4); obtain ⟨u0, u1, u2, u3, u4, u5, u6, u7, u8, u9⟩ := rowIt hI4.out.row; obtain ⟨t0, t1, t2, t3, t4, t5, t6, t7, t8, t9⟩ := rowIt hI4.out.res; have tf := fun j => frozen_of_row w4 w.heap.size j _ 86 hI4.out.res; clear g4 hR4))
    all_goals first | omega | skip
    obtain ⟨e1, e2, e3⟩ := hI4.out.end (show _ ≤ n + 1 by omega) (.int .i64 5) (.string ⟨#[]⟩) (.int .i64 0) (.int .i64 0) (.int .i64 0) (.int .i32 0) (.int .i64 0) (.slice none 0 0) (.int .u32 0) (.int .i64 N)
    obtain ⟨q0, q1, q2, q3, q4, q5, q6, q7, q8, q9⟩ := rowIt e2
    refine bodyPost_ret (by simp [results, Tryz.results114, go_sem, q0, q1, q2, q3, q4, q5, q6, q7, q8, q9]; try rfl) rfl ?_
    exact ⟨.slice none 0 0, rfl, World.ownsRow_nil _ _ _ _, e1⟩
set_option maxHeartbeats 16000000 in
theorem item_6 (h : RS w r a c zs p bad rp (.map (some b)) last) (hS : SetIs w b n g) (hn : n ≤ 3000000) (hT : Tab w) (hlo : 3 ≤ r ∧ 3 ≤ b ∧ r < w.heap.size ∧ b < w.heap.size ∧ b ≠ r) (ha : ∀ x, a = some x → x.block ≠ b) (sec : Int) (hsec : sec = 0 ∨ sec = 1) (hk : rdV zs p 1 = 6) :
    Calls Tryz.prog 114 #[.pointer (some ⟨r, 0, none⟩), .int .i64 sec] w fun e w' => ∃ v, e = .returned (.agg (itmCells (itR zs p bad).1 v)) ∧ w'.ownsRow w.heap.size 107 2 v (itR zs p bad).1.e.terms.length (rowT (itR zs p bad).1.e.terms) ∧ IE w r a c zs b (n + 1) (itG (itR zs p bad).1 sec g) last (itR zs p bad).2.1 (itB (itR zs p bad).1 sec g p (itR zs p bad).2.2) w' := by
  have hz := h.lies.1
  have hA := Hid.intro (h.below (below_alloc w (.cells itZ 86)))
  have n1 := Hid.intro (num1_is hA.out)
  have hTA := Hid.intro (hT.alloc (.cells itZ 86))
  have hlt := blk_lt h.blk
  have c1 := (five_read hA.out.blk).2.1
  have hR : itR zs p bad = (⟨6, [], 0, 0, 0, 0, 0, ⟨liL zs (rdP zs p 1) (rdB zs p 1 bad), liN zs (rdP zs p 1) (rdB zs p 1 bad)⟩, 0⟩, liP zs (rdP zs p 1) (rdB zs p 1 bad), liB zs (rdP zs p 1) (rdB zs p 1 bad)) := by
    rw [itR, if_neg (by omega), if_neg (by omega), if_neg (by omega), if_neg (by omega), if_pos hk]
  have hX : (itR zs p bad).1 = _ := congrArg Prod.fst hR
  have hP : (itR zs p bad).2.1 = _ := congrArg (fun x => x.2.1) hR
  have hB : (itR zs p bad).2.2 = _ := congrArg (fun x => x.2.2) hR
  dsimp only at hX hP hB
  rw [hX, hP, hB]
  clear hX hP hB hR
  rw [hk] at n1
  have hL := liL_le hz (rdP zs p 1) (rdB zs p 1 bad)
  have n2 : Hid (∀ w1 rp1, RS w1 r a c zs (rdP zs p 1) (rdB zs p 1 bad) rp1 (.map (some b)) last → _) := fun w1 rp1 h => lin_is h
  generalize liL zs (rdP zs p 1) (rdB zs p 1 bad) = L at *
  generalize liN zs (rdP zs p 1) (rdB zs p 1 bad) = Ln at *
  generalize liB zs (rdP zs p 1) (rdB zs p 1 bad) = b2 at *
  generalize liP zs (rdP zs p 1) (rdB zs p 1 bad) = p2 at *
  generalize rdB zs p 1 bad = b1 at *
  generalize rdP zs p 1 = p1 at *
  have h101 : Hid (∀ w2 va6 vc6, Tab w2 → TmLies w2 va6 L → Calls Tryz.prog 101 #[itV 6 ⟨#[]⟩ 0 0 0 0 0 va6 L.length vc6 Ln 0, .int .i64 sec] w2 fun e w' => e = .returned (.int .i64 (if itOk ⟨6, [], 0, 0, 0, 0, 0, ⟨L, Ln⟩, 0⟩ sec then 0 else 31)) ∧ Below w2.heap.size w2 w') := fun w2 va6 vc6 hT2 hl2 => by
    have := itemRight_any 6 ⟨#[]⟩ (by decide) 0 0 0 0 0 (by decide) va6 vc6 L Ln 0 sec (by decide) w2 hT2 hl2 (by omega) (fun t ht => Nat.le_trans (hL.2 t ht) (by decide))
    rw [right_two sec _ hsec] at this
    exact this
  have hG : itG ⟨6, [], 0, 0, 0, 0, 0, ⟨L, Ln⟩, 0⟩ sec g = g := by unfold itG; simp
  have hBB : itB ⟨6, [], 0, 0, 0, 0, 0, ⟨L, Ln⟩, 0⟩ sec g p b2 = if itOk ⟨6, [], 0, 0, 0, 0, 0, ⟨L, Ln⟩, 0⟩ sec then b2 else firstR b2 ((p : Int), 31) := by unfold itB; simp
  rw [hG, hBB]
  clear hG hBB
  generalize itOk ⟨6, [], 0, 0, 0, 0, 0, ⟨L, Ln⟩, 0⟩ sec = ok at *
  have hSH := Hid.intro hS
  have haH := Hid.intro ha
  have hloH := Hid.intro hlo
  have hl1 := hlo.2.2.1
  clear h hS hT ha hA hlo hk hz
  dsimp only
  cases ok with
  | true =>
    simp only [if_true] at *
    go_enter Tryz.func114, Tryz.ntmps114
    go_wp2_with (first | (go_at_call 113; (with_reducible refine (n1.out).mono ?_); rintro e w1 ⟨rfl, g1, rp1, hR1⟩; have hz1 := g1.size; have hC1 := Hid.intro (CI.new hR1 (hTA.out.grown g1 hloH.out.1) hloH.out.1 6); have y0 := (rowIt hC1.out.row).1; replace g1 := Hid.intro g1; clear n1 hR1) | (go_at_call 116; (with_reducible refine (n2.out _ _ hC1.out.rs).mono ?_); rintro e w2 ⟨v6, rfl, g2, ho2, rp2, hR2⟩; obtain ⟨va6, vc6, rfl⟩ := own_slice ho2; have hz2 := g2.size; have hD2 := Hid.intro (hC1.out.num g2 hR2); have f2 := fun j => frozen_of_row w2 w1.heap.size j _ 86 hD2.out.row; have d2 := (rowIt hD2.out.row).2.2.2.2.2.2.2.1; have d3 := (rowIt hD2.out.row).2.2.2.2.2.2.2.2.1; have hD3 := Hid.intro (hD2.out.set 7 (.slice va6 L.length vc6)); have hC2 := Hid.intro (hD3.out.set 8 (.int .u32 Ln)); replace ho2 := Hid.intro (own_weaken (own_low (own_low ho2 (row_set hD2.out.row 7 (.slice va6 L.length vc6)).2 (by simp at *)) (row_set hD3.out.row 8 (.int .u32 Ln)).2 (by simp at *)) (show w.heap.size + 1 ≤ _ by simp at *; omega)); have hl2 := Hid.intro (own_tmLies ho2.out); obtain ⟨x0, x1, x2, x3, x4, x5, x6, x7, x8, x9⟩ := rowIt hC2.out.row; clear g2 hR2 n2) | (go_at_call 101; (with_reducible refine (h101.out _ _ _ hC2.out.tab hl2.out).mono ?_); rintro e w3 ⟨rfl, hb3⟩; have hI3 := Hid.intro ((hC2.out.it rfl g1.out hSH.out hloH.out.2 haH.out).below hb3); have ho3 := Hid.intro (own_keptB ho2.out hb3); obtain ⟨u0, u1, u2, u3, u4, u5, u6, u7, u8, u9⟩ := rowIt hI3.out.row; obtain ⟨t0, t1, t2, t3, t4, t5, t6, t7, t8, t9⟩ := rowIt hI3.out.res; have tf := fun j => frozen_of_row w3 w.heap.size j _ 86 hI3.out.res; clear hb3 x0 x1 x2 x3 x4 x5 x6 x7 x8 x9))
    all_goals first | omega | skip
    obtain ⟨e1, e2, e3⟩ := hI3.out.end (show _ ≤ n + 1 by omega) (.int .i64 6) (.string ⟨#[]⟩) (.int .i64 0) (.int .i64 0) (.int .i64 0) (.int .i32 0) (.int .i64 0) (.slice va6 L.length vc6) (.int .u32 Ln) (.int .i64 0)
    obtain ⟨q0, q1, q2, q3, q4, q5, q6, q7, q8, q9⟩ := rowIt e2
    refine bodyPost_ret (by simp [results, Tryz.results114, go_sem, q0, q1, q2, q3, q4, q5, q6, q7, q8, q9]; try rfl) rfl ?_
    exact ⟨.slice va6 L.length vc6, rfl, own_weaken (own_low ho3.out e3 (by omega)) (by omega), e1⟩
  | false =>
    simp only [Bool.false_eq_true, if_false] at *
    go_enter Tryz.func114, Tryz.ntmps114
    go_wp2_with (first | (go_at_call 113; (with_reducible refine (n1.out).mono ?_); rintro e w1 ⟨rfl, g1, rp1, hR1⟩; have hz1 := g1.size; have hC1 := Hid.intro (CI.new hR1 (hTA.out.grown g1 hloH.out.1) hloH.out.1 6); have y0 := (rowIt hC1.out.row).1; replace g1 := Hid.intro g1; clear n1 hR1) | (go_at_call 116; (with_reducible refine (n2.out _ _ hC1.out.rs).mono ?_); rintro e w2 ⟨v6, rfl, g2, ho2, rp2, hR2⟩; obtain ⟨va6, vc6, rfl⟩ := own_slice ho2; have hz2 := g2.size; have hD2 := Hid.intro (hC1.out.num g2 hR2); have f2 := fun j => frozen_of_row w2 w1.heap.size j _ 86 hD2.out.row; have d2 := (rowIt hD2.out.row).2.2.2.2.2.2.2.1; have d3 := (rowIt hD2.out.row).2.2.2.2.2.2.2.2.1; have hD3 := Hid.intro (hD2.out.set 7 (.slice va6 L.length vc6)); have hC2 := Hid.intro (hD3.out.set 8 (.int .u32 Ln)); replace ho2 := Hid.intro (own_weaken (own_low (own_low ho2 (row_set hD2.out.row 7 (.slice va6 L.length vc6)).2 (by simp at *)) (row_set hD3.out.row 8 (.int .u32 Ln)).2 (by simp at *)) (show w.heap.size + 1 ≤ _ by simp at *; omega)); have hl2 := Hid.intro (own_tmLies ho2.out); obtain ⟨x0, x1, x2, x3, x4, x5, x6, x7, x8, x9⟩ := rowIt hC2.out.row; clear g2 hR2 n2) | (go_at_call 101; (with_reducible refine (h101.out _ _ _ hC2.out.tab hl2.out).mono ?_); rintro e w3 ⟨rfl, hb3⟩; have hI3 := Hid.intro ((hC2.out.it rfl g1.out hSH.out hloH.out.2 haH.out).below hb3); have ho3 := Hid.intro (own_keptB ho2.out hb3); obtain ⟨u0, u1, u2, u3, u4, u5, u6, u7, u8, u9⟩ := rowIt hI3.out.row; obtain ⟨t0, t1, t2, t3, t4, t5, t6, t7, t8, t9⟩ := rowIt hI3.out.res; have tf := fun j => frozen_of_row w3 w.heap.size j _ 86 hI3.out.res; clear hb3 x0 x1 x2 x3 x4 x5 x6 x7 x8 x9) | (go_at_call 82; (with_reducible refine (refuse_is hI3.out.rs _ _).mono ?_); rintro e w4 ⟨rfl, g4, rp4, hR4⟩; clear u0 u1 u2 u3 u4 u5 u6 u7 u8 u9 t0 t1 t2 t3 t4 t5 t6 t7 t8 t9 tf; have hI4 := Hid.intro (hI3.out.num g4 hR4); have ho4 := Hid.intro (own_low ho3.out g4 (by omega)); obtain ⟨u0, u1, u2, u3, u4, u5, u6, u7, u8, u9⟩ := rowIt hI4.out.row; obtain ⟨t0, t1, t2, t3, t4, t5, t6, t7, t8, t9⟩ := rowIt hI4.out.res; have tf := fun j => frozen_of_row w4 w.heap.size j _ 86 hI4.out.res; clear g4 hR4))
    all_goals first | omega | skip
    obtain ⟨e1, e2, e3⟩ := hI4.out.end (show _ ≤ n + 1 by omega) (.int .i64 6) (.string ⟨#[]⟩) (.int .i64 0) (.int .i64 0) (.int .i64 0) (.int .i32 0) (.int .i64 0) (.slice va6 L.length vc6) (.int .u32 Ln) (.int .i64 0)
    obtain ⟨q0, q1, q2, q3, q4, q5, q6, q7, q8, q9⟩ := rowIt e2
    refine bodyPost_ret (by simp [results, Tryz.results114, go_sem, q0, q1, q2, q3, q4, q5, q6, q7, q8, q9]; try rfl) rfl ?_
    exact ⟨.slice va6 L.length vc6, rfl, own_weaken (own_low ho4.out e3 (by omega)) (by omega), e1⟩
set_option maxHeartbeats 16000000 in
theorem item_7 (h : RS w r a c zs p bad rp (.map (some b)) last) (hS : SetIs w b n g) (hn : n ≤ 3000000) (hT : Tab w) (hlo : 3 ≤ r ∧ 3 ≤ b ∧ r < w.heap.size ∧ b < w.heap.size ∧ b ≠ r) (ha : ∀ x, a = some x → x.block ≠ b) (sec : Int) (hsec : sec = 0 ∨ sec = 1) (hk : rdV zs p 1 = 7) :
    Calls Tryz.prog 114 #[.pointer (some ⟨r, 0, none⟩), .int .i64 sec] w fun e w' => ∃ v, e = .returned (.agg (itmCells (itR zs p bad).1 v)) ∧ w'.ownsRow w.heap.size 107 2 v (itR zs p bad).1.e.terms.length (rowT (itR zs p bad).1.e.terms) ∧ IE w r a c zs b (n + 1) (itG (itR zs p bad).1 sec g) last (itR zs p bad).2.1 (itB (itR zs p bad).1 sec g p (itR zs p bad).2.2) w' := by
  have hz := h.lies.1
  have hA := Hid.intro (h.below (below_alloc w (.cells itZ 86)))
  have n1 := Hid.intro (num1_is hA.out)
  have hTA := Hid.intro (hT.alloc (.cells itZ 86))
  have hlt := blk_lt h.blk
  have c1 := (five_read hA.out.blk).2.1
  have hR : itR zs p bad = (⟨7, [], 0, 0, 0, 0, 0, linE, rdV zs (rdP zs p 1) 4⟩, rdP zs (rdP zs p 1) 4, rdB zs (rdP zs p 1) 4 (rdB zs p 1 bad)) := by
    rw [itR, if_neg (by omega), if_neg (by omega), if_neg (by omega), if_neg (by omega), if_neg (by omega), if_pos hk]
  have hX : (itR zs p bad).1 = _ := congrArg Prod.fst hR
  have hP : (itR zs p bad).2.1 = _ := congrArg (fun x => x.2.1) hR
  have hB : (itR zs p bad).2.2 = _ := congrArg (fun x => x.2.2) hR
  dsimp only at hX hP hB
  rw [hX, hP, hB]
  clear hX hP hB hR
  rw [hk] at n1
  have hv := rdV_wd hz (rdP zs p 1) 4
  simp only [Int.reducePow] at hv
  have n2 : Hid (∀ w1 rp1, RS w1 r a c zs (rdP zs p 1) (rdB zs p 1 bad) rp1 (.map (some b)) last → _) := fun w1 rp1 h => num4_is h
  generalize rdV zs (rdP zs p 1) 4 = N at *
  generalize rdB zs (rdP zs p 1) 4 (rdB zs p 1 bad) = b2 at *
  generalize rdP zs (rdP zs p 1) 4 = p2 at *
  generalize rdB zs p 1 bad = b1 at *
  generalize rdP zs p 1 = p1 at *
  have h101 : Hid (∀ w2, Tab w2 → Calls Tryz.prog 101 #[itV 7 ⟨#[]⟩ 0 0 0 0 0 none 0 0 0 N, .int .i64 sec] w2 fun e w' => e = .returned (.int .i64 (if itOk ⟨7, [], 0, 0, 0, 0, 0, linE, N⟩ sec then 0 else 31)) ∧ Below w2.heap.size w2 w') := fun w2 hT2 => by
    have := itemRight_any 7 ⟨#[]⟩ (by decide) 0 0 0 0 0 (by decide) none 0 [] 0 N sec (by omega) w2 hT2 (.inl rfl) (by decide) (by simp)
    rw [right_two sec _ hsec] at this
    exact this
  have hG : itG ⟨7, [], 0, 0, 0, 0, 0, linE, N⟩ sec g = g := by unfold itG; simp
  have hBB : itB ⟨7, [], 0, 0, 0, 0, 0, linE, N⟩ sec g p b2 = if itOk ⟨7, [], 0, 0, 0, 0, 0, linE, N⟩ sec then b2 else firstR b2 ((p : Int), 31) := by unfold itB; simp
  rw [hG, hBB]
  clear hG hBB
  generalize itOk ⟨7, [], 0, 0, 0, 0, 0, linE, N⟩ sec = ok at *
  have hSH := Hid.intro hS
  have haH := Hid.intro ha
  have hloH := Hid.intro hlo
  have hl1 := hlo.2.2.1
  clear h hS hT ha hA hlo hk hz
  dsimp only
  cases ok with
  | true =>
    simp only [if_true] at *
    go_enter Tryz.func114, Tryz.ntmps114
    go_wp2_with (first | (go_at_call 113; (with_reducible refine (n1.out).mono ?_); rintro e w1 ⟨rfl, g1, rp1, hR1⟩; have hz1 := g1.size; have hC1 := Hid.intro (CI.new hR1 (hTA.out.grown g1 hloH.out.1) hloH.out.1 7); have y0 := (rowIt hC1.out.row).1; replace g1 := Hid.intro g1; clear n1 hR1) | (go_at_call 113; (with_reducible refine (n2.out _ _ hC1.out.rs).mono ?_); rintro e w2 ⟨rfl, g2, rp2, hR2⟩; have hz2 := g2.size; have hD2 := Hid.intro (hC1.out.num g2 hR2); have f2 := fun j => frozen_of_row w2 w1.heap.size j _ 86 hD2.out.row; have d2 := (rowIt hD2.out.row).2.2.2.2.2.2.2.2.2; have hC2 := Hid.intro (hD2.out.set 9 (.int .i64 N)); obtain ⟨x0, x1, x2, x3, x4, x5, x6, x7, x8, x9⟩ := rowIt hC2.out.row; clear g2 hR2 n2) | (go_at_call 101; (with_reducible refine (h101.out _ hC2.out.tab).mono ?_); rintro e w3 ⟨rfl, hb3⟩; have hI3 := Hid.intro ((hC2.out.it rfl g1.out hSH.out hloH.out.2 haH.out).below hb3); obtain ⟨u0, u1, u2, u3, u4, u5, u6, u7, u8, u9⟩ := rowIt hI3.out.row; obtain ⟨t0, t1, t2, t3, t4, t5, t6, t7, t8, t9⟩ := rowIt hI3.out.res; have tf := fun j => frozen_of_row w3 w.heap.size j _ 86 hI3.out.res; clear hb3 x0 x1 x2 x3 x4 x5 x6 x7 x8 x9))
    all_goals first | omega | skip
    obtain ⟨e1, e2, e3⟩ := hI3.out.end (show _ ≤ n + 1 by omega) (.int .i64 7) (.string ⟨#[]⟩) (.int .i64 0) (.int .i64 0) (.int .i64 0) (.int .i32 0) (.int .i64 0) (.slice none 0 0) (.int .u32 0) (.int .i64 N)
    obtain ⟨q0, q1, q2, q3, q4, q5, q6, q7, q8, q9⟩ := rowIt e2
    refine bodyPost_ret (by simp [results, Tryz.results114, go_sem, q0, q1, q2, q3, q4, q5, q6, q7, q8, q9]; try rfl) rfl ?_
    exact ⟨.slice none 0 0, rfl, World.ownsRow_nil _ _ _ _, e1⟩
  | false =>
    simp only [Bool.false_eq_true, if_false] at *
    go_enter Tryz.func114, Tryz.ntmps114
    go_wp2_with (first | (go_at_call 113; (with_reducible refine (n1.out).mono ?_); rintro e w1 ⟨rfl, g1, rp1, hR1⟩; have hz1 := g1.size; have hC1 := Hid.intro (CI.new hR1 (hTA.out.grown g1 hloH.out.1) hloH.out.1 7); have y0 := (rowIt hC1.out.row).1; replace g1 := Hid.intro g1; clear n1 hR1) | (go_at_call 113; (with_reducible refine (n2.out _ _ hC1.out.rs).mono ?_); rintro e w2 ⟨rfl, g2, rp2, hR2⟩; have hz2 := g2.size; have hD2 := Hid.intro (hC1.out.num g2 hR2); have f2 := fun j => frozen_of_row w2 w1.heap.size j _ 86 hD2.out.row; have d2 := (rowIt hD2.out.row).2.2.2.2.2.2.2.2.2; have hC2 := Hid.intro (hD2.out.set 9 (.int .i64 N)); obtain ⟨x0, x1, x2, x3, x4, x5, x6, x7, x8, x9⟩ := rowIt hC2.out.row; clear g2 hR2 n2) | (go_at_call 101; (with_reducible refine (h101.out _ hC2.out.tab).mono ?_); rintro e w3 ⟨rfl, hb3⟩; have hI3 := Hid.intro ((hC2.out.it rfl g1.out hSH.out hloH.out.2 haH.out).below hb3); obtain ⟨u0, u1, u2, u3, u4, u5, u6, u7, u8, u9⟩ := rowIt hI3.out.row; obtain ⟨t0, t1, t2, t3, t4, t5, t6, t7, t8, t9⟩ := rowIt hI3.out.res; have tf := fun j => frozen_of_row w3 w.heap.size j _ 86 hI3.out.res; clear hb3 x0 x1 x2 x3 x4 x5 x6 x7 x8 x9) | (go_at_call 82; (with_reducible refine (refuse_is hI3.out.rs _ _).mono ?_); rintro e w4 ⟨rfl, g4, rp4, hR4⟩; clear u0 u1 u2 u3 u4 u5 u6 u7 u8 u9 t0 t1 t2 t3 t4 t5 t6 t7 t8 t9 tf; have hI4 := Hid.intro (hI3.out.num g4 hR4); obtain ⟨u0, u1, u2, u3, u4, u5, u6, u7, u8, u9⟩ := rowIt hI4.out.row; obtain ⟨t0, t1, t2, t3, t4, t5, t6, t7, t8, t9⟩ := rowIt hI4.out.res; have tf := fun j => frozen_of_row w4 w.heap.size j _ 86 hI4.out.res; clear g4 hR4))
    all_goals first | omega | skip
    obtain ⟨e1, e2, e3⟩ := hI4.out.end (show _ ≤ n + 1 by omega) (.int .i64 7) (.string ⟨#[]⟩) (.int .i64 0) (.int .i64 0) (.int .i64 0) (.int .i32 0) (.int .i64 0) (.slice none 0 0) (.int .u32 0) (.int .i64 N)
    obtain ⟨q0, q1, q2, q3, q4, q5, q6, q7, q8, q9⟩ := rowIt e2
    refine bodyPost_ret (by simp [results, Tryz.results114, go_sem, q0, q1, q2, q3, q4, q5, q6, q7, q8, q9]; try rfl) rfl ?_
    exact ⟨.slice none 0 0, rfl, World.ownsRow_nil _ _ _ _, e1⟩
set_option maxHeartbeats 16000000 in
theorem item_o (h : RS w r a c zs p bad rp (.map (some b)) last) (hS : SetIs w b n g) (hn : n ≤ 3000000) (hT : Tab w) (hlo : 3 ≤ r ∧ 3 ≤ b ∧ r < w.heap.size ∧ b < w.heap.size ∧ b ≠ r) (ha : ∀ x, a = some x → x.block ≠ b) (sec : Int) (hsec : sec = 0 ∨ sec = 1) (k1 : rdV zs p 1 ≠ 1) (k2 : rdV zs p 1 ≠ 2) (k3 : rdV zs p 1 ≠ 3) (k5 : rdV zs p 1 ≠ 5) (k6 : rdV zs p 1 ≠ 6) (k7 : rdV zs p 1 ≠ 7) :
    Calls Tryz.prog 114 #[.pointer (some ⟨r, 0, none⟩), .int .i64 sec] w fun e w' => ∃ v, e = .returned (.agg (itmCells (itR zs p bad).1 v)) ∧ w'.ownsRow w.heap.size 107 2 v (itR zs p bad).1.e.terms.length (rowT (itR zs p bad).1.e.terms) ∧ IE w r a c zs b (n + 1) (itG (itR zs p bad).1 sec g) last (itR zs p bad).2.1 (itB (itR zs p bad).1 sec g p (itR zs p bad).2.2) w' := by
  have hz := h.lies.1
  have hA := Hid.intro (h.below (below_alloc w (.cells itZ 86)))
  have n1 := Hid.intro (num1_is hA.out)
  have hTA := Hid.intro (hT.alloc (.cells itZ 86))
  have hlt := blk_lt h.blk
  have c1 := (five_read hA.out.blk).2.1
  have hR : itR zs p bad = (⟨rdV zs p 1, [], 0, 0, 0, 0, 0, linE, 0⟩, rdP zs p 1, rdB zs p 1 bad) := by
    rw [itR, if_neg k1, if_neg k2, if_neg k3, if_neg k5, if_neg k6, if_neg k7]
  have hX : (itR zs p bad).1 = _ := congrArg Prod.fst hR
  have hP : (itR zs p bad).2.1 = _ := congrArg (fun x => x.2.1) hR
  have hB : (itR zs p bad).2.2 = _ := congrArg (fun x => x.2.2) hR
  dsimp only at hX hP hB
  rw [hX, hP, hB]
  clear hX hP hB hR
  have hv := rdV_wd hz p 1
  simp only [Int.reducePow] at hv
  generalize rdV zs p 1 = k0 at *
  have q1 : (k0 == 1) = false := by simp [k1]
  have q2 : (k0 == 2) = false := by simp [k2]
  have q3 : (k0 == 3) = false := by simp [k3]
  have q5 : (k0 == 5) = false := by simp [k5]
  have q6 : (k0 == 6) = false := by simp [k6]
  have q7 : (k0 == 7) = false := by simp [k7]
  generalize rdB zs p 1 bad = b1 at *
  generalize rdP zs p 1 = p1 at *
  have h101 : Hid (∀ w2, Tab w2 → Calls Tryz.prog 101 #[itV k0 ⟨#[]⟩ 0 0 0 0 0 none 0 0 0 0, .int .i64 sec] w2 fun e w' => e = .returned (.int .i64 (if itOk ⟨k0, [], 0, 0, 0, 0, 0, linE, 0⟩ sec then 0 else 31)) ∧ Below w2.heap.size w2 w') := fun w2 hT2 => by
    have := itemRight_any k0 ⟨#[]⟩ (by decide) 0 0 0 0 0 (by decide) none 0 [] 0 0 sec (by decide) w2 hT2 (.inl rfl) (by decide) (by simp)
    rw [right_two sec _ hsec] at this
    exact this
  have hG : itG ⟨k0, [], 0, 0, 0, 0, 0, linE, 0⟩ sec g = g := by unfold itG; simp [k1]
  have hBB : itB ⟨k0, [], 0, 0, 0, 0, 0, linE, 0⟩ sec g p b1 = if itOk ⟨k0, [], 0, 0, 0, 0, 0, linE, 0⟩ sec then b1 else firstR b1 ((p : Int), 31) := by unfold itB; simp [k1]
  rw [hG, hBB]
  clear hG hBB
  generalize itOk ⟨k0, [], 0, 0, 0, 0, 0, linE, 0⟩ sec = ok at *
  have hSH := Hid.intro hS
  have haH := Hid.intro ha
  have hloH := Hid.intro hlo
  have hl1 := hlo.2.2.1
  clear h hS hT ha hA hlo  hz
  dsimp only
  cases ok with
  | true =>
    simp only [if_true] at *
    go_enter Tryz.func114, Tryz.ntmps114
    go_wp2_with (first | (go_at_call 113; (with_reducible refine (n1.out).mono ?_); rintro e w1 ⟨rfl, g1, rp1, hR1⟩; have hz1 := g1.size; have hC1 := Hid.intro (CI.new hR1 (hTA.out.grown g1 hloH.out.1) hloH.out.1 k0); have y0 := (rowIt hC1.out.row).1; replace g1 := Hid.intro g1; clear n1 hR1; have hC2 := hC1; obtain ⟨x0, x1, x2, x3, x4, x5, x6, x7, x8, x9⟩ := rowIt hC2.out.row; clear y0) | (go_at_call 101; (with_reducible refine (h101.out _ hC2.out.tab).mono ?_); rintro e w3 ⟨rfl, hb3⟩; have hI3 := Hid.intro ((hC2.out.it rfl g1.out hSH.out hloH.out.2 haH.out).below hb3); obtain ⟨u0, u1, u2, u3, u4, u5, u6, u7, u8, u9⟩ := rowIt hI3.out.row; obtain ⟨t0, t1, t2, t3, t4, t5, t6, t7, t8, t9⟩ := rowIt hI3.out.res; have tf := fun j => frozen_of_row w3 w.heap.size j _ 86 hI3.out.res; clear hb3 x0 x1 x2 x3 x4 x5 x6 x7 x8 x9))
    all_goals first | omega | skip
    obtain ⟨e1, e2, e3⟩ := hI3.out.end (show _ ≤ n + 1 by omega) (.int .i64 k0) (.string ⟨#[]⟩) (.int .i64 0) (.int .i64 0) (.int .i64 0) (.int .i32 0) (.int .i64 0) (.slice none 0 0) (.int .u32 0) (.int .i64 0)
    obtain ⟨q0, q1, q2, q3, q4, q5, q6, q7, q8, q9⟩ := rowIt e2
    refine bodyPost_ret (by simp [results, Tryz.results114, go_sem, q0, q1, q2, q3, q4, q5, q6, q7, q8, q9]; try rfl) rfl ?_
    exact ⟨.slice none 0 0, rfl, World.ownsRow_nil _ _ _ _, e1⟩
  | false =>
    simp only [Bool.false_eq_true, if_false] at *
    go_enter Tryz.func114, Tryz.ntmps114
    go_wp2_with (first | (go_at_call 113; (with_reducible refine (n1.out).mono ?_); rintro e w1 ⟨rfl, g1, rp1, hR1⟩; have hz1 := g1.size; have hC1 := Hid.intro (CI.new hR1 (hTA.out.grown g1 hloH.out.1) hloH.out.1 k0); have y0 := (rowIt hC1.out.row).1; replace g1 := Hid.intro g1; clear n1 hR1; have hC2 := hC1; obtain ⟨x0, x1, x2, x3, x4, x5, x6, x7, x8, x9⟩ := rowIt hC2.out.row; clear y0) | (go_at_call 101; (with_reducible refine (h101.out _ hC2.out.tab).mono ?_); rintro e w3 ⟨rfl, hb3⟩; have hI3 := Hid.intro ((hC2.out.it rfl g1.out hSH.out hloH.out.2 haH.out).below hb3); obtain ⟨u0, u1, u2, u3, u4, u5, u6, u7, u8, u9⟩ := rowIt hI3.out.row; obtain ⟨t0, t1, t2, t3, t4, t5, t6, t7, t8, t9⟩ := rowIt hI3.out.res; have tf := fun j => frozen_of_row w3 w.heap.size j _ 86 hI3.out.res; clear hb3 x0 x1 x2 x3 x4 x5 x6 x7 x8 x9) | (go_at_call 82; (with_reducible refine (refuse_is hI3.out.rs _ _).mono ?_); rintro e w4 ⟨rfl, g4, rp4, hR4⟩; clear u0 u1 u2 u3 u4 u5 u6 u7 u8 u9 t0 t1 t2 t3 t4 t5 t6 t7 t8 t9 tf; have hI4 := Hid.intro (hI3.out.num g4 hR4); obtain ⟨u0, u1, u2, u3, u4, u5, u6, u7, u8, u9⟩ := rowIt hI4.out.row; obtain ⟨t0, t1, t2, t3, t4, t5, t6, t7, t8, t9⟩ := rowIt hI4.out.res; have tf := fun j => frozen_of_row w4 w.heap.size j _ 86 hI4.out.res; clear g4 hR4))
    all_goals first | omega | skip
    obtain ⟨e1, e2, e3⟩ := hI4.out.end (show _ ≤ n + 1 by omega) (.int .i64 k0) (.string ⟨#[]⟩) (.int .i64 0) (.int .i64 0) (.int .i64 0) (.int .i32 0) (.int .i64 0) (.slice none 0 0) (.int .u32 0) (.int .i64 0)
    obtain ⟨q0, q1, q2, q3, q4, q5, q6, q7, q8, q9⟩ := rowIt e2
    refine bodyPost_ret (by simp [results, Tryz.results114, go_sem, q0, q1, q2, q3, q4, q5, q6, q7, q8, q9]; try rfl) rfl ?_
    exact ⟨.slice none 0 0, rfl, World.ownsRow_nil _ _ _ _, e1⟩
end
end Go.Proofs.YtmndccbeddaphaaGreatDoor

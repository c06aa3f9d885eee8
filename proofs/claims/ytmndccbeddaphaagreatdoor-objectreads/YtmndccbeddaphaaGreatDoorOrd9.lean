/- object's reader: what an item in the making wants. -/
import Derived.Test.YtmndccbeddaphaaGreatDoorOrd7
import Derived.Test.YtmndccbeddaphaaGreatDoorShx
import Derived.Test.YtmndccbeddaphaaGreatDoorOwn
/- object's reader: an instruction. -/
namespace Go.Proofs.YtmndccbeddaphaaGreatDoor
open Go.ChangeShapes Go.WideShapes Go.ChangeAt Go.RowKit
set_option linter.unusedVariables false
set_option linter.unusedSimpArgs false
set_option maxRecDepth 100000
theorem hasExpr_is (op : Int) (w : World) (hT : Tab w) : Calls Tryz.prog 134 #[.int .i64 op] w fun e w' => e = .returned (.bool (shE (shapeN op))) ∧ Below w.heap.size w w' := by
  have hat := Hid.intro (at_parts op w hT)
  generalize shapeN op = S at hat ⊢
  generalize decide (1 ≤ op ∧ op ≤ 43) = ok at hat
  clear hT
  by_cases h10 : S = 10
  · subst h10
    go_enter Tryz.func134, Tryz.ntmps134
    go_wp2_with (go_at_call 170; (with_reducible refine (hat.out).mono ?_); rintro e w1 ⟨⟨s1, b1, rfl⟩, hb1⟩)
    all_goals first | omega | skip
    go_ret
    exact ⟨rfl, hb1.alloc hb1.size _⟩
  by_cases h11 : S = 11
  · subst h11
    go_enter Tryz.func134, Tryz.ntmps134
    go_wp2_with (go_at_call 170; (with_reducible refine (hat.out).mono ?_); rintro e w1 ⟨⟨s1, b1, rfl⟩, hb1⟩)
    all_goals first | omega | skip
    go_ret
    exact ⟨rfl, hb1.alloc hb1.size _⟩
  by_cases h12 : S = 12
  · subst h12
    go_enter Tryz.func134, Tryz.ntmps134
    go_wp2_with (go_at_call 170; (with_reducible refine (hat.out).mono ?_); rintro e w1 ⟨⟨s1, b1, rfl⟩, hb1⟩)
    all_goals first | omega | skip
    go_ret
    exact ⟨rfl, hb1.alloc hb1.size _⟩
  by_cases h13 : S = 13
  · subst h13
    go_enter Tryz.func134, Tryz.ntmps134
    go_wp2_with (go_at_call 170; (with_reducible refine (hat.out).mono ?_); rintro e w1 ⟨⟨s1, b1, rfl⟩, hb1⟩)
    all_goals first | omega | skip
    go_ret
    exact ⟨rfl, hb1.alloc hb1.size _⟩
  have hno : shE S = false := by simp [shE, h10, h11, h12, h13]
  rw [hno]
  have g10 : (S == 10) = false := by simp [h10]
  have g11 : (S == 11) = false := by simp [h11]
  have g12 : (S == 12) = false := by simp [h12]
  have g13 : (S == 13) = false := by simp [h13]
  go_enter Tryz.func134, Tryz.ntmps134
  go_wp2_with (go_at_call 170; (with_reducible refine (hat.out).mono ?_); rintro e w1 ⟨⟨s1, b1, rfl⟩, hb1⟩)
  all_goals first | omega | skip
  go_ret
  exact ⟨rfl, hb1.alloc hb1.size _⟩
structure G2 (w w' : World) (r q : Nat) : Prop where
  os : w'.os = w.os
  tape : w'.tape = w.tape
  output : w'.output = w.output
  size : w.heap.size ≤ w'.heap.size
  block : ∀ j, j < w.heap.size → j ≠ r → j ≠ q → w'.heap[j]? = w.heap[j]?
theorem G2.refl (w : World) (r q : Nat) : G2 w w r q := ⟨rfl, rfl, rfl, Nat.le_refl _, fun _ _ _ _ => rfl⟩
theorem G2.trans {w w1 w2 : World} {r q : Nat} (h : G2 w w1 r q) (g : G2 w1 w2 r q) : G2 w w2 r q :=
  ⟨g.os.trans h.os, g.tape.trans h.tape, g.output.trans h.output, Nat.le_trans h.size g.size, fun j hj h1 h2 => (g.block j (Nat.lt_of_lt_of_le hj h.size) h1 h2).trans (h.block j hj h1 h2)⟩
theorem G2.of {w w' : World} {k : Option Nat} {r q : Nat} (h : w.grownBy w' k) (hk : ∀ j, k = some j → j = r ∨ j = q ∨ w.heap.size ≤ j) : G2 w w' r q :=
  ⟨h.os, h.tape, h.output, h.size, fun j hj h1 h2 => h.block j hj (fun e => by rcases hk j e.symm with h3 | h3 | h3; exact h1 h3; exact h2 h3; omega)⟩
theorem G2.grown {w w' : World} {r q : Nat} (h : G2 w w' r q) (hq : q = r ∨ w.heap.size ≤ q) : w.grownBy w' (some r) :=
  ⟨h.os, h.tape, h.output, h.size, fun j hj h1 => h.block j hj (fun e => h1 (by rw [e])) (fun e => by rcases hq with h3 | h3; exact h1 (by rw [e, h3]); omega)⟩
section
variable {w w' : World} {r : Nat} {a : Option Addr} {c : Nat} {zs : List Int} {p : Nat} {bad : Option (Int × Int)} {rp : Option Nat} {mv : Value} {last : List UInt8}
theorem num1_is (h : RS w r a c zs p bad rp mv last) : Calls Tryz.prog 113 #[.pointer (some ⟨r, 0, none⟩), .int .i64 1] w fun e w' => e = .returned (.int .u32 (rdV zs p 1)) ∧ w.grownBy w' (some r) ∧ ∃ rp', RS w' r a c zs (rdP zs p 1) (rdB zs p 1 bad) rp' mv last := number_is h 1 (.inl rfl)
theorem num2_is (h : RS w r a c zs p bad rp mv last) : Calls Tryz.prog 113 #[.pointer (some ⟨r, 0, none⟩), .int .i64 2] w fun e w' => e = .returned (.int .u32 (rdV zs p 2)) ∧ w.grownBy w' (some r) ∧ ∃ rp', RS w' r a c zs (rdP zs p 2) (rdB zs p 2 bad) rp' mv last := number_is h 2 (.inr (.inl rfl))
theorem num4_is (h : RS w r a c zs p bad rp mv last) : Calls Tryz.prog 113 #[.pointer (some ⟨r, 0, none⟩), .int .i64 4] w fun e w' => e = .returned (.int .u32 (rdV zs p 4)) ∧ w.grownBy w' (some r) ∧ ∃ rp', RS w' r a c zs (rdP zs p 4) (rdB zs p 4 bad) rp' mv last := number_is h 4 (.inr (.inr rfl))
theorem rdV_wd {zs : List Int} (hz : O.AreBytes zs) (p wd : Nat) : 0 ≤ rdV zs p wd ∧ rdV zs p wd < 256 ^ wd := by
  unfold rdV
  split
  · have hb := O.leN_bd ((zs.drop p).take wd) (O.areBytes_take _ (O.areBytes_drop _ hz _) wd)
    have hl : ((zs.drop p).take wd).length = wd := by simp; omega
    rw [hl] at hb
    exact hb
  · exact ⟨by omega, by exact_mod_cast Nat.pos_of_ne_zero (by simp)⟩
structure CI (w0 : World) (r : Nat) (a : Option Addr) (c : Nat) (zs : List Int) (mv : Value) (last : List UInt8) (q : Nat) (A : Array Value) (p : Nat) (bad : Option (Int × Int)) (rp : Option Nat) (w : World) : Prop where
  rs : RS w r a c zs p bad rp mv last
  row : w.heap[q]? = some (.cells A 86 (0, 0))
  gr : G2 w0 w r q
  tab : Tab w
  lo : 3 ≤ r
  lt : r < q
variable {w0 : World} {q : Nat} {A : Array Value}
theorem CI.num (h : CI w0 r a c zs mv last q A p bad rp w) {p' : Nat} {bad' : Option (Int × Int)} {rp' : Option Nat} (hg : w.grownBy w' (some r)) (hR : RS w' r a c zs p' bad' rp' mv last) : CI w0 r a c zs mv last q A p' bad' rp' w' :=
  ⟨hR, (hg.block q (blk_lt h.row) (fun e => by have := Option.some.inj e; have := h.lt; omega)).trans h.row, h.gr.trans (.of hg (fun j e => .inl (Option.some.inj e).symm)), h.tab.grown hg h.lo, h.lo, h.lt⟩
theorem CI.set (h : CI w0 r a c zs mv last q A p bad rp w) (j : Nat) (y : Value) : CI w0 r a c zs mv last q (A.setIfInBounds j y) p bad rp (w.setCell ⟨q, j, none⟩ y) := by
  obtain ⟨s1, k1⟩ := row_set h.row j y
  exact ⟨h.rs.far h.lt h.row (by decide) k1, s1, h.gr.trans (.of k1 (fun j e => .inr (.inl (Option.some.inj e).symm))), h.tab.grown k1 (by have := h.lt; have := h.lo; omega), h.lo, h.lt⟩
theorem CI.below (h : CI w0 r a c zs mv last q A p bad rp w) (hb : Below w.heap.size w w') : CI w0 r a c zs mv last q A p bad rp w' :=
  ⟨h.rs.below hb, (hb.block q (blk_lt h.row)).trans h.row, h.gr.trans (.of (grown_of_below hb) (fun j e => by cases e)), h.tab.below hb h.tab.size, h.lo, h.lt⟩
def cdOp (zs : List Int) (p : Nat) : Int := rdV zs p 1
def cdA (zs : List Int) (p : Nat) : Int := rdV zs (rdP zs p 1) 1
def cdB (zs : List Int) (p : Nat) : Int := rdV zs (rdP zs (rdP zs p 1) 1) 1
def cdM (zs : List Int) (p : Nat) : Int := O.sgn (rdV zs (rdP zs (rdP zs (rdP zs p 1) 1) 1) 4) 4
def cdQ (zs : List Int) (p : Nat) : Nat := rdP zs (rdP zs (rdP zs (rdP zs p 1) 1) 1) 4
def cdF (zs : List Int) (p : Nat) (bad : Option (Int × Int)) : Option (Int × Int) := rdB zs (rdP zs (rdP zs (rdP zs p 1) 1) 1) 4 (rdB zs (rdP zs (rdP zs p 1) 1) 1 (rdB zs (rdP zs p 1) 1 (rdB zs p 1 bad)))
def cdL (zs : List Int) (p : Nat) (b : Option (Int × Int)) : List Tm := if shE (shapeN (cdOp zs p)) then liL zs (cdQ zs p) (cdF zs p b) else []
def cdN (zs : List Int) (p : Nat) (b : Option (Int × Int)) : Int := if shE (shapeN (cdOp zs p)) then liN zs (cdQ zs p) (cdF zs p b) else 0
def cdP (zs : List Int) (p : Nat) (b : Option (Int × Int)) : Nat := if shE (shapeN (cdOp zs p)) then liP zs (cdQ zs p) (cdF zs p b) else cdQ zs p
def cdE (zs : List Int) (p : Nat) (b : Option (Int × Int)) : Option (Int × Int) := if shE (shapeN (cdOp zs p)) then liB zs (cdQ zs p) (cdF zs p b) else cdF zs p b
set_option maxHeartbeats 8000000 in
theorem code_is (k : Int) (s : ByteArray) (n : Int) (hC : CI w0 r a c zs mv last q (itA k s 0 0 0 0 0 none 0 0 0 n) p bad rp w) : Calls Tryz.prog 138 #[.pointer (some ⟨r, 0, none⟩), .pointer (some ⟨q, 0, none⟩)] w fun e w' => e = .returned (.tuple #[]) ∧ ∃ rp' va vc, CI w0 r a c zs mv last q (itA k s (cdOp zs p) (cdA zs p) (cdB zs p) (cdM zs p) 0 va (cdL zs p bad).length vc (cdN zs p bad) n) (cdP zs p bad) (cdE zs p bad) rp' w' ∧ w'.ownsRow w.heap.size 107 2 (.slice va (cdL zs p bad).length vc) (cdL zs p bad).length (rowT (cdL zs p bad)) := by
  have hz := hC.rs.lies.1
  have hv1 := rdV_wd hz p 1
  have hv2 := rdV_wd hz (rdP zs p 1) 1
  have hv3 := rdV_wd hz (rdP zs (rdP zs p 1) 1) 1
  have hv4 := rdV_wd hz (rdP zs (rdP zs (rdP zs p 1) 1) 1) 4
  have n1 : Hid (∀ w1 rp1, RS w1 r a c zs p bad rp1 mv last → _) := fun w1 rp1 h => num1_is h
  have n2 : Hid (∀ w1 rp1, RS w1 r a c zs (rdP zs p 1) (rdB zs p 1 bad) rp1 mv last → _) := fun w1 rp1 h => num1_is h
  have n3 : Hid (∀ w1 rp1, RS w1 r a c zs (rdP zs (rdP zs p 1) 1) (rdB zs (rdP zs p 1) 1 (rdB zs p 1 bad)) rp1 mv last → _) := fun w1 rp1 h => num1_is h
  have n4 : Hid (∀ w1 rp1, RS w1 r a c zs (rdP zs (rdP zs (rdP zs p 1) 1) 1) (rdB zs (rdP zs (rdP zs p 1) 1) 1 (rdB zs (rdP zs p 1) 1 (rdB zs p 1 bad))) rp1 mv last → _) := fun w1 rp1 h => num4_is h
  have e1 : rdV zs p 1 = cdOp zs p := rfl
  have e2 : rdV zs (rdP zs p 1) 1 = cdA zs p := rfl
  have e3 : rdV zs (rdP zs (rdP zs p 1) 1) 1 = cdB zs p := rfl
  have e5 : rdP zs (rdP zs (rdP zs (rdP zs p 1) 1) 1) 4 = cdQ zs p := rfl
  have e6 : rdB zs (rdP zs (rdP zs (rdP zs p 1) 1) 1) 4 (rdB zs (rdP zs (rdP zs p 1) 1) 1 (rdB zs (rdP zs p 1) 1 (rdB zs p 1 bad))) = cdF zs p bad := rfl
  have hm : cdM zs p = O.sgn (rdV zs (rdP zs (rdP zs (rdP zs p 1) 1) 1) 4) 4 := rfl
  rw [e1] at n1 hv1
  rw [e2] at n2 hv2
  rw [e3] at n3 hv3
  rw [e5, e6] at n4
  rw [hm]
  clear e1 e2 e3 e5 e6 hm hz
  generalize rdV zs (rdP zs (rdP zs (rdP zs p 1) 1) 1) 4 = M at *
  unfold cdL cdN cdP cdE
  generalize cdOp zs p = Op at *
  generalize cdA zs p = Aa at *
  generalize cdB zs p = Bb at *
  generalize cdQ zs p = Q at *
  generalize cdF zs p bad = F at *
  generalize rdP zs (rdP zs (rdP zs p 1) 1) 1 = p3 at *
  generalize rdB zs (rdP zs (rdP zs p 1) 1) 1 (rdB zs (rdP zs p 1) 1 (rdB zs p 1 bad)) = b3 at *
  generalize rdP zs (rdP zs p 1) 1 = p2 at *
  generalize rdB zs (rdP zs p 1) 1 (rdB zs p 1 bad) = b2 at *
  generalize rdP zs p 1 = p1 at *
  generalize rdB zs p 1 bad = b1 at *
  have hli : Hid (∀ w1 rp1, RS w1 r a c zs Q F rp1 mv last → _) := fun w1 rp1 h => lin_is h
  generalize liN zs Q F = Ln at *
  have h139 := Hid.intro (fun w1 => O.signed_any M 4 w1)
  have h134 := Hid.intro (fun w1 hT => hasExpr_is Op w1 hT)
  generalize O.sgn M 4 = Mm at *
  have hqz := Nat.lt_of_lt_of_le (blk_lt hC.row) (Nat.le_refl _)
  have hgr0 : Hid (w.heap.size ≤ w.heap.size) := Nat.le_refl _
  have hC0 := Hid.intro hC
  clear hC
  simp only [Int.reducePow] at hv1 hv2 hv3 hv4
  have hS : Hid (shE (shapeN Op) = shE (shapeN Op)) := rfl
  generalize hSS : shE (shapeN Op) = S at *
  clear hS hSS
  cases S with
  | false =>
    simp only [Bool.false_eq_true, if_false]
    go_enter Tryz.func138, Tryz.ntmps138
    go_wp2_with (first | (go_at_call 113; (with_reducible refine (n1.out _ _ hC0.out.rs).mono ?_); rintro e w1 ⟨rfl, g1, rp1, hR1⟩; have hz1 := g1.size; have hD1 := Hid.intro (hC0.out.num g1 hR1); have d1 := (rowIt hD1.out.row).2.2.1; have f1 := fun j => frozen_of_row w1 q j _ 86 hD1.out.row; have hC1 := Hid.intro (hD1.out.set 2 (.int .i64 Op)); clear g1 hR1 hC0) | (go_at_call 113; (with_reducible refine (n2.out _ _ hC1.out.rs).mono ?_); rintro e w2 ⟨rfl, g2, rp2, hR2⟩; have hz2 := g2.size; have hD2 := Hid.intro (hC1.out.num g2 hR2); have d2 := (rowIt hD2.out.row).2.2.2.1; have f2 := fun j => frozen_of_row w2 q j _ 86 hD2.out.row; have hC2 := Hid.intro (hD2.out.set 3 (.int .i64 Aa)); clear g2 hR2 hC1) | (go_at_call 113; (with_reducible refine (n3.out _ _ hC2.out.rs).mono ?_); rintro e w3 ⟨rfl, g3, rp3, hR3⟩; have hz3 := g3.size; have hD3 := Hid.intro (hC2.out.num g3 hR3); have d3 := (rowIt hD3.out.row).2.2.2.2.1; have f3 := fun j => frozen_of_row w3 q j _ 86 hD3.out.row; have hC3 := Hid.intro (hD3.out.set 4 (.int .i64 Bb)); clear g3 hR3 hC2) | (go_at_call 113; (with_reducible refine (n4.out _ _ hC3.out.rs).mono ?_); rintro e w4 ⟨rfl, g4, rp4, hR4⟩; have hz4 := g4.size; have hD4 := Hid.intro (hC3.out.num g4 hR4); have d4 := (rowIt hD4.out.row).2.2.2.2.2.1; have f4 := fun j => frozen_of_row w4 q j _ 86 hD4.out.row; have hC4 := Hid.intro (hD4.out.set 5 (.int .i32 Mm)); clear g4 hR4 hC3) | (go_at_call 139; (with_reducible refine (h139.out _).mono ?_); rintro e w9 ⟨rfl, hw9⟩; subst w9; have c4 := (rowIt hC4.out.row).2.2.1) | (go_at_call 134; (with_reducible refine (h134.out _ hC4.out.tab).mono ?_); rintro e w5 ⟨rfl, hb5⟩; have hz5 := hb5.size; have hC5 := Hid.intro (hC4.out.below hb5)))
    all_goals first | omega | skip
    go_end0
    exact ⟨rfl, _, none, 0, hC5.out, World.ownsRow_nil _ _ _ _⟩
  | true =>
    simp only [if_true]
    go_enter Tryz.func138, Tryz.ntmps138
    go_wp2_with (first | (go_at_call 113; (with_reducible refine (n1.out _ _ hC0.out.rs).mono ?_); rintro e w1 ⟨rfl, g1, rp1, hR1⟩; have hz1 := g1.size; have hD1 := Hid.intro (hC0.out.num g1 hR1); have d1 := (rowIt hD1.out.row).2.2.1; have f1 := fun j => frozen_of_row w1 q j _ 86 hD1.out.row; have hC1 := Hid.intro (hD1.out.set 2 (.int .i64 Op)); clear g1 hR1 hC0) | (go_at_call 113; (with_reducible refine (n2.out _ _ hC1.out.rs).mono ?_); rintro e w2 ⟨rfl, g2, rp2, hR2⟩; have hz2 := g2.size; have hD2 := Hid.intro (hC1.out.num g2 hR2); have d2 := (rowIt hD2.out.row).2.2.2.1; have f2 := fun j => frozen_of_row w2 q j _ 86 hD2.out.row; have hC2 := Hid.intro (hD2.out.set 3 (.int .i64 Aa)); clear g2 hR2 hC1) | (go_at_call 113; (with_reducible refine (n3.out _ _ hC2.out.rs).mono ?_); rintro e w3 ⟨rfl, g3, rp3, hR3⟩; have hz3 := g3.size; have hD3 := Hid.intro (hC2.out.num g3 hR3); have d3 := (rowIt hD3.out.row).2.2.2.2.1; have f3 := fun j => frozen_of_row w3 q j _ 86 hD3.out.row; have hC3 := Hid.intro (hD3.out.set 4 (.int .i64 Bb)); clear g3 hR3 hC2) | (go_at_call 113; (with_reducible refine (n4.out _ _ hC3.out.rs).mono ?_); rintro e w4 ⟨rfl, g4, rp4, hR4⟩; have hz4 := g4.size; have hD4 := Hid.intro (hC3.out.num g4 hR4); have d4 := (rowIt hD4.out.row).2.2.2.2.2.1; have f4 := fun j => frozen_of_row w4 q j _ 86 hD4.out.row; have hC4 := Hid.intro (hD4.out.set 5 (.int .i32 Mm)); clear g4 hR4 hC3) | (go_at_call 139; (with_reducible refine (h139.out _).mono ?_); rintro e w9 ⟨rfl, hw9⟩; subst w9; have c4 := (rowIt hC4.out.row).2.2.1) | (go_at_call 134; (with_reducible refine (h134.out _ hC4.out.tab).mono ?_); rintro e w5 ⟨rfl, hb5⟩; have hz5 := hb5.size; have hC5 := Hid.intro (hC4.out.below hb5)) | (go_at_call 116; (with_reducible refine (hli.out _ _ hC5.out.rs).mono ?_); rintro e w6 ⟨v6, rfl, g6, ho6, rp6, hR6⟩; obtain ⟨a6, c6, rfl⟩ := own_slice ho6; have hz6 := g6.size; have hD6 := Hid.intro (hC5.out.num g6 hR6); have d6 := (rowIt hD6.out.row).2.2.2.2.2.2.2.1; have d7 := (rowIt hD6.out.row).2.2.2.2.2.2.2.2.1; have f6 := fun j => frozen_of_row w6 q j _ 86 hD6.out.row; replace ho6 := Hid.intro ho6; clear g6 hR6))
    all_goals first | omega | skip
    go_end0
    have hC7 := (hD6.out.set 7 (.slice a6 (liL zs Q F).length c6)).set 8 (.int .u32 Ln)
    have hs0 : w.heap.size ≤ w5.heap.size := by simp at *; omega
    have k1 := (row_set hD6.out.row 7 (.slice a6 (liL zs Q F).length c6)).2
    have k2 := (row_set (hD6.out.set 7 (.slice a6 (liL zs Q F).length c6)).row 8 (.int .u32 Ln)).2
    exact ⟨rfl, _, a6, c6, hC7, own_weaken (own_low (own_low ho6.out k1 (by simp at *; omega)) k2 (by simp at *; omega)) hs0⟩
end
end Go.Proofs.YtmndccbeddaphaaGreatDoor
namespace Go.Proofs.YtmndccbeddaphaaGreatDoor
open Go.ChangeShapes Go.WideShapes Go.ChangeAt Go.RowKit
set_option linter.unusedVariables false
set_option linter.unusedSimpArgs false
set_option maxRecDepth 100000
theorem rowT_get (ts : List Tm) (i f : Nat) (t : Tm) (hi : ts[i]? = some t) (hf : f < 2) : (rowT ts)[i * 2 + f]? = t.cells[f]? := by
  induction ts generalizing i with
  | nil => simp at hi
  | cons u us ih =>
    have hu : u.cells.length = 2 := rfl
    cases i with
    | zero =>
      simp at hi
      subst hi
      rw [rowT, List.flatMap_cons, Nat.zero_mul, Nat.zero_add, List.getElem?_append_left (by omega)]
    | succ j =>
      simp at hi
      rw [rowT, List.flatMap_cons, List.getElem?_append_right (by omega), hu, show (j + 1) * 2 + f - 2 = j * 2 + f by omega]
      exact ih j hi
theorem own_tmLies {w : World} {B : Nat} {a : Option Addr} {c : Nat} {ts : List Tm} (h : w.ownsRow B 107 2 (.slice a ts.length c) ts.length (rowT ts)) : TmLies w a ts := by
  have h' := h
  obtain ⟨hl, ⟨hv, h0⟩ | ⟨g, cap, cur, hv, hbg, hg, r⟩⟩ := h
  · exact .inl (List.eq_nil_of_length_eq_zero h0)
  · injection hv with hv _ hv3
    subst hv
    refine .inr ⟨g, 0, rfl, (Array.getElem?_eq_some_iff.1 hg).1, fun i t hi => ?_⟩
    have hlt := (List.getElem?_eq_some_iff.1 hi).1
    have key : ∀ f, f < 2 → w.cell? ⟨g, i * 2 + f, none⟩ = t.cells[f]? := fun f hf => by rw [h'.cellAt _ (by omega), rowT_get ts i f t hi hf]
    rw [Nat.zero_add]
    exact ⟨key 0 (by omega), key 1 (by omega)⟩
theorem SetIs.blk {w w' : World} {b n : Nat} {g : List (List UInt8)} (h : SetIs w b n g) (e : w'.heap[b]? = w.heap[b]?) : SetIs w' b n g := by
  obtain ⟨D, ⟨es, ck, h1, h2⟩, h3⟩ := h
  exact ⟨D, ⟨es, ck, e.trans h1, h2⟩, h3⟩
theorem SetIs.obj {w : World} {b n : Nat} {g : List (List UInt8)} (h : SetIs w b n g) {xs : Array Value} {T : TypeId} {m : Nat × Nat} (e : w.heap[b]? = some (.cells xs T m)) : False := by
  obtain ⟨D, ⟨es, ck, h1, h2⟩, h3⟩ := h
  rw [e] at h1
  cases h1
theorem txL_le {zs : List Int} (hz : O.AreBytes zs) (p : Nat) : (txS zs p).size ≤ 65535 := by
  unfold txS O.getTS
  split
  · have := getN_bd hz (p : Int)
    simp [strOfNums, ByteArray.size]
    omega
  · simp
theorem rdLoop_le {zs : List Int} (hz : O.AreBytes zs) : (k : Nat) → (acc : List Tm) → (p : Nat) → (b : Option (Int × Int)) → (∀ t ∈ acc, t.name.length ≤ 65535) → (rdLoop zs k acc p b).1.length ≤ acc.length + k ∧ ∀ t ∈ (rdLoop zs k acc p b).1, t.name.length ≤ 65535
  | 0, acc, p, b, h => by rw [rdLoop]; exact ⟨Nat.le_refl _, h⟩
  | k + 1, acc, p, b, h => by
    rw [rdLoop]
    split
    · exact ⟨by simp, by simp⟩
    · have hh := rdLoop_le hz k (acc ++ [tmAt zs p]) (tmP zs p) (tmB zs p b) (fun t ht => by
        rcases List.mem_append.1 ht with h1 | h1
        · exact h t h1
        · rw [List.mem_singleton] at h1
          subst h1
          have := txL_le hz p
          unfold tmAt txL
          rw [ByteArray.size, ← Array.length_toList] at this
          exact this)
      rw [List.length_append, List.length_singleton] at hh
      exact ⟨by omega, hh.2⟩
theorem liL_le {zs : List Int} (hz : O.AreBytes zs) (p : Nat) (b : Option (Int × Int)) : (liL zs p b).length ≤ 65535 ∧ ∀ t ∈ liL zs p b, t.name.length ≤ 65535 := by
  have h := rdLoop_le hz (rdV zs p 2).toNat [] (rdP zs p 2) (rdB zs p 2 b) (by simp)
  have hb := rdV_bd hz p
  refine ⟨?_, h.2⟩
  have := h.1
  show (rdLoop zs (rdV zs p 2).toNat [] (rdP zs p 2) (rdB zs p 2 b)).1.length ≤ _
  simp at this
  omega
theorem cdL_le {zs : List Int} (hz : O.AreBytes zs) (p : Nat) (b : Option (Int × Int)) : (cdL zs p b).length ≤ 65535 ∧ ∀ t ∈ cdL zs p b, t.name.length ≤ 65535 := by
  unfold cdL
  split
  · exact liL_le hz _ _
  · simp
abbrev put10 (w : World) (g : Nat) (v0 v1 v2 v3 v4 v5 v6 v7 v8 v9 : Value) : World := (((((((((w.setCell ⟨g, 0, none⟩ v0).setCell ⟨g, 1, none⟩ v1).setCell ⟨g, 2, none⟩ v2).setCell ⟨g, 3, none⟩ v3).setCell ⟨g, 4, none⟩ v4).setCell ⟨g, 5, none⟩ v5).setCell ⟨g, 6, none⟩ v6).setCell ⟨g, 7, none⟩ v7).setCell ⟨g, 8, none⟩ v8).setCell ⟨g, 9, none⟩ v9
set_option maxHeartbeats 4000000 in
theorem put10_is {w : World} {g : Nat} {z0 z1 z2 z3 z4 z5 z6 z7 z8 z9 : Value} (h : w.heap[g]? = some (.cells #[z0, z1, z2, z3, z4, z5, z6, z7, z8, z9] 86 (0, 0))) (v0 v1 v2 v3 v4 v5 v6 v7 v8 v9 : Value) :
    (put10 w g v0 v1 v2 v3 v4 v5 v6 v7 v8 v9).heap[g]? = some (.cells #[v0, v1, v2, v3, v4, v5, v6, v7, v8, v9] 86 (0, 0)) ∧ w.grownBy (put10 w g v0 v1 v2 v3 v4 v5 v6 v7 v8 v9) (some g) := by
  have k0 := (row_set h 0 v0).2
  have s0 := (row_set h 0 v0).1
  simp only [List.setIfInBounds_toArray, List.set_cons_zero, List.set_cons_succ] at s0
  have k1 := (row_set s0 1 v1).2
  have s1 := (row_set s0 1 v1).1
  simp only [List.setIfInBounds_toArray, List.set_cons_zero, List.set_cons_succ] at s1
  have k2 := (row_set s1 2 v2).2
  have s2 := (row_set s1 2 v2).1
  simp only [List.setIfInBounds_toArray, List.set_cons_zero, List.set_cons_succ] at s2
  have k3 := (row_set s2 3 v3).2
  have s3 := (row_set s2 3 v3).1
  simp only [List.setIfInBounds_toArray, List.set_cons_zero, List.set_cons_succ] at s3
  have k4 := (row_set s3 4 v4).2
  have s4 := (row_set s3 4 v4).1
  simp only [List.setIfInBounds_toArray, List.set_cons_zero, List.set_cons_succ] at s4
  have k5 := (row_set s4 5 v5).2
  have s5 := (row_set s4 5 v5).1
  simp only [List.setIfInBounds_toArray, List.set_cons_zero, List.set_cons_succ] at s5
  have k6 := (row_set s5 6 v6).2
  have s6 := (row_set s5 6 v6).1
  simp only [List.setIfInBounds_toArray, List.set_cons_zero, List.set_cons_succ] at s6
  have k7 := (row_set s6 7 v7).2
  have s7 := (row_set s6 7 v7).1
  simp only [List.setIfInBounds_toArray, List.set_cons_zero, List.set_cons_succ] at s7
  have k8 := (row_set s7 8 v8).2
  have s8 := (row_set s7 8 v8).1
  simp only [List.setIfInBounds_toArray, List.set_cons_zero, List.set_cons_succ] at s8
  have k9 := (row_set s8 9 v9).2
  have s9 := (row_set s8 9 v9).1
  simp only [List.setIfInBounds_toArray, List.set_cons_zero, List.set_cons_succ] at s9
  exact ⟨s9, grown_trans k0 (grown_trans k1 (grown_trans k2 (grown_trans k3 (grown_trans k4 (grown_trans k5 (grown_trans k6 (grown_trans k7 (grown_trans k8 k9))))))))⟩
section
variable {w w' : World} {r : Nat} {a : Option Addr} {c : Nat} {zs : List Int} {p : Nat} {bad : Option (Int × Int)} {rp : Option Nat} {mv : Value} {last : List UInt8}
theorem RS.map {b n : Nat} {g : List (List UInt8)} (h : RS w r a c zs p bad rp mv last) (hS : SetIs w b n g) (ha : ∀ x, a = some x → x.block ≠ b) (hg : w.grownBy w' (some b)) : RS w' r a c zs p bad rp mv last := by
  refine ⟨(hg.block r (blk_lt h.blk) (fun e => ?_)).trans h.blk, lies_grown h.lies (fun z hz => ⟨Nat.lt_trans (h.old z hz) (blk_lt h.blk), fun e => ?_⟩) hg, h.old, h.cap, h.few, h.at_, h.rf.grown (fun q' hq' e => ?_) hg⟩
  · rw [← Option.some.inj e] at hS; exact hS.obj h.blk
  · exact ha z hz (Option.some.inj e).symm
  · have e' := Option.some.inj e
    subst e'
    have h5 := h.rf
    cases hbb : bad with
    | none => rw [hbb] at h5; rw [hq'] at h5; cases h5
    | some f =>
      rw [hbb] at h5
      obtain ⟨q', h6, h7⟩ := h5
      rw [hq'] at h6
      cases h6
      exact hS.obj h7
end
end Go.Proofs.YtmndccbeddaphaaGreatDoor

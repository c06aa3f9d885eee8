/- Register and Legal, and the document's. -/
import Derived.Test.YtmndccbeddaphaaGreatDoorNum2
import Derived.Lib.Walk
import Derived.Lib.BufferWrite
import Derived.Lib.UnsafeStr
import Derived.Lib.Hide
import Derived.Laws.MakeOwn
import Derived.Deep.DeepAppendWide
import Derived.Deep.DeepMust
import Derived.Laws.Strings3
/- lex.numberAt: the contract. -/
namespace Go.Proofs.YtmndccbeddaphaaGreatDoor
open Go.ChangeShapes Go.WideShapes Go.ChangeAt Go.RowKit
set_option linter.unusedVariables false
set_option maxRecDepth 100000
theorem res_of (r : List UInt8) (at_ : Nat) (bad : Prop) (v : Int) (k : Nat) (h1 : bad → numAt r = none) (h2 : ¬ bad → numAt r = some (v, k)) :
    Res (numN r) ((at_ : Int) + numL r) at_ bad v (at_ + k) := by
  refine ⟨fun hb => ?_, fun hb => ?_⟩
  · simp [numN, numL, h1 hb]
  · simp [numN, numL, h2 hb]
theorem num_quoted (r : List UInt8) (at_ : Nat) (h : atI r 0 = 39) :
    Res (numN r) ((at_ : Int) + numL r) at_ (¬ (isQuo (atI r 1) = true ∧ atI r 2 = 39)) (atI r 1) (at_ + 3) := by
  apply res_of
  · intro hb; unfold numAt; rw [if_pos h, if_neg hb]
  · intro hb; unfold numAt; rw [if_pos h, if_pos (Decidable.not_not.1 hb)]
theorem num_hex (r : List UInt8) (at_ : Nat) (h : atI r 0 = 48) (h1 : atI r 1 = 120) :
    Res (numN r) ((at_ : Int) + numL r) at_ (hexLen 8 (r.drop 2) = 0 ∨ inW (atI r (2 + hexLen 8 (r.drop 2))) = true) (val 16 0 ((r.drop 2).take (hexLen 8 (r.drop 2)))) (at_ + (2 + hexLen 8 (r.drop 2))) := by
  apply res_of
  · intro hb; unfold numAt; rw [if_neg (by omega), if_pos ⟨h, h1⟩, if_pos hb]
  · intro hb; unfold numAt; rw [if_neg (by omega), if_pos ⟨h, h1⟩, if_neg hb]
theorem num_zero (r : List UInt8) (at_ : Nat) (h : atI r 0 = 48) (h1 : ¬ atI r 1 = 120) :
    Res (numN r) ((at_ : Int) + numL r) at_ (inW (atI r 1) = true) 0 (at_ + 1) := by
  apply res_of
  · intro hb; unfold numAt; rw [if_neg (by omega), if_neg (fun x => h1 x.2), if_pos h, if_pos hb]
  · intro hb; unfold numAt; rw [if_neg (by omega), if_neg (fun x => h1 x.2), if_pos h, if_neg hb]
theorem num_dec (r : List UInt8) (at_ : Nat) (h : ¬ atI r 0 = 39) (h1 : ¬ atI r 0 = 48) :
    Res (numN r) ((at_ : Int) + numL r) at_ (4294967295 < val 10 0 (r.take (lenW isDig r)) ∨ inW (atI r (lenW isDig r)) = true) (val 10 0 (r.take (lenW isDig r))) (at_ + lenW isDig r) := by
  apply res_of
  · intro hb; unfold numAt; rw [if_neg h, if_neg (fun x => h1 x.1), if_neg h1, if_pos hb]
  · intro hb; unfold numAt; rw [if_neg h, if_neg (fun x => h1 x.1), if_neg h1, if_neg hb]
theorem numberAt_any (s : ByteArray) (at_ : Nat) (ha : at_ < s.size) (hs : s.size ≤ 4611686018427387800) (hd : isDig (atI (bs s) at_) = true ∨ atI (bs s) at_ = 39) (w : World) :
    Calls Tryz.prog 154 #[.string s, .int .i64 (at_ : Int)] w fun e w' => e = .returned (.tuple #[.int .u32 (numN ((bs s).drop at_)), .int .i64 ((at_ : Int) + numL ((bs s).drop at_))]) ∧ w' = w := by
  have hg := atI_get s at_ ha
  have hs2 : s.size ≤ 4611686018427387904 := by omega
  have r0 : atI ((bs s).drop at_) 0 = atI (bs s) at_ := by rw [atI_drop, Nat.add_zero]
  have r1 : atI ((bs s).drop at_) 1 = atI (bs s) (at_ + 1) := by rw [atI_drop]
  have r2 : atI ((bs s).drop at_) 2 = atI (bs s) (at_ + 2) := by rw [atI_drop]
  have e1 : ((at_ : Int) + 1).toNat = at_ + 1 := by omega
  obtain ⟨N, hN⟩ : ∃ N, N = numN ((bs s).drop at_) := ⟨_, rfl⟩
  obtain ⟨T, hT⟩ : ∃ T, T = (at_ : Int) + numL ((bs s).drop at_) := ⟨_, rfl⟩
  rw [← hN, ← hT]
  by_cases hq : atI (bs s) at_ = 39
  · have hR := Hid.intro (num_quoted ((bs s).drop at_) at_ (by rw [r0]; exact hq))
    rw [r1, r2, ← hN, ← hT] at hR
    clear hN hT r0 r1 r2 hd
    go_enter Tryz.func154, Tryz.ntmps154
    go_wp2
    refine wp_scope_at (Q := Q28 N T _) Tryz.f154 rfl ?_
    go_wp2_with (first
      | (go_at_call 148; refine (byteAt_int _ _ (by omega) (by omega) (by assumption) _).mono ?_; rintro e w' ⟨rfl, rfl⟩)
      | (go_at_call 153; refine (inWord_any _ _).mono ?_; rintro e w' ⟨rfl, rfl⟩)
      | (go_at_call 151; refine (isDigit_any _ _).mono ?_; rintro e w' ⟨rfl, rfl⟩)
      | (go_at_call 179; refine (isHexDigit_any _ _).mono ?_; rintro e w' ⟨rfl, rfl⟩)
      | (go_at_call 180; refine (isQuotable_any _ _).mono ?_; rintro e w' ⟨rfl, rfl⟩)
      | (go_at_call 156; refine (digit_any _ (by assumption) _).mono ?_; rintro e w' ⟨rfl, rfl⟩))
    go_step3
    exact quoted_lands s at_ N T _ hs (by omega) hR.out
  · have hd1 : isDig (atI (bs s) at_) = true := hd.resolve_right hq
    have hqf : (atI (bs s) at_ == 39) = false := by simpa using hq
    by_cases h0 : atI (bs s) at_ = 48
    · by_cases h1 : atI (bs s) (at_ + 1) = 120
      · have hR := num_hex ((bs s).drop at_) at_ (by rw [r0]; exact h0) (by rw [r1]; exact h1)
        rw [← hN, ← hT, List.drop_drop, atI_drop] at hR
        have hR2 : Res N T at_ (0 + hexLen 8 ((bs s).drop (at_ + 2 + 0)) = 0 ∨ inW (atI (bs s) (at_ + 2 + 0 + hexLen 8 ((bs s).drop (at_ + 2 + 0)))) = true)
            (val 16 0 (((bs s).drop (at_ + 2 + 0)).take (hexLen 8 ((bs s).drop (at_ + 2 + 0))))) (at_ + 2 + 0 + hexLen 8 ((bs s).drop (at_ + 2 + 0))) := by
          refine hR.turn ?_ rfl (by simp only [Nat.add_zero]; omega)
          rw [Nat.zero_add, show at_ + 2 + 0 = at_ + 2 by omega, Nat.add_assoc]
        have hH := Hid.intro hR2
        clear hN hT r0 r1 r2 hd hR hR2 hq hqf hd1
        go_enter Tryz.func154, Tryz.ntmps154
        go_wp2
        refine wp_scope_at (Q := Q28 N T _) Tryz.f154 rfl ?_
        go_wp2_with (first
      | (go_at_call 148; refine (byteAt_int _ _ (by omega) (by omega) (by assumption) _).mono ?_; rintro e w' ⟨rfl, rfl⟩)
      | (go_at_call 153; refine (inWord_any _ _).mono ?_; rintro e w' ⟨rfl, rfl⟩)
      | (go_at_call 151; refine (isDigit_any _ _).mono ?_; rintro e w' ⟨rfl, rfl⟩)
      | (go_at_call 179; refine (isHexDigit_any _ _).mono ?_; rintro e w' ⟨rfl, rfl⟩)
      | (go_at_call 180; refine (isQuotable_any _ _).mono ?_; rintro e w' ⟨rfl, rfl⟩)
      | (go_at_call 156; refine (digit_any _ (by assumption) _).mono ?_; rintro e w' ⟨rfl, rfl⟩))
        go_step3
        exact hex_lands s at_ N T _ hs (by omega) 8 0 _ 0 rfl (by omega) (by omega) (by simp) hH.out
      · have hR := num_zero ((bs s).drop at_) at_ (by rw [r0]; exact h0) (by rw [r1]; exact h1)
        rw [← hN, ← hT, r1] at hR
        have h1f : (atI (bs s) (at_ + 1) == 120) = false := by simpa using h1
        have hH := Hid.intro hR
        clear hN hT r0 r1 r2 hd hR hq hqf hd1 h1
        go_enter Tryz.func154, Tryz.ntmps154
        go_wp2
        refine wp_scope_at (Q := Q28 N T _) Tryz.f154 rfl ?_
        go_wp2_with (first
      | (go_at_call 148; refine (byteAt_int _ _ (by omega) (by omega) (by assumption) _).mono ?_; rintro e w' ⟨rfl, rfl⟩)
      | (go_at_call 153; refine (inWord_any _ _).mono ?_; rintro e w' ⟨rfl, rfl⟩)
      | (go_at_call 151; refine (isDigit_any _ _).mono ?_; rintro e w' ⟨rfl, rfl⟩)
      | (go_at_call 179; refine (isHexDigit_any _ _).mono ?_; rintro e w' ⟨rfl, rfl⟩)
      | (go_at_call 180; refine (isQuotable_any _ _).mono ?_; rintro e w' ⟨rfl, rfl⟩)
      | (go_at_call 156; refine (digit_any _ (by assumption) _).mono ?_; rintro e w' ⟨rfl, rfl⟩))
        go_step3
        exact behind_lands s at_ (at_ + 1) 0 _ N T _ (by omega) (by omega) hs2 (by omega) (by omega) hH.out
    · have hR := num_dec ((bs s).drop at_) at_ (by rw [r0]; exact hq) (by rw [r0]; exact h0)
      rw [← hN, ← hT, atI_drop] at hR
      have h0f : (atI (bs s) at_ == 48) = false := by simpa using h0
      have hx := isHex_of_dig _ hd1
      obtain ⟨d0, d1⟩ := digI_dig _ hd1
      have hhead : isDig (atI ((bs s).drop at_) 0) = true := by rw [r0]; exact hd1
      have hv := take_more isDig isDig_zero ((bs s).drop at_) hhead 10 0
      have hl := (lenW_more isDig isDig_zero ((bs s).drop at_) hhead).1
      rw [List.drop_drop] at hl
      rw [List.drop_drop, r0, show (10 : Int) * 0 + digI (atI (bs s) at_) = digI (atI (bs s) at_) by omega] at hv
      have hR2 : Res N T at_ (4294967295 < val 10 (digI (atI (bs s) at_)) (((bs s).drop (at_ + 1)).take (lenW isDig ((bs s).drop (at_ + 1)))) ∨ inW (atI (bs s) (at_ + 1 + lenW isDig ((bs s).drop (at_ + 1)))) = true)
          (val 10 (digI (atI (bs s) at_)) (((bs s).drop (at_ + 1)).take (lenW isDig ((bs s).drop (at_ + 1))))) (at_ + 1 + lenW isDig ((bs s).drop (at_ + 1))) := by
        refine hR.turn ?_ hv.symm (by rw [hl]; omega)
        rw [hv, hl, show at_ + 1 + lenW isDig (List.drop (at_ + 1) (bs s)) = at_ + (lenW isDig (List.drop (at_ + 1) (bs s)) + 1) by omega]
      obtain ⟨c, hc⟩ : ∃ c, c = atI (bs s) at_ := ⟨_, rfl⟩
      rw [← hc] at hd1 hx d0 d1 hR2 hqf h0f hg
      have hc' := hc.symm
      have hH := Hid.intro hR2
      clear hN hT r0 r1 r2 hd hR hR2 hq h0 hhead hv hl hc
      go_enter Tryz.func154, Tryz.ntmps154
      go_wp2
      refine wp_scope_at (Q := Q28 N T _) Tryz.f154 rfl ?_
      go_wp2_with (first
      | (go_at_call 148; refine (byteAt_int _ _ (by omega) (by omega) (by assumption) _).mono ?_; rintro e w' ⟨rfl, rfl⟩)
      | (go_at_call 153; refine (inWord_any _ _).mono ?_; rintro e w' ⟨rfl, rfl⟩)
      | (go_at_call 151; refine (isDigit_any _ _).mono ?_; rintro e w' ⟨rfl, rfl⟩)
      | (go_at_call 179; refine (isHexDigit_any _ _).mono ?_; rintro e w' ⟨rfl, rfl⟩)
      | (go_at_call 180; refine (isQuotable_any _ _).mono ?_; rintro e w' ⟨rfl, rfl⟩)
      | (go_at_call 156; refine (digit_any _ (by assumption) _).mono ?_; rintro e w' ⟨rfl, rfl⟩))
      go_step3
      go_wp2_with (first
      | (go_at_call 148; refine (byteAt_int _ _ (by omega) (by omega) (by assumption) _).mono ?_; rintro e w' ⟨rfl, rfl⟩)
      | (go_at_call 153; refine (inWord_any _ _).mono ?_; rintro e w' ⟨rfl, rfl⟩)
      | (go_at_call 151; refine (isDigit_any _ _).mono ?_; rintro e w' ⟨rfl, rfl⟩)
      | (go_at_call 179; refine (isHexDigit_any _ _).mono ?_; rintro e w' ⟨rfl, rfl⟩)
      | (go_at_call 180; refine (isQuotable_any _ _).mono ?_; rintro e w' ⟨rfl, rfl⟩)
      | (go_at_call 156; refine (digit_any _ (by assumption) _).mono ?_; rintro e w' ⟨rfl, rfl⟩))
      go_step3
      exact dec_lands s at_ N T _ hs _ (at_ + 1) _ _ (by omega) (by omega) rfl (by omega) (by omega) hH.out
end Go.Proofs.YtmndccbeddaphaaGreatDoor
/- strings.Clone: the same bytes, in new memory. -/
namespace Go.Proofs.YtmndccbeddaphaaGreatDoor
open Go.ChangeShapes Go.WideShapes Go.ChangeAt Go.RowKit
set_option linter.unusedVariables false
theorem Tryz.info5 : (Tryz.prog.info? 5).map (fun i => (i.zero, i.size, i.bytes)) = some (some (.int .u8 0), 1, 1) := by kernel_rfl
set_option maxHeartbeats 4000000 in
set_option maxRecDepth 100000 in
theorem liteClone_any (s : ByteArray) (w : World) (hlim : s.size ≤ 281474976710656) :
    Calls Tryz.prog 181 #[.string s] w fun e w' => e = .returned (.string s) ∧ Below w.heap.size w w' := by
  by_cases h0 : s.size = 0
  · have hs : s = ⟨#[]⟩ := by
      apply ByteArray.ext
      exact Array.eq_empty_of_size_eq_zero h0
    subst hs
    go_enter Tryz.func181, Tryz.ntmps181
    go_wp2
    go_ret
    exact ⟨rfl, Below.refl _ _⟩
  · obtain ⟨i0, hi, hz0, hz1, hz2⟩ := info_parts Tryz.info5
    have hinfo : (Tryz.prog.info? 5).map (·.size) = some 1 := by rw [hi]; simp [hz1]
    have hco : Tryz.prog.cellsOf 5 = 1 := by simp [Program.cellsOf, hi, hz1]
    obtain ⟨M, hM⟩ : ∃ M, M = madeCells (Value.int .u8 0).cells (((s.size : Nat) : Int).toNat * i0.size) := ⟨_, rfl⟩
    have hMs : M.size = s.size := by rw [hM, size_madeCells, hz1]; simp
    have hmk : ∀ W : World, (Instr.makeSlice 22 (.int .i64 (s.size : Int)) (.int .i64 (s.size : Int))).run Tryz.prog W = .ok (.slice (some ⟨W.heap.size, 0, none⟩) s.size s.size) (W.alloc (.cells M 5)) := fun W => by
      have h := run_make (P := Tryz.prog) W 22 5 i0 (.int .u8 0) Tryz.underlying22 hi hz0 .i64 .i64 (s.size : Int) (s.size : Int) (by omega) (by omega) (by rw [hz2]; omega) (by omega)
      rw [← hM] at h
      simpa using h
    clear hM
    have hcp := Lib.run_copy_row_string (P := Tryz.prog) (w.alloc (.cells M 5)) 22 9 3 5 w.heap.size 0 s.size s.size s M 5 Tryz.underlying22 hinfo (heap_alloc_new w _) (Nat.le_refl _) (by omega)
    obtain ⟨Y, hY⟩ : ∃ Y, Y = (M.toList.take 0 ++ Lib.byteCells s.data.toList ++ M.toList.drop (0 + s.size)).toArray := ⟨_, rfl⟩
    rw [← hY] at hcp
    have hYl : Y.toList = Lib.byteCells s.data.toList := by
      rw [hY, List.toList_toArray, List.take_zero, List.nil_append, List.drop_of_length_le (by rw [Array.length_toList]; omega), List.append_nil]
    have hYs : Y.size = s.size := by rw [← Array.length_toList, hYl, Lib.byteCells_length, ← Lib.size_eq]
    have hgY : ((w.alloc (.cells M 5)).setRow w.heap.size Y).heap[w.heap.size]? = some (.cells Y 5 (0, 0)) := setRow_heap _ _ M _ 5 (0, 0) (heap_alloc_new w _)
    have hne : s.data.toList ≠ [] := fun e => h0 (by rw [Lib.size_eq, e]; rfl)
    have hUS := Lib.run_unsafeString_row (P := Tryz.prog) ((w.alloc (.cells M 5)).setRow w.heap.size Y) 245 3 9 5 Tryz.underlying245 hco w.heap.size Y.size (by unfold World.shape?; rw [hgY]) s.data.toList hne (by rw [← Lib.size_eq]; omega) (by rw [← Lib.size_eq]; omega)
      (fun j x hx => Lib.cells_of_row hgY Y.size j _ (by rw [List.take_of_length_le (by rw [Array.length_toList]; exact Nat.le_refl _), hYl]; simp [Lib.byteCells, hx]))
    rw [← Lib.size_eq] at hUS
    clear hY
    go_enter Tryz.func181, Tryz.ntmps181
    go_wp2
    go_ret
    have hb1 : Below w.heap.size w (w.alloc (.cells M 5)) := (Below.refl _ w).alloc (Nat.le_refl _) _
    have hb2 : Below w.heap.size (w.alloc (.cells M 5)) ((w.alloc (.cells M 5)).setRow w.heap.size Y) := ⟨rfl, rfl, rfl, by simp, fun k hk => setRow_other _ _ _ _ (by omega)⟩
    exact ⟨rfl, Lib.below_freeze (hb1.trans hb2) (p := ⟨w.heap.size, 0, none⟩) (Nat.le_refl _) _⟩
theorem clone_any (s : ByteArray) (w : World) (hlim : s.size ≤ 281474976710656) :
    Calls Tryz.prog 155 #[.string s] w fun e w' => e = .returned (.string s) ∧ Below w.heap.size w w' := by
  go_enter Tryz.func155, Tryz.ntmps155
  go_wp2_with (go_at_call 181; refine (liteClone_any _ _ hlim).mono ?_; rintro e w' ⟨rfl, hb⟩)
  go_ret
  exact ⟨rfl, hb⟩
end Go.Proofs.YtmndccbeddaphaaGreatDoor
/- lex.Tokens: the tokens of a text. -/
namespace Go.Proofs.YtmndccbeddaphaaGreatDoor
open Go.ChangeShapes Go.WideShapes Go.ChangeAt Go.RowKit
set_option linter.unusedVariables false
set_option maxRecDepth 100000
def str (l : List UInt8) : ByteArray := ⟨l.toArray⟩
def Tok.cells (t : Tok) : List Value := [.int .i64 t.kind, .string (str t.text), .int .u32 t.num, .int .i64 (t.place : Int)]
def rowOf (ts : List Tok) : List Value := ts.flatMap Tok.cells
theorem Tryz.info188 : (Tryz.prog.info? 185).map (fun i => (i.zero, i.size, i.bytes)) = some (some (.agg #[.int .i64 0, .string ⟨#[]⟩, .int .u32 0, .int .i64 0]), 4, 40) := by kernel_rfl
theorem ownsRow_below {w w' : World} {B : Nat} {e : TypeId} {size : Nat} {v : Value} {n : Nat} {xs : List Value} (h : w.ownsRow B e size v n xs) (hb : Below w.heap.size w w') : w'.ownsRow B e size v n xs := by
  obtain ⟨hl, h | ⟨g, cap, cur, hv, hbg, hg, r⟩⟩ := h
  · exact ⟨hl, .inl h⟩
  · have hlt : g < w.heap.size := by
      apply Decidable.byContradiction
      intro hn
      rw [Array.getElem?_eq_none (by omega)] at hg
      cases hg
    exact ⟨hl, .inr ⟨g, cap, cur, hv, hbg, by rw [hb.block g hlt]; exact hg, r⟩⟩
theorem cells_new (w : World) (cs : Array Value) (T : TypeId) : ∀ j u, cs.toList[j]? = some u → (w.alloc (.cells cs T)).cell? ((⟨w.heap.size, 0, none⟩ : Addr).add j) = some u := by
  intro j u h
  refine Lib.cells_of_row (heap_alloc_new w _) cs.size j u ?_
  rw [List.take_of_length_le (by simp)]
  exact h
theorem rowOf_push (acc : List Tok) (t : Tok) : rowOf (acc ++ [t]) = rowOf acc ++ t.cells := by simp [rowOf]
def Out (B : Nat) (w0 : World) (R : Except Nat (List Tok)) (e : Ending) (w' : World) : Prop :=
  Below B w0 w' ∧ match R with
  | .ok ts => ∃ v, e = .returned (.tuple #[v, .int .i64 0, .int .i64 0]) ∧ w'.ownsRow B 185 4 v ts.length (rowOf ts)
  | .error p => e = .returned (.tuple #[.slice none 0 0, .int .i64 (p : Int), .int .i64 20])
def Q9 (B : Nat) (w0 : World) (R : Except Nat (List Tok)) : Exit → Act → World → Prop := bodyPost Tryz.prog Tryz.f127 (Out B w0 R)
theorem whole_lands (s : ByteArray) (B : Nat) (w0 w : World) (R : Except Nat (List Tok)) (hs : s.size ≤ 1100000) (acc : List Tok) (v : Value) (n to_ kind : Int) (at_ p : Nat)
    (hp : to_ = p) (h1 : at_ < p) (h2 : p ≤ s.size) (hacc : acc.length ≤ at_) (hown : w.ownsRow B 185 4 v acc.length (rowOf acc)) (hbel : Below B w0 w) (hB : B ≤ w.heap.size)
    (hnext : Hid (∀ (w' : World) (v' : Value), w'.ownsRow B 185 4 v' (acc.length + 1) (rowOf (acc ++ [{ kind := kind, text := ((bs s).drop at_).take (p - at_), num := n, place := at_ }])) → Below B w0 w' → B ≤ w'.heap.size → ∀ {u1 u2 u3 u4 u6 u8 u9 u10 u11 u12 u13 u14 u15 u16 u17 u18 u19 u20 u21 u22 u23 u24 u25 u26 u27 u28 u29 u30 u31 u32 u33 u34 u35 u36 u37 u38 u39 u40 u41 u42 u43 u44 u45 u46 u47 u48 u49 u50 u51 u52 u53 u54 u55 u56 u57 u58 u59 u60 u61 u62 u63 u64 u65 u66 u67 u68 u69 u70 u71 u72 u73 u74 u75 : Value}, Lands Tryz.prog (scopeOf Tryz.f127) (Q9 B w0 R) 0 { tmps := List.toArray (.string s :: u1 :: u2 :: u3 :: u4 :: v' :: u6 :: .int .i64 (p : Int) :: u8 :: u9 :: u10 :: u11 :: u12 :: u13 :: u14 :: u15 :: u16 :: u17 :: u18 :: u19 :: u20 :: u21 :: u22 :: u23 :: u24 :: u25 :: u26 :: u27 :: u28 :: u29 :: u30 :: u31 :: u32 :: u33 :: u34 :: u35 :: u36 :: u37 :: u38 :: u39 :: u40 :: u41 :: u42 :: u43 :: u44 :: u45 :: u46 :: u47 :: u48 :: u49 :: u50 :: u51 :: u52 :: u53 :: u54 :: u55 :: u56 :: u57 :: u58 :: u59 :: u60 :: u61 :: u62 :: u63 :: u64 :: u65 :: u66 :: u67 :: u68 :: u69 :: u70 :: u71 :: u72 :: u73 :: u74 :: u75 :: []), defers := [] } w')) {u1 u2 u3 u4 u10 u11 u12 u13 u14 u15 u16 u17 u18 u19 u20 u21 u22 u23 u24 u25 u26 u27 u28 u29 u30 u31 u32 u33 u34 u35 u36 u37 u38 u39 u40 u41 u42 u43 u44 u45 u46 u47 u48 u49 u50 u51 u52 u53 u54 u55 u56 u57 u58 u59 u60 u61 u62 u63 u64 u65 u66 u67 u68 u69 u70 u71 u72 u73 u74 u75 : Value} :
    Lands Tryz.prog (scopeOf Tryz.f127) (Q9 B w0 R) 3 { tmps := List.toArray (.string s :: u1 :: u2 :: u3 :: u4 :: v :: .int .u32 n :: .int .i64 (at_ : Int) :: .int .i64 to_ :: .int .i64 kind :: u10 :: u11 :: u12 :: u13 :: u14 :: u15 :: u16 :: u17 :: u18 :: u19 :: u20 :: u21 :: u22 :: u23 :: u24 :: u25 :: u26 :: u27 :: u28 :: u29 :: u30 :: u31 :: u32 :: u33 :: u34 :: u35 :: u36 :: u37 :: u38 :: u39 :: u40 :: u41 :: u42 :: u43 :: u44 :: u45 :: u46 :: u47 :: u48 :: u49 :: u50 :: u51 :: u52 :: u53 :: u54 :: u55 :: u56 :: u57 :: u58 :: u59 :: u60 :: u61 :: u62 :: u63 :: u64 :: u65 :: u66 :: u67 :: u68 :: u69 :: u70 :: u71 :: u72 :: u73 :: u74 :: u75 :: []), defers := [] } w := by
  subst hp
  obtain ⟨T, hT⟩ : ∃ T, T = ((bs s).drop at_).take (p - at_) := ⟨_, rfl⟩
  have hsl : ∀ W : World, (Instr.slice 9 (.string s) (some (.int .i64 (at_ : Int))) (some (.int .i64 (p : Int))) none).run Tryz.prog W = .ok (.string (str T)) W := fun W => by
    rw [run_slice_string W 9 s .i64 .i64 at_ p Tryz.underlying9 (by omega) (by omega) (by omega), Lib.extract_eq, hT]
    simp [str, bs]
  have hTs : (str T).size ≤ 1100000 := by
    have : (str T).size = T.length := by simp [str, ByteArray.size]
    rw [this, hT, List.length_take, List.length_drop, bs_length]
    omega
  rw [← hT] at hnext
  clear hT
  obtain ⟨i0, hi, hz0, hz1, hz2⟩ := info_parts Tryz.info188
  have hlen : acc.length ≤ 1100000 := by omega
  refine Lands.of rfl ?_
  go_wp2_with (first
      | (go_at_call 155; refine (clone_any _ _ (by omega)).mono ?_; rintro e w' ⟨rfl, hb⟩)
      | (at_builtin; go_must (refine wpList_append_own_wide _ rfl (.tmp 63) (.tmp 73) 181 rfl B 185 i0 (.agg #[.int .i64 0, .string ⟨#[]⟩, .int .u32 0, .int .i64 0]) 4 40 Tryz.underlying181 hi hz0 hz1 hz2 rfl (by decide) v acc.length (rowOf acc) rfl ((ownsRow_below hown hb).alloc _) ⟨w'.heap.size, 0, none⟩ 1 1 [.int .i64 kind, .string (str T), .int .u32 n, .int .i64 (at_ : Int)] rfl rfl (cells_new _ _ _) (by simp [Value.oneCell']) (by unfold maxLen; omega) (by omega) (by have := hb.size; simp; omega) ?_; intro v2 w2 hown2 hgrow2 _)))
  go_step3
  have hbs := hb.size
  refine hnext.out w2 v2 ?_ ?_ ?_
  · rw [rowOf_push]; exact hown2
  · exact ((hbel.trans (hb.mono hB)).alloc (by omega) _).grown hgrow2 (by simp; omega) (fun k hk => (hown.lt k hk).1)
  · have := hgrow2.size; simp at this; omega
end Go.Proofs.YtmndccbeddaphaaGreatDoor
/- lex.Tokens: the tokens of a text: its states. -/
namespace Go.Proofs.YtmndccbeddaphaaGreatDoor
open Go.ChangeShapes Go.WideShapes Go.ChangeAt Go.RowKit
set_option linter.unusedVariables false
set_option maxRecDepth 100000
theorem wrong_lands (s : ByteArray) (B : Nat) (w0 w : World) (R : Except Nat (List Tok)) (at_ : Nat) (hR : R = .error at_) (hbel : Below B w0 w) {u1 u2 u3 u4 u5 u6 u8 u9 u10 u11 u12 u13 u14 u15 u16 u17 u18 u19 u20 u21 u22 u23 u24 u25 u26 u27 u28 u29 u30 u31 u32 u33 u34 u35 u36 u37 u38 u39 u40 u41 u42 u43 u44 u45 u46 u47 u48 u49 u50 u51 u52 u53 u54 u55 u56 u57 u58 u59 u60 u61 u62 u63 u64 u65 u66 u67 u68 u69 u70 u71 u72 u73 u74 u75 : Value} :
    Lands Tryz.prog (scopeOf Tryz.f127) (Q9 B w0 R) 4 { tmps := List.toArray (.string s :: u1 :: u2 :: u3 :: u4 :: u5 :: u6 :: .int .i64 (at_ : Int) :: u8 :: u9 :: u10 :: u11 :: u12 :: u13 :: u14 :: u15 :: u16 :: u17 :: u18 :: u19 :: u20 :: u21 :: u22 :: u23 :: u24 :: u25 :: u26 :: u27 :: u28 :: u29 :: u30 :: u31 :: u32 :: u33 :: u34 :: u35 :: u36 :: u37 :: u38 :: u39 :: u40 :: u41 :: u42 :: u43 :: u44 :: u45 :: u46 :: u47 :: u48 :: u49 :: u50 :: u51 :: u52 :: u53 :: u54 :: u55 :: u56 :: u57 :: u58 :: u59 :: u60 :: u61 :: u62 :: u63 :: u64 :: u65 :: u66 :: u67 :: u68 :: u69 :: u70 :: u71 :: u72 :: u73 :: u74 :: u75 :: []), defers := [] } w := by
  subst hR
  refine Lands.of rfl ?_
  go_wp2
  rw [jumps_ret]
  unfold Q9
  go_ret3
  exact ⟨hbel, rfl⟩
theorem name_lands (s : ByteArray) (B : Nat) (w0 w : World) (R : Except Nat (List Tok)) (hs : s.size ≤ 1100000) (v : Value) (n kind : Int) (at_ E : Nat) (hat : at_ ≤ E) (hE : E ≤ s.size) (hbel : Below B w0 w)
    (hgood : Hid (E - at_ ≤ 32 → ∀ {u1 u2 u3 u4 u10 u11 u12 u13 u14 u15 u16 u17 u18 u19 u20 u21 u22 u23 u24 u25 u26 u27 u28 u29 u30 u31 u32 u33 u34 u35 u36 u37 u38 u39 u40 u41 u42 u43 u44 u45 u46 u47 u48 u49 u50 u51 u52 u53 u54 u55 u56 u57 u58 u59 u60 u61 u62 u63 u64 u65 u66 u67 u68 u69 u70 u71 u72 u73 u74 u75 : Value}, Lands Tryz.prog (scopeOf Tryz.f127) (Q9 B w0 R) 3 { tmps := List.toArray (.string s :: u1 :: u2 :: u3 :: u4 :: v :: .int .u32 n :: .int .i64 (at_ : Int) :: .int .i64 (E : Int) :: .int .i64 kind :: u10 :: u11 :: u12 :: u13 :: u14 :: u15 :: u16 :: u17 :: u18 :: u19 :: u20 :: u21 :: u22 :: u23 :: u24 :: u25 :: u26 :: u27 :: u28 :: u29 :: u30 :: u31 :: u32 :: u33 :: u34 :: u35 :: u36 :: u37 :: u38 :: u39 :: u40 :: u41 :: u42 :: u43 :: u44 :: u45 :: u46 :: u47 :: u48 :: u49 :: u50 :: u51 :: u52 :: u53 :: u54 :: u55 :: u56 :: u57 :: u58 :: u59 :: u60 :: u61 :: u62 :: u63 :: u64 :: u65 :: u66 :: u67 :: u68 :: u69 :: u70 :: u71 :: u72 :: u73 :: u74 :: u75 :: []), defers := [] } w))
    (hbad : Hid (32 < E - at_ → R = .error at_)) :
    ∀ (m k : Nat), k ≤ E → k + m = E → at_ ≤ k → lenW inW ((bs s).drop k) = m →
    ∀ {u1 u2 u3 u4 u10 u11 u12 u13 u14 u15 u16 u17 u18 u19 u20 u21 u22 u23 u24 u25 u26 u27 u28 u29 u30 u31 u32 u33 u34 u35 u36 u37 u38 u39 u40 u41 u42 u43 u44 u45 u46 u47 u48 u49 u50 u51 u52 u53 u54 u55 u56 u57 u58 u59 u60 u61 u62 u63 u64 u65 u66 u67 u68 u69 u70 u71 u72 u73 u74 u75 : Value}, Lands Tryz.prog (scopeOf Tryz.f127) (Q9 B w0 R) 1 { tmps := List.toArray (.string s :: u1 :: u2 :: u3 :: u4 :: v :: .int .u32 n :: .int .i64 (at_ : Int) :: .int .i64 (k : Int) :: .int .i64 kind :: u10 :: u11 :: u12 :: u13 :: u14 :: u15 :: u16 :: u17 :: u18 :: u19 :: u20 :: u21 :: u22 :: u23 :: u24 :: u25 :: u26 :: u27 :: u28 :: u29 :: u30 :: u31 :: u32 :: u33 :: u34 :: u35 :: u36 :: u37 :: u38 :: u39 :: u40 :: u41 :: u42 :: u43 :: u44 :: u45 :: u46 :: u47 :: u48 :: u49 :: u50 :: u51 :: u52 :: u53 :: u54 :: u55 :: u56 :: u57 :: u58 :: u59 :: u60 :: u61 :: u62 :: u63 :: u64 :: u65 :: u66 :: u67 :: u68 :: u69 :: u70 :: u71 :: u72 :: u73 :: u74 :: u75 :: []), defers := [] } w := by
  intro m
  induction m with
  | zero =>
    intro k hk hm hak hl
    intros
    have e : k = E := by omega
    subst e
    have hin : inW (atI (bs s) k) = false := by
      cases h : inW (atI (bs s) k)
      · rfl
      · have := (lenW_more inW inW_zero ((bs s).drop k) (by rw [atI_drop]; exact h)).1
        omega
    clear hl
    by_cases hb : 32 < k - at_
    · have hR := hbad.out hb
      have hlt : (32 : Int) < (k : Int) - (at_ : Int) := by omega
      clear hgood hbad hb
      subst hR
      refine Lands.of rfl ?_
      go_wp2_with (first
      | (go_at_call 148; refine (byteAt_any _ _ (by omega) (by omega) _).mono ?_; rintro e w' ⟨rfl, rfl⟩)
      | (go_at_call 149; refine (isBlank_any _ _).mono ?_; rintro e w' ⟨rfl, rfl⟩)
      | (go_at_call 150; refine (isLetter_any _ _).mono ?_; rintro e w' ⟨rfl, rfl⟩)
      | (go_at_call 151; refine (isDigit_any _ _).mono ?_; rintro e w' ⟨rfl, rfl⟩)
      | (go_at_call 152; refine (isSign_any _ (by assumption) (by assumption) _).mono ?_; rintro e w' ⟨rfl, rfl⟩)
      | (go_at_call 153; refine (inWord_any _ _).mono ?_; rintro e w' ⟨rfl, rfl⟩))
      go_step3
      exact wrong_lands s B w0 w' _ at_ rfl hbel
    · have hlt : (k : Int) - (at_ : Int) ≤ 32 := by omega
      refine Lands.of rfl ?_
      go_wp2_with (first
      | (go_at_call 148; refine (byteAt_any _ _ (by omega) (by omega) _).mono ?_; rintro e w' ⟨rfl, rfl⟩)
      | (go_at_call 149; refine (isBlank_any _ _).mono ?_; rintro e w' ⟨rfl, rfl⟩)
      | (go_at_call 150; refine (isLetter_any _ _).mono ?_; rintro e w' ⟨rfl, rfl⟩)
      | (go_at_call 151; refine (isDigit_any _ _).mono ?_; rintro e w' ⟨rfl, rfl⟩)
      | (go_at_call 152; refine (isSign_any _ (by assumption) (by assumption) _).mono ?_; rintro e w' ⟨rfl, rfl⟩)
      | (go_at_call 153; refine (inWord_any _ _).mono ?_; rintro e w' ⟨rfl, rfl⟩))
      go_step3
      exact hgood.out (by omega)
  | succ m ih =>
    intro k hk hm hak hl
    intros
    have hin : inW (atI (bs s) k) = true := by
      cases h : inW (atI (bs s) k)
      · have := lenW_stop inW ((bs s).drop k) (by rw [atI_drop]; exact h)
        omega
      · rfl
    have hl1 := (lenW_more inW inW_zero ((bs s).drop k) (by rw [atI_drop]; exact hin)).1
    rw [List.drop_drop] at hl1
    have hl2 : lenW inW ((bs s).drop (k + 1)) = m := by omega
    have hH := Hid.intro hl2
    clear hl hl1 hl2
    refine Lands.of rfl ?_
    go_wp2_with (first
      | (go_at_call 148; refine (byteAt_any _ _ (by omega) (by omega) _).mono ?_; rintro e w' ⟨rfl, rfl⟩)
      | (go_at_call 149; refine (isBlank_any _ _).mono ?_; rintro e w' ⟨rfl, rfl⟩)
      | (go_at_call 150; refine (isLetter_any _ _).mono ?_; rintro e w' ⟨rfl, rfl⟩)
      | (go_at_call 151; refine (isDigit_any _ _).mono ?_; rintro e w' ⟨rfl, rfl⟩)
      | (go_at_call 152; refine (isSign_any _ (by assumption) (by assumption) _).mono ?_; rintro e w' ⟨rfl, rfl⟩)
      | (go_at_call 153; refine (inWord_any _ _).mono ?_; rintro e w' ⟨rfl, rfl⟩))
    go_step3
    exact ih (k + 1) (by omega) (by omega) (by omega) hH.out
end Go.Proofs.YtmndccbeddaphaaGreatDoor
/- lex.Tokens: the tokens of a text: the contract. -/
namespace Go.Proofs.YtmndccbeddaphaaGreatDoor
open Go.ChangeShapes Go.WideShapes Go.ChangeAt Go.RowKit
set_option linter.unusedVariables false
set_option maxRecDepth 100000
theorem number_lands (s : ByteArray) (B : Nat) (w0 w : World) (R : Except Nat (List Tok)) (hs : s.size ≤ 1100000) (acc : List Tok) (v : Value) (at_ : Nat)
    (h1 : at_ < s.size) (hd : isDig (atI (bs s) at_) = true ∨ atI (bs s) at_ = 39) (hacc : acc.length ≤ at_) (hown : w.ownsRow B 185 4 v acc.length (rowOf acc)) (hbel : Below B w0 w) (hB : B ≤ w.heap.size)
    (hbad : numL ((bs s).drop at_) = 0 → R = .error at_)
    (hnext : Hid (numL ((bs s).drop at_) ≠ 0 → ∀ (p : Nat), p = at_ + numL ((bs s).drop at_) → ∀ (w' : World) (v' : Value), w'.ownsRow B 185 4 v' (acc.length + 1) (rowOf (acc ++ [{ kind := 2, text := ((bs s).drop at_).take (numL ((bs s).drop at_)), num := numN ((bs s).drop at_), place := at_ }])) → Below B w0 w' → B ≤ w'.heap.size → ∀ {u1 u2 u3 u4 u6 u8 u9 u10 u11 u12 u13 u14 u15 u16 u17 u18 u19 u20 u21 u22 u23 u24 u25 u26 u27 u28 u29 u30 u31 u32 u33 u34 u35 u36 u37 u38 u39 u40 u41 u42 u43 u44 u45 u46 u47 u48 u49 u50 u51 u52 u53 u54 u55 u56 u57 u58 u59 u60 u61 u62 u63 u64 u65 u66 u67 u68 u69 u70 u71 u72 u73 u74 u75 : Value}, Lands Tryz.prog (scopeOf Tryz.f127) (Q9 B w0 R) 0 { tmps := List.toArray (.string s :: u1 :: u2 :: u3 :: u4 :: v' :: u6 :: .int .i64 (p : Int) :: u8 :: u9 :: u10 :: u11 :: u12 :: u13 :: u14 :: u15 :: u16 :: u17 :: u18 :: u19 :: u20 :: u21 :: u22 :: u23 :: u24 :: u25 :: u26 :: u27 :: u28 :: u29 :: u30 :: u31 :: u32 :: u33 :: u34 :: u35 :: u36 :: u37 :: u38 :: u39 :: u40 :: u41 :: u42 :: u43 :: u44 :: u45 :: u46 :: u47 :: u48 :: u49 :: u50 :: u51 :: u52 :: u53 :: u54 :: u55 :: u56 :: u57 :: u58 :: u59 :: u60 :: u61 :: u62 :: u63 :: u64 :: u65 :: u66 :: u67 :: u68 :: u69 :: u70 :: u71 :: u72 :: u73 :: u74 :: u75 :: []), defers := [] } w')) {u1 u2 u3 u4 u6 u8 u10 u11 u12 u13 u14 u15 u16 u17 u18 u19 u20 u21 u22 u23 u24 u25 u26 u27 u28 u29 u30 u31 u32 u33 u34 u35 u36 u37 u38 u39 u40 u41 u42 u43 u44 u45 u46 u47 u48 u49 u50 u51 u52 u53 u54 u55 u56 u57 u58 u59 u60 u61 u62 u63 u64 u65 u66 u67 u68 u69 u70 u71 u72 u73 u74 u75 : Value} :
    Lands Tryz.prog (scopeOf Tryz.f127) (Q9 B w0 R) 2 { tmps := List.toArray (.string s :: u1 :: u2 :: u3 :: u4 :: v :: u6 :: .int .i64 (at_ : Int) :: u8 :: .int .i64 2 :: u10 :: u11 :: u12 :: u13 :: u14 :: u15 :: u16 :: u17 :: u18 :: u19 :: u20 :: u21 :: u22 :: u23 :: u24 :: u25 :: u26 :: u27 :: u28 :: u29 :: u30 :: u31 :: u32 :: u33 :: u34 :: u35 :: u36 :: u37 :: u38 :: u39 :: u40 :: u41 :: u42 :: u43 :: u44 :: u45 :: u46 :: u47 :: u48 :: u49 :: u50 :: u51 :: u52 :: u53 :: u54 :: u55 :: u56 :: u57 :: u58 :: u59 :: u60 :: u61 :: u62 :: u63 :: u64 :: u65 :: u66 :: u67 :: u68 :: u69 :: u70 :: u71 :: u72 :: u73 :: u74 :: u75 :: []), defers := [] } w := by
  by_cases h0 : numL ((bs s).drop at_) = 0
  · have hR := hbad h0
    subst hR
    clear hnext hbad
    refine Lands.of rfl ?_
    go_wp2_with (go_at_call 154; refine (numberAt_any _ _ h1 (by omega) hd _).mono ?_; rintro e w' ⟨rfl, rfl⟩)
    go_step3
    exact wrong_lands s B w0 w' _ at_ rfl hbel
  · have hle := numL_le ((bs s).drop at_)
    rw [List.length_drop, bs_length] at hle
    obtain ⟨k, hk⟩ : ∃ k, k = numL ((bs s).drop at_) := ⟨_, rfl⟩
    obtain ⟨n, hn⟩ : ∃ n, n = numN ((bs s).drop at_) := ⟨_, rfl⟩
    have hcall : ∀ w, Calls Tryz.prog 154 #[.string s, .int .i64 (at_ : Int)] w fun e w' => e = .returned (.tuple #[.int .u32 n, .int .i64 ((at_ : Int) + k)]) ∧ w' = w := by
      intro w
      rw [hk, hn]
      exact numberAt_any _ _ h1 (by omega) hd _
    rw [← hk, ← hn] at hnext
    rw [← hk] at h0 hle
    obtain ⟨T, hT⟩ : ∃ T, T = ((bs s).drop at_).take k := ⟨_, rfl⟩
    have hsl : ∀ W : World, (Instr.slice 9 (.string s) (some (.int .i64 (at_ : Int))) (some (.int .i64 ((at_ : Int) + k))) none).run Tryz.prog W = .ok (.string (str T)) W := fun W => by
      rw [run_slice_string W 9 s .i64 .i64 at_ ((at_ : Int) + k) Tryz.underlying9 (by omega) (by omega) (by omega), Lib.extract_eq, hT]
      simp [str, bs]
      congr 2
      omega
    have hTs : (str T).size ≤ 1100000 := by
      have : (str T).size = T.length := by simp [str, ByteArray.size]
      rw [this, hT, List.length_take, List.length_drop, bs_length]
      omega
    rw [← hT] at hnext
    have he : (((at_ : Int) + k) == (at_ : Int)) = false := by simp; omega
    clear hT hk hn hbad hd
    obtain ⟨i0, hi, hz0, hz1, hz2⟩ := info_parts Tryz.info188
    have hlen : acc.length ≤ 1100000 := by omega
    have hcH := Hid.intro hcall
    clear hcall
    refine Lands.of rfl ?_
    go_wp2_with (go_at_call 154; refine (hcH.out _).mono ?_; rintro e w' ⟨rfl, rfl⟩)
    go_step3
    go_wp2_with (first
      | (go_at_call 155; refine (clone_any _ _ (by omega)).mono ?_; rintro e w' ⟨rfl, hb⟩)
      | (at_builtin; go_must (refine wpList_append_own_wide _ rfl (.tmp 63) (.tmp 73) 181 rfl B 185 i0 (.agg #[.int .i64 0, .string ⟨#[]⟩, .int .u32 0, .int .i64 0]) 4 40 Tryz.underlying181 hi hz0 hz1 hz2 rfl (by decide) v acc.length (rowOf acc) rfl ((ownsRow_below hown hb).alloc _) ⟨_, 0, none⟩ 1 1 [.int .i64 2, .string (str T), .int .u32 n, .int .i64 (at_ : Int)] rfl rfl (cells_new _ _ _) (by simp [Value.oneCell']) (by unfold maxLen; omega) (by omega) (by have := hb.size; simp; omega) ?_; intro v2 w2 hown2 hgrow2 _)))
    go_step3
    have hbs := hb.size
    refine hnext.out h0 (at_ + k) rfl w2 v2 ?_ ?_ ?_
    · rw [rowOf_push]; exact hown2
    · exact ((hbel.trans (hb.mono hB)).alloc (by omega) _).grown hgrow2 (by simp; omega) (fun k hk => (hown.lt k hk).1)
    · have := hgrow2.size; simp at this; omega
end Go.Proofs.YtmndccbeddaphaaGreatDoor
/- lex.Tokens: the tokens of a text: the contract. -/
namespace Go.Proofs.YtmndccbeddaphaaGreatDoor
open Go.ChangeShapes Go.WideShapes Go.ChangeAt Go.RowKit
set_option linter.unusedVariables false
set_option maxRecDepth 100000
theorem wp_label_code {P : Program} {c : Code} {l : Nat} {X rest : Code} {Q : Exit → Act → World → Prop} {a : Act} {w : World} (hX : findLabel c l = some (.seq .skip X)) (hf : findLabel c l = some (.seq .skip rest)) (h : rest.wp P Q a w) : X.wp P Q a w := by
  rw [hX] at hf
  cases hf
  exact h
theorem Lands.tail {P : Program} {c : Code} {l : Nat} {X : Code} {Q : Exit → Act → World → Prop} {a : Act} {w : World} (hX : findLabel c l = some (.seq .skip X)) (h : X.wp P (jumps (Lands P c Q) Q) a w) : Lands P c Q l a w :=
  Lands.of hX (wp_seq (wp_skip h))
theorem between_wp (X : Code) (hX : findLabel (scopeOf Tryz.f127) 0 = some (.seq .skip X)) (s : ByteArray) (B : Nat) (w0 : World) (R : Except Nat (List Tok)) (hs : s.size ≤ 1100000) :
    ∀ (m at_ : Nat) (acc : List Tok) (v : Value) (w : World), s.size - at_ = m → at_ ≤ s.size → acc.length ≤ at_ → R = ext acc (scan ((bs s).drop at_) at_) →
    w.ownsRow B 185 4 v acc.length (rowOf acc) → Below B w0 w → B ≤ w.heap.size →
    ∀ {u1 u2 u3 u4 u6 u8 u9 u10 u11 u12 u13 u14 u15 u16 u17 u18 u19 u20 u21 u22 u23 u24 u25 u26 u27 u28 u29 u30 u31 u32 u33 u34 u35 u36 u37 u38 u39 u40 u41 u42 u43 u44 u45 u46 u47 u48 u49 u50 u51 u52 u53 u54 u55 u56 u57 u58 u59 u60 u61 u62 u63 u64 u65 u66 u67 u68 u69 u70 u71 u72 u73 u74 u75 : Value}, Code.wp Tryz.prog X (jumps (Lands Tryz.prog (scopeOf Tryz.f127) (Q9 B w0 R)) (Q9 B w0 R)) { tmps := List.toArray (.string s :: u1 :: u2 :: u3 :: u4 :: v :: u6 :: .int .i64 (at_ : Int) :: u8 :: u9 :: u10 :: u11 :: u12 :: u13 :: u14 :: u15 :: u16 :: u17 :: u18 :: u19 :: u20 :: u21 :: u22 :: u23 :: u24 :: u25 :: u26 :: u27 :: u28 :: u29 :: u30 :: u31 :: u32 :: u33 :: u34 :: u35 :: u36 :: u37 :: u38 :: u39 :: u40 :: u41 :: u42 :: u43 :: u44 :: u45 :: u46 :: u47 :: u48 :: u49 :: u50 :: u51 :: u52 :: u53 :: u54 :: u55 :: u56 :: u57 :: u58 :: u59 :: u60 :: u61 :: u62 :: u63 :: u64 :: u65 :: u66 :: u67 :: u68 :: u69 :: u70 :: u71 :: u72 :: u73 :: u74 :: u75 :: []), defers := [] } w := by
  intro m
  induction m using Nat.strongRecOn with
  | _ m ih0 =>
    have ih : ∀ (m' : Nat), m' < m → ∀ (at_ : Nat) (acc : List Tok) (v : Value) (w : World), s.size - at_ = m' → at_ ≤ s.size → acc.length ≤ at_ → R = ext acc (scan ((bs s).drop at_) at_) →
        w.ownsRow B 185 4 v acc.length (rowOf acc) → Below B w0 w → B ≤ w.heap.size →
        ∀ {u1 u2 u3 u4 u6 u8 u9 u10 u11 u12 u13 u14 u15 u16 u17 u18 u19 u20 u21 u22 u23 u24 u25 u26 u27 u28 u29 u30 u31 u32 u33 u34 u35 u36 u37 u38 u39 u40 u41 u42 u43 u44 u45 u46 u47 u48 u49 u50 u51 u52 u53 u54 u55 u56 u57 u58 u59 u60 u61 u62 u63 u64 u65 u66 u67 u68 u69 u70 u71 u72 u73 u74 u75 : Value}, Lands Tryz.prog (scopeOf Tryz.f127) (Q9 B w0 R) 0 { tmps := List.toArray (.string s :: u1 :: u2 :: u3 :: u4 :: v :: u6 :: .int .i64 (at_ : Int) :: u8 :: u9 :: u10 :: u11 :: u12 :: u13 :: u14 :: u15 :: u16 :: u17 :: u18 :: u19 :: u20 :: u21 :: u22 :: u23 :: u24 :: u25 :: u26 :: u27 :: u28 :: u29 :: u30 :: u31 :: u32 :: u33 :: u34 :: u35 :: u36 :: u37 :: u38 :: u39 :: u40 :: u41 :: u42 :: u43 :: u44 :: u45 :: u46 :: u47 :: u48 :: u49 :: u50 :: u51 :: u52 :: u53 :: u54 :: u55 :: u56 :: u57 :: u58 :: u59 :: u60 :: u61 :: u62 :: u63 :: u64 :: u65 :: u66 :: u67 :: u68 :: u69 :: u70 :: u71 :: u72 :: u73 :: u74 :: u75 :: []), defers := [] } w := by
      intro m' hm' at_ acc v w h1 h2 h3 h4 h5 h6 h7
      intros
      exact Lands.tail hX (ih0 m' hm' at_ acc v w h1 h2 h3 h4 h5 h6 h7)
    clear ih0
    have hXH := Hid.intro hX
    clear hX
    intro at_ acc v w hm hat hacc hR hown hbel hB
    intros
    have hm' := hm.symm
    subst hm'
    by_cases hend : at_ = s.size
    · have hRe : R = .ok acc := by
        rw [hR, scan_end (bs s) at_ (by rw [bs_length]; omega)]
        simp [ext]
      have he : ((at_ : Int) == (s.size : Int)) = true := by simp [hend]
      have hH := Hid.intro hend
      clear ih hR hm hend
      subst hRe
      refine wp_label_code hXH.out rfl ?_
      go_wp2_with (first
      | (go_at_call 148; refine (byteAt_any _ _ (by omega) (by omega) _).mono ?_; rintro e w' ⟨rfl, rfl⟩)
      | (go_at_call 149; refine (isBlank_any _ _).mono ?_; rintro e w' ⟨rfl, rfl⟩)
      | (go_at_call 150; refine (isLetter_any _ _).mono ?_; rintro e w' ⟨rfl, rfl⟩)
      | (go_at_call 151; refine (isDigit_any _ _).mono ?_; rintro e w' ⟨rfl, rfl⟩)
      | (go_at_call 152; refine (isSign_any _ (by assumption) (by assumption) _).mono ?_; rintro e w' ⟨rfl, rfl⟩)
      | (go_at_call 153; refine (inWord_any _ _).mono ?_; rintro e w' ⟨rfl, rfl⟩))
      rw [jumps_ret]
      unfold Q9
      go_ret3
      exact ⟨hbel, v, rfl, hown⟩
    · have hlt : at_ < s.size := by omega
      have hll : at_ < (bs s).length := by rw [bs_length]; exact hlt
      have he : ((at_ : Int) == (s.size : Int)) = false := by simp; omega
      obtain ⟨c, hc⟩ : ∃ c, c = atI (bs s) at_ := ⟨_, rfl⟩
      have c0 : 0 ≤ c := by rw [hc]; exact atI_lo _ _
      have c1 : c ≤ 255 := by rw [hc]; exact atI_hi _ _
      have hc' := hc.symm
      have hr0 : atI ((bs s).drop at_) 0 = c := by rw [atI_drop, Nat.add_zero]; exact hc'
      have hnextA : c ≠ 59 → isBl c = false → ∀ (kind n : Int) (k : Nat), tokAt ((bs s).drop at_) = some (kind, n, k) → ∀ (p : Nat), p = at_ + k → ∀ (w' : World) (v' : Value),
          w'.ownsRow B 185 4 v' (acc.length + 1) (rowOf (acc ++ [{ kind := kind, text := ((bs s).drop at_).take k, num := n, place := at_ }])) → Below B w0 w' → B ≤ w'.heap.size →
          ∀ {u1 u2 u3 u4 u6 u8 u9 u10 u11 u12 u13 u14 u15 u16 u17 u18 u19 u20 u21 u22 u23 u24 u25 u26 u27 u28 u29 u30 u31 u32 u33 u34 u35 u36 u37 u38 u39 u40 u41 u42 u43 u44 u45 u46 u47 u48 u49 u50 u51 u52 u53 u54 u55 u56 u57 u58 u59 u60 u61 u62 u63 u64 u65 u66 u67 u68 u69 u70 u71 u72 u73 u74 u75 : Value}, Lands Tryz.prog (scopeOf Tryz.f127) (Q9 B w0 R) 0 { tmps := List.toArray (.string s :: u1 :: u2 :: u3 :: u4 :: v' :: u6 :: .int .i64 (p : Int) :: u8 :: u9 :: u10 :: u11 :: u12 :: u13 :: u14 :: u15 :: u16 :: u17 :: u18 :: u19 :: u20 :: u21 :: u22 :: u23 :: u24 :: u25 :: u26 :: u27 :: u28 :: u29 :: u30 :: u31 :: u32 :: u33 :: u34 :: u35 :: u36 :: u37 :: u38 :: u39 :: u40 :: u41 :: u42 :: u43 :: u44 :: u45 :: u46 :: u47 :: u48 :: u49 :: u50 :: u51 :: u52 :: u53 :: u54 :: u55 :: u56 :: u57 :: u58 :: u59 :: u60 :: u61 :: u62 :: u63 :: u64 :: u65 :: u66 :: u67 :: u68 :: u69 :: u70 :: u71 :: u72 :: u73 :: u74 :: u75 :: []), defers := [] } w' := by
        intro h59 hbl kind n k hta p hp w' v' ho hb' hB'
        have hk := tokAt_some _ _ _ _ hta
        rw [List.length_drop, bs_length] at hk
        have hR2 : R = ext (acc ++ [{ kind := kind, text := ((bs s).drop at_).take k, num := n, place := at_ }]) (scan ((bs s).drop p) p) := by
          rw [hR, scan_tok (bs s) at_ hll (by rw [hc']; exact h59) (by rw [hc']; exact hbl) _ _ _ hta, ext_ext, hp]
        have hl : (acc ++ [({ kind := kind, text := ((bs s).drop at_).take k, num := n, place := at_ } : Tok)]).length = acc.length + 1 := by simp
        rw [← hl] at ho
        intros
        exact ih (s.size - p) (by omega) p _ v' w' rfl (by omega) (by rw [hl]; omega) hR2 ho hb' hB'
      have hwrongA : c ≠ 59 → isBl c = false → tokAt ((bs s).drop at_) = none → R = .error at_ := by
        intro h59 hbl hta
        rw [hR, scan_wrong (bs s) at_ hll (by rw [hc']; exact h59) (by rw [hc']; exact hbl) hta]
        rfl
      by_cases h59 : c = 59
      · have hRe : R = .ok acc := by
          rw [hR, scan_remark (bs s) at_ hll (by rw [hc', h59])]
          simp [ext]
        have h59' : (c == 59) = true := by simp [h59]
        clear ih hR hm hc hr0 h59 hend hnextA hwrongA
        subst hRe
        refine wp_label_code hXH.out rfl ?_
        go_wp2_with (first
      | (go_at_call 148; refine (byteAt_any _ _ (by omega) (by omega) _).mono ?_; rintro e w' ⟨rfl, rfl⟩)
      | (go_at_call 149; refine (isBlank_any _ _).mono ?_; rintro e w' ⟨rfl, rfl⟩)
      | (go_at_call 150; refine (isLetter_any _ _).mono ?_; rintro e w' ⟨rfl, rfl⟩)
      | (go_at_call 151; refine (isDigit_any _ _).mono ?_; rintro e w' ⟨rfl, rfl⟩)
      | (go_at_call 152; refine (isSign_any _ (by assumption) (by assumption) _).mono ?_; rintro e w' ⟨rfl, rfl⟩)
      | (go_at_call 153; refine (inWord_any _ _).mono ?_; rintro e w' ⟨rfl, rfl⟩))
        rw [jumps_ret]
        unfold Q9
        go_ret3
        exact ⟨hbel, v, rfl, hown⟩
      · have h59' : (c == 59) = false := by simp [h59]
        cases hbl : isBl c
        · have hnext := Hid.intro (hnextA h59 hbl)
          have hwrong := Hid.intro (hwrongA h59 hbl)
          have hr0H := Hid.intro hr0
          have hcH := Hid.intro h59
          clear hnextA hwrongA ih hm hR hc hr0 h59 hend
          cases hle : isLet c
          · have hnum : Hid ((isDig c = true ∨ c = 39) → ∀ {u1 u2 u3 u4 u6 u8 u10 u11 u12 u13 u14 u15 u16 u17 u18 u19 u20 u21 u22 u23 u24 u25 u26 u27 u28 u29 u30 u31 u32 u33 u34 u35 u36 u37 u38 u39 u40 u41 u42 u43 u44 u45 u46 u47 u48 u49 u50 u51 u52 u53 u54 u55 u56 u57 u58 u59 u60 u61 u62 u63 u64 u65 u66 u67 u68 u69 u70 u71 u72 u73 u74 u75 : Value}, Lands Tryz.prog (scopeOf Tryz.f127) (Q9 B w0 R) 2 { tmps := List.toArray (.string s :: u1 :: u2 :: u3 :: u4 :: v :: u6 :: .int .i64 (at_ : Int) :: u8 :: .int .i64 2 :: u10 :: u11 :: u12 :: u13 :: u14 :: u15 :: u16 :: u17 :: u18 :: u19 :: u20 :: u21 :: u22 :: u23 :: u24 :: u25 :: u26 :: u27 :: u28 :: u29 :: u30 :: u31 :: u32 :: u33 :: u34 :: u35 :: u36 :: u37 :: u38 :: u39 :: u40 :: u41 :: u42 :: u43 :: u44 :: u45 :: u46 :: u47 :: u48 :: u49 :: u50 :: u51 :: u52 :: u53 :: u54 :: u55 :: u56 :: u57 :: u58 :: u59 :: u60 :: u61 :: u62 :: u63 :: u64 :: u65 :: u66 :: u67 :: u68 :: u69 :: u70 :: u71 :: u72 :: u73 :: u74 :: u75 :: []), defers := [] } w) := by
              intro hd
              have hta : tokAt ((bs s).drop at_) = if numL ((bs s).drop at_) = 0 then none else some (2, numN ((bs s).drop at_), numL ((bs s).drop at_)) := by
                unfold tokAt; rw [hr0H.out, if_neg (by rw [hle]; simp), if_pos hd]
              intros
              exact number_lands s B w0 w R hs acc v at_ hlt (by rw [hc']; exact hd) hacc hown hbel hB
                (fun h0 => hwrong.out (by rw [hta, if_pos h0]))
                (fun h0 p hp w' v' ho hb' hB' => hnext.out _ _ _ (by rw [hta, if_neg h0]) p hp w' v' ho hb' hB')
            cases hdi : isDig c
            · by_cases hq : c = 39
              · have hq' : (c == 39) = true := by simp [hq]
                have hqH := Hid.intro hq
                clear hq
                refine wp_label_code hXH.out rfl ?_
                go_wp2_with (first
      | (go_at_call 148; refine (byteAt_any _ _ (by omega) (by omega) _).mono ?_; rintro e w' ⟨rfl, rfl⟩)
      | (go_at_call 149; refine (isBlank_any _ _).mono ?_; rintro e w' ⟨rfl, rfl⟩)
      | (go_at_call 150; refine (isLetter_any _ _).mono ?_; rintro e w' ⟨rfl, rfl⟩)
      | (go_at_call 151; refine (isDigit_any _ _).mono ?_; rintro e w' ⟨rfl, rfl⟩)
      | (go_at_call 152; refine (isSign_any _ (by assumption) (by assumption) _).mono ?_; rintro e w' ⟨rfl, rfl⟩)
      | (go_at_call 153; refine (inWord_any _ _).mono ?_; rintro e w' ⟨rfl, rfl⟩))
                go_step3
                exact hnum.out (Or.inr hqH.out)
              · have hq' : (c == 39) = false := by simp [hq]
                have hqH := Hid.intro hq
                clear hq
                have hta : tokAt ((bs s).drop at_) = if isSg c = true then some (3, 0, 1) else none := by
                  unfold tokAt; rw [hr0H.out, if_neg (by rw [hle]; simp), if_neg (by rw [hdi]; simp; exact hqH.out)]
                have htaH := Hid.intro hta
                clear hta hnum
                cases hsg : isSg c
                · have hRe := hwrong.out (by rw [htaH.out, hsg]; simp)
                  clear hwrong hnext htaH
                  subst hRe
                  refine wp_label_code hXH.out rfl ?_
                  go_wp2_with (first
      | (go_at_call 148; refine (byteAt_any _ _ (by omega) (by omega) _).mono ?_; rintro e w' ⟨rfl, rfl⟩)
      | (go_at_call 149; refine (isBlank_any _ _).mono ?_; rintro e w' ⟨rfl, rfl⟩)
      | (go_at_call 150; refine (isLetter_any _ _).mono ?_; rintro e w' ⟨rfl, rfl⟩)
      | (go_at_call 151; refine (isDigit_any _ _).mono ?_; rintro e w' ⟨rfl, rfl⟩)
      | (go_at_call 152; refine (isSign_any _ (by assumption) (by assumption) _).mono ?_; rintro e w' ⟨rfl, rfl⟩)
      | (go_at_call 153; refine (inWord_any _ _).mono ?_; rintro e w' ⟨rfl, rfl⟩))
                  go_step3
                  go_wp2
                  rw [jumps_ret]
                  unfold Q9
                  go_ret3
                  exact ⟨hbel, rfl⟩
                · refine wp_label_code hXH.out rfl ?_
                  go_wp2_with (first
      | (go_at_call 148; refine (byteAt_any _ _ (by omega) (by omega) _).mono ?_; rintro e w' ⟨rfl, rfl⟩)
      | (go_at_call 149; refine (isBlank_any _ _).mono ?_; rintro e w' ⟨rfl, rfl⟩)
      | (go_at_call 150; refine (isLetter_any _ _).mono ?_; rintro e w' ⟨rfl, rfl⟩)
      | (go_at_call 151; refine (isDigit_any _ _).mono ?_; rintro e w' ⟨rfl, rfl⟩)
      | (go_at_call 152; refine (isSign_any _ (by assumption) (by assumption) _).mono ?_; rintro e w' ⟨rfl, rfl⟩)
      | (go_at_call 153; refine (inWord_any _ _).mono ?_; rintro e w' ⟨rfl, rfl⟩))
                  go_step3
                  exact whole_lands s B w0 _ R hs acc v 0 _ 3 at_ (at_ + 1) (by omega) (by omega) (by omega) hacc hown hbel hB (fun w' v' ho hb' hB' => hnext.out 3 0 1 (by rw [htaH.out, hsg]; simp) (at_ + 1) rfl w' v' (by rw [show at_ + 1 - at_ = 1 by omega] at ho; exact ho) hb' hB')
            · have hd2 : isDig c = true := hdi
              refine wp_label_code hXH.out rfl ?_
              go_wp2_with (first
      | (go_at_call 148; refine (byteAt_any _ _ (by omega) (by omega) _).mono ?_; rintro e w' ⟨rfl, rfl⟩)
      | (go_at_call 149; refine (isBlank_any _ _).mono ?_; rintro e w' ⟨rfl, rfl⟩)
      | (go_at_call 150; refine (isLetter_any _ _).mono ?_; rintro e w' ⟨rfl, rfl⟩)
      | (go_at_call 151; refine (isDigit_any _ _).mono ?_; rintro e w' ⟨rfl, rfl⟩)
      | (go_at_call 152; refine (isSign_any _ (by assumption) (by assumption) _).mono ?_; rintro e w' ⟨rfl, rfl⟩)
      | (go_at_call 153; refine (inWord_any _ _).mono ?_; rintro e w' ⟨rfl, rfl⟩))
              go_step3
              exact hnum.out (Or.inl (by assumption))
          · have hta : tokAt ((bs s).drop at_) = if lenW inW ((bs s).drop at_) ≤ 32 then some (1, 0, lenW inW ((bs s).drop at_)) else none := by
              unfold tokAt; rw [hr0H.out, if_pos hle]
            obtain ⟨hl1, hl2⟩ := lenW_more inW inW_zero ((bs s).drop at_) (by rw [hr0H.out]; exact inW_of_let _ hle)
            rw [List.drop_drop] at hl1
            have hl3 := lenW_le inW ((bs s).drop at_)
            rw [List.length_drop, bs_length] at hl3
            obtain ⟨L, hL⟩ : ∃ L, L = lenW inW ((bs s).drop at_) := ⟨_, rfl⟩
            rw [← hL] at hta hl1 hl3
            have hl4 : lenW inW ((bs s).drop (at_ + 1)) = L - 1 := by omega
            have hL1 : 1 ≤ L := by omega
            have htaH := Hid.intro hta
            have hl4H := Hid.intro hl4
            clear hta hl1 hl2 hL hl4
            refine wp_label_code hXH.out rfl ?_
            go_wp2_with (first
      | (go_at_call 148; refine (byteAt_any _ _ (by omega) (by omega) _).mono ?_; rintro e w' ⟨rfl, rfl⟩)
      | (go_at_call 149; refine (isBlank_any _ _).mono ?_; rintro e w' ⟨rfl, rfl⟩)
      | (go_at_call 150; refine (isLetter_any _ _).mono ?_; rintro e w' ⟨rfl, rfl⟩)
      | (go_at_call 151; refine (isDigit_any _ _).mono ?_; rintro e w' ⟨rfl, rfl⟩)
      | (go_at_call 152; refine (isSign_any _ (by assumption) (by assumption) _).mono ?_; rintro e w' ⟨rfl, rfl⟩)
      | (go_at_call 153; refine (inWord_any _ _).mono ?_; rintro e w' ⟨rfl, rfl⟩))
            go_step3
            refine name_lands s B w0 _ R hs v 0 1 at_ (at_ + L) (by omega) (by omega) hbel ?_ ?_ (L - 1) (at_ + 1) (by have := hl4H.out; omega) (by have := hl4H.out; omega) (by omega) hl4H.out
            · intro h32
              intros
              exact whole_lands s B w0 _ R hs acc v 0 _ 1 at_ (at_ + L) rfl (by omega) (by omega) hacc hown hbel hB (fun w' v' ho hb' hB' => hnext.out 1 0 L (by rw [htaH.out, if_pos (by omega)]) (at_ + L) rfl w' v' (by rw [show at_ + L - at_ = L by omega] at ho; exact ho) hb' hB')
            · intro h32
              exact hwrong.out (by rw [htaH.out, if_neg (by omega)])
        · have hRe : R = ext acc (scan ((bs s).drop (at_ + 1)) (at_ + 1)) := by rw [hR, scan_blank (bs s) at_ hll (by rw [hc']; exact hbl)]
          have hH := Hid.intro hRe
          clear hR hRe hc hr0 h59 hm hend hnextA hwrongA
          refine wp_label_code hXH.out rfl ?_
          go_wp2_with (first
      | (go_at_call 148; refine (byteAt_any _ _ (by omega) (by omega) _).mono ?_; rintro e w' ⟨rfl, rfl⟩)
      | (go_at_call 149; refine (isBlank_any _ _).mono ?_; rintro e w' ⟨rfl, rfl⟩)
      | (go_at_call 150; refine (isLetter_any _ _).mono ?_; rintro e w' ⟨rfl, rfl⟩)
      | (go_at_call 151; refine (isDigit_any _ _).mono ?_; rintro e w' ⟨rfl, rfl⟩)
      | (go_at_call 152; refine (isSign_any _ (by assumption) (by assumption) _).mono ?_; rintro e w' ⟨rfl, rfl⟩)
      | (go_at_call 153; refine (inWord_any _ _).mono ?_; rintro e w' ⟨rfl, rfl⟩))
          go_step3
          exact ih (s.size - (at_ + 1)) (by omega) (at_ + 1) acc v _ rfl (by omega) (by omega) hH.out hown hbel hB
theorem tokens_any (s : ByteArray) (hs : s.size ≤ 1100000) (w : World) :
    Calls Tryz.prog 127 #[.string s] w fun e w' => Out w.heap.size w (scan (bs s) 0) e w' := by
  obtain ⟨R, hR⟩ : ∃ R, R = scan (bs s) 0 := ⟨_, rfl⟩
  rw [← hR]
  have hH := Hid.intro hR
  clear hR
  have hcal : Below w.heap.size w w := Below.refl _ _
  have hnil : w.ownsRow w.heap.size 185 4 (.slice none 0 0) ([] : List Tok).length (rowOf []) := World.ownsRow_nil _ _ _ _
  go_enter Tryz.func127, Tryz.ntmps127
  go_wp2
  refine wp_scope_at (Q := Q9 w.heap.size w R) Tryz.f127 rfl ?_
  go_wp2
  go_step3
  rename_i K hK
  exact hK _ _ (between_wp _ rfl s w.heap.size w R hs (s.size - 0) 0 [] _ w rfl (by omega) (by simp) (by rw [List.drop_zero, ext_nil]; exact hH.out) hnil hcal (Nat.le_refl _))
end Go.Proofs.YtmndccbeddaphaaGreatDoor
/- The tokens in memory, as a reader meets them; few. -/
namespace Go.Proofs.YtmndccbeddaphaaGreatDoor
open Go.ChangeShapes Go.WideShapes Go.ChangeAt Go.RowKit
set_option linter.unusedVariables false
set_option maxRecDepth 100000
theorem rowOf_get (ts : List Tok) (i f : Nat) (t : Tok) (hi : ts[i]? = some t) (hf : f < 4) : (rowOf ts)[i * 4 + f]? = t.cells[f]? := by
  induction ts generalizing i with
  | nil => simp at hi
  | cons x ts ih =>
    have hx : rowOf (x :: ts) = x.cells ++ rowOf ts := by simp [rowOf]
    have hl : x.cells.length = 4 := rfl
    rw [hx]
    cases i with
    | zero =>
      simp at hi
      subst hi
      rw [Nat.zero_mul, Nat.zero_add, List.getElem?_append_left (by omega)]
    | succ i =>
      simp at hi
      rw [List.getElem?_append_right (by omega), hl, show (i + 1) * 4 + f - 4 = i * 4 + f by omega]
      exact ih i hi
structure TokAt (w : World) (g i : Nat) (t : Tok) : Prop where
  kind : w.cell? ⟨g, i * 4, none⟩ = some (.int .i64 t.kind)
  text : w.cell? ⟨g, i * 4 + 1, none⟩ = some (.string (str t.text))
  num : w.cell? ⟨g, i * 4 + 2, none⟩ = some (.int .u32 t.num)
  place : w.cell? ⟨g, i * 4 + 3, none⟩ = some (.int .i64 (t.place : Int))
theorem rowOf_length (ts : List Tok) : (rowOf ts).length = ts.length * 4 := by
  induction ts with
  | nil => rfl
  | cons x ts ih =>
    have hx : rowOf (x :: ts) = x.cells ++ rowOf ts := by simp [rowOf]
    have hl : x.cells.length = 4 := rfl
    rw [hx, List.length_append, ih, hl, List.length_cons]
    omega
theorem tok_at {w : World} {B g n cap : Nat} {T : TypeId} {ts : List Tok} (h : w.ownsRow B T 4 (.slice (some ⟨g, 0, none⟩) n cap) n (rowOf ts)) (i : Nat) (t : Tok) (hi : ts[i]? = some t) : TokAt w g i t := by
  have hl := h.1
  rw [rowOf_length] at hl
  have hlt : i < ts.length := by
    apply Decidable.byContradiction
    intro hn
    rw [List.getElem?_eq_none (by omega)] at hi
    cases hi
  have key : ∀ f, f < 4 → w.cell? ⟨g, i * 4 + f, none⟩ = t.cells[f]? := fun f hf => by rw [h.cellAt _ (by omega), rowOf_get ts i f t hi hf]
  exact ⟨key 0 (by omega), key 1 (by omega), key 2 (by omega), key 3 (by omega)⟩
theorem tokens_ok (s : ByteArray) (hs : s.size ≤ 1100000) (ts : List Tok) (h : scan (bs s) 0 = .ok ts) (w : World) :
    Calls Tryz.prog 127 #[.string s] w fun e w' => Below w.heap.size w w' ∧ ∃ v, e = .returned (.tuple #[v, .int .i64 0, .int .i64 0]) ∧ w'.ownsRow w.heap.size 185 4 v ts.length (rowOf ts) := by
  have := tokens_any s hs w
  rw [h] at this
  exact this
theorem tokens_bad (s : ByteArray) (hs : s.size ≤ 1100000) (p : Nat) (h : scan (bs s) 0 = .error p) (w : World) :
    Calls Tryz.prog 127 #[.string s] w fun e w' => Below w.heap.size w w' ∧ e = .returned (.tuple #[.slice none 0 0, .int .i64 (p : Int), .int .i64 20]) := by
  have := tokens_any s hs w
  rw [h] at this
  exact this
theorem own_form {w : World} {B n : Nat} {T : TypeId} {v : Value} {xs : List Value} (h : w.ownsRow B T 4 v (n + 1) xs) : ∃ g cap, v = .slice (some ⟨g, 0, none⟩) (n + 1) cap ∧ B ≤ g ∧ g < w.heap.size := by
  obtain ⟨hl, ⟨_, h0⟩ | ⟨g, cap, cur, hv, hbg, hg, r⟩⟩ := h
  · omega
  · refine ⟨g, cap, hv, hbg, ?_⟩
    apply Decidable.byContradiction
    intro hn
    rw [Array.getElem?_eq_none (by omega)] at hg
    cases hg
theorem str_toList (l : List UInt8) : (str l).toList = l := by
  rw [Lib.toList_data]
  rfl
end Go.Proofs.YtmndccbeddaphaaGreatDoor
namespace Go.Proofs.YtmndccbeddaphaaGreatDoor
open Go.ChangeShapes Go.WideShapes Go.ChangeAt Go.RowKit
set_option linter.unusedVariables false
set_option maxRecDepth 100000
def isR (s : ByteArray) : Bool := decide (s.size = 2 ∧ atI (bs s) 0 = 114 ∧ 48 ≤ atI (bs s) 1 ∧ atI (bs s) 1 ≤ 55)
def isZ (s : ByteArray) : Bool := decide (s.size = 2 ∧ atI (bs s) 0 = 122 ∧ 48 ≤ atI (bs s) 1 ∧ atI (bs s) 1 ≤ 51)
def regN (s : ByteArray) : Int := if isR s || isZ s then atI (bs s) 1 - 48 else 0
theorem reg_none (s : ByteArray) (h1 : isR s = false) (h2 : isZ s = false) : regN s = 0 := by simp [regN, h1, h2]
theorem register_any (s : ByteArray) (hs : s.size ≤ 4611686018427387904) (w : World) :
    Calls Tryz.prog 128 #[.string s] w fun e w' => e = .returned (.tuple #[.int .i64 (regN s), .bool (isZ s), .bool (isR s || isZ s)]) ∧ w' = w := by
  by_cases h2 : s.size = 2
  · have g0 := atI_get s 0 (by omega)
    have g1 := atI_get s 1 (by omega)
    obtain ⟨c0, hc0⟩ : ∃ c, c = atI (bs s) 0 := ⟨_, rfl⟩
    obtain ⟨c1, hc1⟩ : ∃ c, c = atI (bs s) 1 := ⟨_, rfl⟩
    have er : isR s = decide (c0 = 114 ∧ 48 ≤ c1 ∧ c1 ≤ 55) := by simp [isR, h2, hc0, hc1]
    have ez : isZ s = decide (c0 = 122 ∧ 48 ≤ c1 ∧ c1 ≤ 51) := by simp [isZ, h2, hc0, hc1]
    have en : regN s = if isR s || isZ s then c1 - 48 else 0 := by rw [hc1]; rfl
    rw [← hc0] at g0
    rw [← hc1] at g1
    cases hd : isDig c1
    · have hnd : ¬ (48 ≤ c1 ∧ c1 ≤ 57) := by simpa [isDig] using hd
      have er' : isR s = false := by rw [er]; simp; omega
      have ez' : isZ s = false := by rw [ez]; simp; omega
      rw [en, er', ez']
      clear er ez en er' ez' hc0 hc1
      go_enter Tryz.func128, Tryz.ntmps128
      go_wp2_with (first
        | (go_at_call 151; refine (isDigit_any _ _).mono ?_; rintro e w' ⟨rfl, rfl⟩))
      go_ret3
      exact ⟨rfl, rfl⟩
    · have hx := isHex_of_dig _ hd
      obtain ⟨b0, b1⟩ : 48 ≤ c1 ∧ c1 ≤ 57 := by simpa [isDig] using hd
      have hv : digI c1 = c1 - 48 := by unfold digI; rw [if_pos ⟨b0, b1⟩]
      have hcall : ∀ w, Calls Tryz.prog 156 #[.int .u8 c1] w fun e w' => e = .returned (.int .u64 (c1 - 48)) ∧ w' = w := fun w => by rw [← hv]; exact digit_any c1 hx w
      have hH := Hid.intro hcall
      clear hcall hv
      rw [en, er, ez]
      clear er ez en hc0 hc1
      by_cases hr : c0 = 114
      · have hr' : (c0 == 114) = true := by simp [hr]
        by_cases hlt : c1 ≤ 55
        · have e1 : decide (c0 = 114 ∧ 48 ≤ c1 ∧ c1 ≤ 55) = true := by simp; omega
          have e2 : decide (c0 = 122 ∧ 48 ≤ c1 ∧ c1 ≤ 51) = false := by simp; omega
          rw [e1, e2]
          simp only [Bool.true_or, if_true]
          clear e1 e2 hr
          go_enter Tryz.func128, Tryz.ntmps128
          go_wp2_with (first
            | (go_at_call 151; refine (isDigit_any _ _).mono ?_; rintro e w' ⟨rfl, rfl⟩)
            | (go_at_call 156; refine (hH.out _).mono ?_; rintro e w' ⟨rfl, rfl⟩))
          all_goals first
            | omega
            | (go_ret3; exact ⟨rfl, rfl⟩)
        · have e1 : decide (c0 = 114 ∧ 48 ≤ c1 ∧ c1 ≤ 55) = false := by simp; omega
          have e2 : decide (c0 = 122 ∧ 48 ≤ c1 ∧ c1 ≤ 51) = false := by simp; omega
          rw [e1, e2]
          simp only [Bool.or_self, Bool.false_eq_true, if_false]
          clear e1 e2
          have hz' : (c0 == 122) = false := by simp; omega
          clear hr
          go_enter Tryz.func128, Tryz.ntmps128
          go_wp2_with (first
            | (go_at_call 151; refine (isDigit_any _ _).mono ?_; rintro e w' ⟨rfl, rfl⟩)
            | (go_at_call 156; refine (hH.out _).mono ?_; rintro e w' ⟨rfl, rfl⟩))
          all_goals first
            | omega
            | (go_ret3; exact ⟨rfl, rfl⟩)
      · have hr' : (c0 == 114) = false := by simp [hr]
        by_cases hz : c0 = 122
        · have hz' : (c0 == 122) = true := by simp [hz]
          by_cases hlt : c1 ≤ 51
          · have e1 : decide (c0 = 114 ∧ 48 ≤ c1 ∧ c1 ≤ 55) = false := by simp; omega
            have e2 : decide (c0 = 122 ∧ 48 ≤ c1 ∧ c1 ≤ 51) = true := by simp; omega
            rw [e1, e2]
            simp only [Bool.or_true, if_true]
            clear e1 e2 hr hz
            go_enter Tryz.func128, Tryz.ntmps128
            go_wp2_with (first
              | (go_at_call 151; refine (isDigit_any _ _).mono ?_; rintro e w' ⟨rfl, rfl⟩)
              | (go_at_call 156; refine (hH.out _).mono ?_; rintro e w' ⟨rfl, rfl⟩))
            all_goals first
              | omega
              | (go_ret3; exact ⟨rfl, rfl⟩)
          · have e1 : decide (c0 = 114 ∧ 48 ≤ c1 ∧ c1 ≤ 55) = false := by simp; omega
            have e2 : decide (c0 = 122 ∧ 48 ≤ c1 ∧ c1 ≤ 51) = false := by simp; omega
            rw [e1, e2]
            simp only [Bool.or_self, Bool.false_eq_true, if_false]
            clear e1 e2 hr hz
            go_enter Tryz.func128, Tryz.ntmps128
            go_wp2_with (first
              | (go_at_call 151; refine (isDigit_any _ _).mono ?_; rintro e w' ⟨rfl, rfl⟩)
              | (go_at_call 156; refine (hH.out _).mono ?_; rintro e w' ⟨rfl, rfl⟩))
            all_goals first
              | omega
              | (go_ret3; exact ⟨rfl, rfl⟩)
        · have hz' : (c0 == 122) = false := by simp [hz]
          have e1 : decide (c0 = 114 ∧ 48 ≤ c1 ∧ c1 ≤ 55) = false := by simp; omega
          have e2 : decide (c0 = 122 ∧ 48 ≤ c1 ∧ c1 ≤ 51) = false := by simp; omega
          rw [e1, e2]
          simp only [Bool.or_self, Bool.false_eq_true, if_false]
          clear e1 e2 hr hz
          go_enter Tryz.func128, Tryz.ntmps128
          go_wp2_with (first
            | (go_at_call 151; refine (isDigit_any _ _).mono ?_; rintro e w' ⟨rfl, rfl⟩)
            | (go_at_call 156; refine (hH.out _).mono ?_; rintro e w' ⟨rfl, rfl⟩))
          all_goals first
            | omega
            | (go_ret3; exact ⟨rfl, rfl⟩)
  · have er : isR s = false := by simp [isR, h2]
    have ez : isZ s = false := by simp [isZ, h2]
    rw [reg_none s er ez, er, ez]
    have hn : ((s.size : Int) != 2) = true := by simp; omega
    clear er ez h2
    go_enter Tryz.func128, Tryz.ntmps128
    go_wp2
    go_ret3
    exact ⟨rfl, rfl⟩
end Go.Proofs.YtmndccbeddaphaaGreatDoor

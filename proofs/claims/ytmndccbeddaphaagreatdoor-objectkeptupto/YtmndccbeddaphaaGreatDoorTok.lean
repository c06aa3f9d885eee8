/- lex.Tokens: the tokens of a text. -/
import Derived.Test.YtmndccbeddaphaaGreatDoorEr1
import Derived.Lib.Walk
import Derived.Lib.BufferWrite
import Derived.Lib.UnsafeStr
import Derived.Lib.Hide
import Derived.Laws.MakeOwn
import Derived.Deep.DeepAppendWide
import Derived.Deep.DeepMust
namespace Go.Proofs.YtmndccbeddaphaaGreatDoor
set_option linter.unusedVariables false
set_option maxRecDepth 100000
def lenW (p : Int → Bool) (r : List UInt8) : Nat := (r.takeWhile fun b => p (b.toNat : Int)).length
theorem atI_zero_cons (b : UInt8) (r : List UInt8) : atI (b :: r) 0 = (b.toNat : Int) := rfl
theorem atI_nil (k : Nat) : atI [] k = 0 := by simp [atI]
theorem lenW_stop (p : Int → Bool) (r : List UInt8) (h : p (atI r 0) = false) : lenW p r = 0 := by
  cases r with
  | nil => rfl
  | cons b r => simp [lenW, List.takeWhile, atI_zero_cons] at h ⊢; simp [h]
theorem lenW_more (p : Int → Bool) (hp : p 0 = false) (r : List UInt8) (h : p (atI r 0) = true) : lenW p r = lenW p (r.drop 1) + 1 ∧ 0 < r.length := by
  cases r with
  | nil => rw [atI_nil, hp] at h; cases h
  | cons b r => simp [lenW, List.takeWhile, atI_zero_cons] at h ⊢; simp [h]
theorem lenW_le (p : Int → Bool) (r : List UInt8) : lenW p r ≤ r.length := by
  unfold lenW
  exact (List.takeWhile_sublist _).length_le
theorem lenW_take (p : Int → Bool) (r : List UInt8) : r.takeWhile (fun b => p (b.toNat : Int)) = r.take (lenW p r) := by
  unfold lenW
  induction r with
  | nil => rfl
  | cons b r ih =>
    simp only [List.takeWhile]
    split
    · simp; exact ih
    · simp
theorem take_all (p : Int → Bool) (r : List UInt8) : ∀ b ∈ r.take (lenW p r), p (b.toNat : Int) = true := by
  rw [← lenW_take]
  induction r with
  | nil => intro b hb; simp at hb
  | cons x r ih =>
    intro b hb
    cases hx : p (x.toNat : Int)
    · simp [List.takeWhile, hx] at hb
    · simp only [List.takeWhile, hx, List.mem_cons] at hb
      rcases hb with rfl | hb
      · exact hx
      · exact ih b hb
theorem inW_zero : inW 0 = false := rfl
theorem isDig_zero : isDig 0 = false := rfl
theorem isHex_zero : isHex 0 = false := rfl
def val (base : Int) (n : Int) (ds : List UInt8) : Int := ds.foldl (fun n b => base * n + digI (b.toNat : Int)) n
theorem digI_lo (c : Int) (h : isHex c = true) : 0 ≤ digI c ∧ digI c ≤ 15 := by
  simp [isHex, isDig] at h
  unfold digI
  split <;> omega
theorem digI_dig (c : Int) (h : isDig c = true) : 0 ≤ digI c ∧ digI c ≤ 9 := by
  simp [isDig] at h
  unfold digI
  rw [if_pos h]
  omega
theorem isHex_of_dig (c : Int) (h : isDig c = true) : isHex c = true := by simp [isHex, h]
theorem val_cons (base n : Int) (b : UInt8) (ds : List UInt8) : val base n (b :: ds) = val base (base * n + digI (b.toNat : Int)) ds := rfl
theorem val_nil (base n : Int) : val base n [] = n := rfl
theorem val_ge (n : Int) (ds : List UInt8) (hn : 0 ≤ n) (h : ∀ b ∈ ds, isDig (b.toNat : Int) = true) : n ≤ val 10 n ds := by
  induction ds generalizing n with
  | nil => exact Int.le_refl _
  | cons b ds ih =>
    have hb := digI_dig _ (h b (by simp))
    rw [val_cons]
    have := ih (10 * n + digI (b.toNat : Int)) (by omega) (fun x hx => h x (by simp [hx]))
    omega
theorem take_more (p : Int → Bool) (hp : p 0 = false) (r : List UInt8) (h : p (atI r 0) = true) (base n : Int) :
    val base n (r.take (lenW p r)) = val base (base * n + digI (atI r 0)) ((r.drop 1).take (lenW p (r.drop 1))) := by
  cases r with
  | nil => rw [atI_nil, hp] at h; cases h
  | cons b r =>
    rw [(lenW_more p hp _ h).1]
    simp only [List.drop_one, List.tail_cons, List.take_succ_cons]
    rw [val_cons, atI_zero_cons]
def hexLen (k : Nat) (r : List UInt8) : Nat := min k (lenW isHex r)
theorem hexLen_stop (k : Nat) (r : List UInt8) (h : isHex (atI r 0) = false ∨ k = 0) : hexLen k r = 0 := by
  unfold hexLen
  rcases h with h | h
  · rw [lenW_stop _ _ h]; simp
  · simp [h]
theorem hexLen_more (k : Nat) (r : List UInt8) (h : isHex (atI r 0) = true) : hexLen (k + 1) r = hexLen k (r.drop 1) + 1 := by
  unfold hexLen
  rw [(lenW_more _ isHex_zero _ h).1]
  omega
theorem hexTake_more (k : Nat) (r : List UInt8) (h : isHex (atI r 0) = true) (n : Int) :
    val 16 n (r.take (hexLen (k + 1) r)) = val 16 (16 * n + digI (atI r 0)) ((r.drop 1).take (hexLen k (r.drop 1))) := by
  rw [hexLen_more k r h]
  cases r with
  | nil => rw [atI_nil, isHex_zero] at h; cases h
  | cons b r => simp only [List.drop_one, List.tail_cons, List.take_succ_cons, val_cons, atI_zero_cons]
def numAt (r : List UInt8) : Option (Int × Nat) :=
  if atI r 0 = 39 then (if isQuo (atI r 1) = true ∧ atI r 2 = 39 then some (atI r 1, 3) else none)
  else if atI r 0 = 48 ∧ atI r 1 = 120 then
    (if hexLen 8 (r.drop 2) = 0 ∨ inW (atI r (2 + hexLen 8 (r.drop 2))) = true then none else some (val 16 0 ((r.drop 2).take (hexLen 8 (r.drop 2))), 2 + hexLen 8 (r.drop 2)))
  else if atI r 0 = 48 then (if inW (atI r 1) = true then none else some (0, 1))
  else (if 4294967295 < val 10 0 (r.take (lenW isDig r)) ∨ inW (atI r (lenW isDig r)) = true then none else some (val 10 0 (r.take (lenW isDig r)), lenW isDig r))
def numN (r : List UInt8) : Int := match numAt r with | some (n, _) => n | none => 0
def numL (r : List UInt8) : Nat := match numAt r with | some (_, k) => k | none => 0
theorem hex_step (i : Nat) (n d : Int) (hi : i < 8) (n0 : 0 ≤ n) (n1 : n < 16 ^ i) (d0 : 0 ≤ d) (d1 : d ≤ 15) : 0 ≤ 16 * n + d ∧ 16 * n + d < 16 ^ (i + 1) ∧ 16 * n + d ≤ 4294967295 := by
  have : i = 0 ∨ i = 1 ∨ i = 2 ∨ i = 3 ∨ i = 4 ∨ i = 5 ∨ i = 6 ∨ i = 7 := by omega
  rcases this with rfl | rfl | rfl | rfl | rfl | rfl | rfl | rfl <;> simp at n1 ⊢ <;> omega
theorem hex_small (i : Nat) (n : Int) (hi : i ≤ 8) (n1 : n < 16 ^ i) : n ≤ 4294967295 := by
  have : i = 0 ∨ i = 1 ∨ i = 2 ∨ i = 3 ∨ i = 4 ∨ i = 5 ∨ i = 6 ∨ i = 7 ∨ i = 8 := by omega
  rcases this with rfl | rfl | rfl | rfl | rfl | rfl | rfl | rfl | rfl <;> simp at n1 ⊢ <;> omega
def Res (N T : Int) (at_ : Nat) (bad : Prop) (v : Int) (k : Nat) : Prop := (bad → N = 0 ∧ T = (at_ : Int)) ∧ (¬ bad → N = v ∧ T = (k : Int))
theorem Res.bad {N T : Int} {at_ : Nat} {bad : Prop} {v : Int} {k : Nat} (h : Res N T at_ bad v k) (hb : bad) : N = 0 ∧ T = (at_ : Int) := h.1 hb
theorem Res.good {N T : Int} {at_ : Nat} {bad : Prop} {v : Int} {k : Nat} (h : Res N T at_ bad v k) (hb : ¬ bad) : N = v ∧ T = (k : Int) := h.2 hb
theorem Res.turn {N T : Int} {at_ : Nat} {bad bad' : Prop} {v v' : Int} {k k' : Nat} (h : Res N T at_ bad v k) (hb : bad' ↔ bad) (hv : v' = v) (hk : k' = k) : Res N T at_ bad' v' k' := by
  subst hv hk
  exact ⟨fun x => h.1 (hb.1 x), fun x => h.2 fun y => x (hb.2 y)⟩
structure Tok where
  kind : Int
  text : List UInt8
  num : Int
  place : Nat
def tokAt (r : List UInt8) : Option (Int × Int × Nat) :=
  if isLet (atI r 0) = true then (if lenW inW r ≤ 32 then some (1, 0, lenW inW r) else none)
  else if isDig (atI r 0) = true ∨ atI r 0 = 39 then
    (if numL r = 0 then none else some (2, numN r, numL r))
  else if isSg (atI r 0) = true then some (3, 0, 1)
  else none
def scan (r : List UInt8) (at_ : Nat) : Except Nat (List Tok) :=
  match r with
  | [] => .ok []
  | b :: r' =>
    if (b.toNat : Int) = 59 then .ok []
    else if isBl (b.toNat : Int) = true then scan r' (at_ + 1)
    else match tokAt (b :: r') with
      | none => .error at_
      | some (kind, n, k) =>
        match scan (r'.drop (k - 1)) (at_ + k) with
        | .ok ts => .ok ({ kind := kind, text := (b :: r').take k, num := n, place := at_ } :: ts)
        | .error p => .error p
  termination_by r.length
  decreasing_by all_goals simp; try omega
end Go.Proofs.YtmndccbeddaphaaGreatDoor
namespace Go.Proofs.YtmndccbeddaphaaGreatDoor
open Go.ChangeShapes Go.WideShapes Go.ChangeAt Go.RowKit
set_option linter.unusedVariables false
theorem Tryz.info5 : (Tryz.prog.info? 5).map (fun i => (i.zero, i.size, i.bytes)) = some (some (.int .u8 0), 1, 1) := by kernel_rfl
set_option maxHeartbeats 4000000 in
set_option maxRecDepth 100000 in
theorem liteClone_any (s : ByteArray) (w : World) (hlim : s.size ≤ 281474976710656) :
    Calls Tryz.prog 181 #[.string s] w fun e w' => e = .returned (.string s) ∧ Below w.heap.size w w' := by
  by_cases h0 : s.size = 0
  · have hs : s = ⟨#[]⟩ := by
      apply ByteArray.ext
      exact Array.eq_empty_of_size_eq_zero h0
    subst hs
    go_enter Tryz.func181, Tryz.ntmps181
    go_wp2
    go_ret
    exact ⟨rfl, Below.refl _ _⟩
  · obtain ⟨i0, hi, hz0, hz1, hz2⟩ := info_parts Tryz.info5
    have hinfo : (Tryz.prog.info? 5).map (·.size) = some 1 := by rw [hi]; simp [hz1]
    have hco : Tryz.prog.cellsOf 5 = 1 := by simp [Program.cellsOf, hi, hz1]
    obtain ⟨M, hM⟩ : ∃ M, M = madeCells (Value.int .u8 0).cells (((s.size : Nat) : Int).toNat * i0.size) := ⟨_, rfl⟩
    have hMs : M.size = s.size := by rw [hM, size_madeCells, hz1]; simp
    have hmk : ∀ W : World, (Instr.makeSlice 22 (.int .i64 (s.size : Int)) (.int .i64 (s.size : Int))).run Tryz.prog W = .ok (.slice (some ⟨W.heap.size, 0, none⟩) s.size s.size) (W.alloc (.cells M 5)) := fun W => by
      have h := run_make (P := Tryz.prog) W 22 5 i0 (.int .u8 0) Tryz.underlying22 hi hz0 .i64 .i64 (s.size : Int) (s.size : Int) (by omega) (by omega) (by rw [hz2]; omega) (by omega)
      rw [← hM] at h
      simpa using h
    clear hM
    have hcp := Lib.run_copy_row_string (P := Tryz.prog) (w.alloc (.cells M 5)) 22 9 3 5 w.heap.size 0 s.size s.size s M 5 Tryz.underlying22 hinfo (heap_alloc_new w _) (Nat.le_refl _) (by omega)
    obtain ⟨Y, hY⟩ : ∃ Y, Y = (M.toList.take 0 ++ Lib.byteCells s.data.toList ++ M.toList.drop (0 + s.size)).toArray := ⟨_, rfl⟩
    rw [← hY] at hcp
    have hYl : Y.toList = Lib.byteCells s.data.toList := by
      rw [hY, List.toList_toArray, List.take_zero, List.nil_append, List.drop_of_length_le (by rw [Array.length_toList]; omega), List.append_nil]
    have hYs : Y.size = s.size := by rw [← Array.length_toList, hYl, Lib.byteCells_length, ← Lib.size_eq]
    have hgY : ((w.alloc (.cells M 5)).setRow w.heap.size Y).heap[w.heap.size]? = some (.cells Y 5 (0, 0)) := setRow_heap _ _ M _ 5 (0, 0) (heap_alloc_new w _)
    have hne : s.data.toList ≠ [] := fun e => h0 (by rw [Lib.size_eq, e]; rfl)
    have hUS := Lib.run_unsafeString_row (P := Tryz.prog) ((w.alloc (.cells M 5)).setRow w.heap.size Y) 245 3 9 5 Tryz.underlying245 hco w.heap.size Y.size (by unfold World.shape?; rw [hgY]) s.data.toList hne (by rw [← Lib.size_eq]; omega) (by rw [← Lib.size_eq]; omega)
      (fun j x hx => Lib.cells_of_row hgY Y.size j _ (by rw [List.take_of_length_le (by rw [Array.length_toList]; exact Nat.le_refl _), hYl]; simp [Lib.byteCells, hx]))
    rw [← Lib.size_eq] at hUS
    clear hY
    go_enter Tryz.func181, Tryz.ntmps181
    go_wp2
    go_ret
    have hb1 : Below w.heap.size w (w.alloc (.cells M 5)) := (Below.refl _ w).alloc (Nat.le_refl _) _
    have hb2 : Below w.heap.size (w.alloc (.cells M 5)) ((w.alloc (.cells M 5)).setRow w.heap.size Y) := ⟨rfl, rfl, rfl, by simp, fun k hk => setRow_other _ _ _ _ (by omega)⟩
    exact ⟨rfl, Lib.below_freeze (hb1.trans hb2) (p := ⟨w.heap.size, 0, none⟩) (Nat.le_refl _) _⟩
theorem clone_any (s : ByteArray) (w : World) (hlim : s.size ≤ 281474976710656) :
    Calls Tryz.prog 155 #[.string s] w fun e w' => e = .returned (.string s) ∧ Below w.heap.size w w' := by
  go_enter Tryz.func155, Tryz.ntmps155
  go_wp2_with (go_at_call 181; refine (liteClone_any _ _ hlim).mono ?_; rintro e w' ⟨rfl, hb⟩)
  go_ret
  exact ⟨rfl, hb⟩
end Go.Proofs.YtmndccbeddaphaaGreatDoor
namespace Go.Proofs.YtmndccbeddaphaaGreatDoor
open Go.ChangeShapes Go.WideShapes Go.ChangeAt Go.RowKit
set_option linter.unusedVariables false
set_option maxRecDepth 100000
theorem Hid.intro {p : Prop} (h : p) : Hid p := h
def Q28 (N T : Int) (w : World) : Exit → Act → World → Prop := bodyPost Tryz.prog Tryz.f154 fun e w' => e = .returned (.tuple #[.int .u32 N, .int .i64 T]) ∧ w' = w
theorem byteAt_int (s : ByteArray) (z : Int) (h0 : 0 ≤ z) (hk : z ≤ 4611686018427387904) (hs : s.size ≤ 4611686018427387904) (w : World) :
    Calls Tryz.prog 148 #[.string s, .int .i64 z] w fun e w' => e = .returned (.int .u8 (atI (bs s) z.toNat)) ∧ w' = w := by
  obtain ⟨k, rfl⟩ := Int.eq_ofNat_of_zero_le h0
  exact byteAt_any s k (by omega) hs w
theorem none_lands (s : ByteArray) (at_ : Nat) (N T : Int) (w : World) (hN : N = 0) (hT : T = at_) {u2 u3 u4 u5 u6 u7 u8 u9 u10 u11 u12 u13 u14 u15 u16 u17 u18 u19 u20 u21 u22 u23 u24 u25 u26 u27 u28 u29 u30 u31 u32 u33 u34 u35 u36 u37 u38 u39 u40 u41 u42 u43 u44 u45 u46 u47 u48 u49 u50 u51 u52 u53 u54 u55 u56 u57 u58 u59 u60 u61 u62 u63 u64 u65 u66 u67 u68 u69 u70 u71 u72 u73 u74 u75 u76 u77 u78 u79 u80 u81 u82 u83 u84 u85 u86 u87 u88 u89 u90 u91 u92 u93 u94 u95 u96 u97 u98 u99 : Value} :
    Lands Tryz.prog (scopeOf Tryz.f154) (Q28 N T w) 3 { tmps := List.toArray (.string s :: .int .i64 (at_ : Int) :: u2 :: u3 :: u4 :: u5 :: u6 :: u7 :: u8 :: u9 :: u10 :: u11 :: u12 :: u13 :: u14 :: u15 :: u16 :: u17 :: u18 :: u19 :: u20 :: u21 :: u22 :: u23 :: u24 :: u25 :: u26 :: u27 :: u28 :: u29 :: u30 :: u31 :: u32 :: u33 :: u34 :: u35 :: u36 :: u37 :: u38 :: u39 :: u40 :: u41 :: u42 :: u43 :: u44 :: u45 :: u46 :: u47 :: u48 :: u49 :: u50 :: u51 :: u52 :: u53 :: u54 :: u55 :: u56 :: u57 :: u58 :: u59 :: u60 :: u61 :: u62 :: u63 :: u64 :: u65 :: u66 :: u67 :: u68 :: u69 :: u70 :: u71 :: u72 :: u73 :: u74 :: u75 :: u76 :: u77 :: u78 :: u79 :: u80 :: u81 :: u82 :: u83 :: u84 :: u85 :: u86 :: u87 :: u88 :: u89 :: u90 :: u91 :: u92 :: u93 :: u94 :: u95 :: u96 :: u97 :: u98 :: u99 :: []), defers := [] } w := by
  subst hN hT
  refine Lands.of rfl ?_
  go_wp2
  rw [jumps_ret]
  unfold Q28
  go_ret2
  exact ⟨rfl, rfl⟩
theorem behind_lands (s : ByteArray) (at_ k : Nat) (n to_ N T : Int) (w : World) (hk : to_ = k) (ht : to_ ≤ 4611686018427387904) (hs : s.size ≤ 4611686018427387904) (n0 : 0 ≤ n) (n1 : n ≤ 4294967295)
    (hR : Res N T at_ (inW (atI (bs s) k) = true) n k) {u2 u3 u4 u5 u8 u9 u10 u11 u12 u13 u14 u15 u16 u17 u18 u19 u20 u21 u22 u23 u24 u25 u26 u27 u28 u29 u30 u31 u32 u33 u34 u35 u36 u37 u38 u39 u40 u41 u42 u43 u44 u45 u46 u47 u48 u49 u50 u51 u52 u53 u54 u55 u56 u57 u58 u59 u60 u61 u62 u63 u64 u65 u66 u67 u68 u69 u70 u71 u72 u73 u74 u75 u76 u77 u78 u79 u80 u81 u82 u83 u84 u85 u86 u87 u88 u89 u90 u91 u92 u93 u94 u95 u96 u97 u98 u99 : Value} :
    Lands Tryz.prog (scopeOf Tryz.f154) (Q28 N T w) 2 { tmps := List.toArray (.string s :: .int .i64 (at_ : Int) :: u2 :: u3 :: u4 :: u5 :: .int .u64 n :: .int .i64 to_ :: u8 :: u9 :: u10 :: u11 :: u12 :: u13 :: u14 :: u15 :: u16 :: u17 :: u18 :: u19 :: u20 :: u21 :: u22 :: u23 :: u24 :: u25 :: u26 :: u27 :: u28 :: u29 :: u30 :: u31 :: u32 :: u33 :: u34 :: u35 :: u36 :: u37 :: u38 :: u39 :: u40 :: u41 :: u42 :: u43 :: u44 :: u45 :: u46 :: u47 :: u48 :: u49 :: u50 :: u51 :: u52 :: u53 :: u54 :: u55 :: u56 :: u57 :: u58 :: u59 :: u60 :: u61 :: u62 :: u63 :: u64 :: u65 :: u66 :: u67 :: u68 :: u69 :: u70 :: u71 :: u72 :: u73 :: u74 :: u75 :: u76 :: u77 :: u78 :: u79 :: u80 :: u81 :: u82 :: u83 :: u84 :: u85 :: u86 :: u87 :: u88 :: u89 :: u90 :: u91 :: u92 :: u93 :: u94 :: u95 :: u96 :: u97 :: u98 :: u99 :: []), defers := [] } w := by
  have htn : to_.toNat = k := by omega
  have ht0 : 0 ≤ to_ := by omega
  rw [← htn] at hR
  cases hin : inW (atI (bs s) to_.toNat)
  · obtain ⟨hN, hT0⟩ := hR.good (by rw [hin]; simp)
    have hT : T = to_ := by omega
    clear hR htn hk hT0
    subst hN hT
    refine Lands.of rfl ?_
    go_wp2_with (first
      | (go_at_call 148; refine (byteAt_int _ _ (by omega) (by omega) (by assumption) _).mono ?_; rintro e w' ⟨rfl, rfl⟩)
      | (go_at_call 153; refine (inWord_any _ _).mono ?_; rintro e w' ⟨rfl, rfl⟩)
      | (go_at_call 151; refine (isDigit_any _ _).mono ?_; rintro e w' ⟨rfl, rfl⟩)
      | (go_at_call 179; refine (isHexDigit_any _ _).mono ?_; rintro e w' ⟨rfl, rfl⟩)
      | (go_at_call 180; refine (isQuotable_any _ _).mono ?_; rintro e w' ⟨rfl, rfl⟩)
      | (go_at_call 156; refine (digit_any _ (by assumption) _).mono ?_; rintro e w' ⟨rfl, rfl⟩))
    rw [jumps_ret]
    unfold Q28
    go_ret2
    exact ⟨rfl, rfl⟩
  · obtain ⟨hN, hT⟩ := hR.bad hin
    clear hR htn hk
    refine Lands.of rfl ?_
    go_wp2_with (first
      | (go_at_call 148; refine (byteAt_int _ _ (by omega) (by omega) (by assumption) _).mono ?_; rintro e w' ⟨rfl, rfl⟩)
      | (go_at_call 153; refine (inWord_any _ _).mono ?_; rintro e w' ⟨rfl, rfl⟩)
      | (go_at_call 151; refine (isDigit_any _ _).mono ?_; rintro e w' ⟨rfl, rfl⟩)
      | (go_at_call 179; refine (isHexDigit_any _ _).mono ?_; rintro e w' ⟨rfl, rfl⟩)
      | (go_at_call 180; refine (isQuotable_any _ _).mono ?_; rintro e w' ⟨rfl, rfl⟩)
      | (go_at_call 156; refine (digit_any _ (by assumption) _).mono ?_; rintro e w' ⟨rfl, rfl⟩))
    go_step3
    exact none_lands s at_ _ _ _ hN hT
theorem dec_lands (s : ByteArray) (at_ : Nat) (N T : Int) (w : World) (hs : s.size ≤ 4611686018427387800) :
    ∀ (m k : Nat) (to_ n : Int), to_ = k → k ≤ s.size → lenW isDig ((bs s).drop k) = m → 0 ≤ n → n ≤ 4294967295 →
    Res N T at_ (4294967295 < val 10 n (((bs s).drop k).take m) ∨ inW (atI (bs s) (k + m)) = true) (val 10 n (((bs s).drop k).take m)) (k + m) →
    ∀ {u2 u3 u4 u5 u8 u9 u10 u11 u12 u13 u14 u15 u16 u17 u18 u19 u20 u21 u22 u23 u24 u25 u26 u27 u28 u29 u30 u31 u32 u33 u34 u35 u36 u37 u38 u39 u40 u41 u42 u43 u44 u45 u46 u47 u48 u49 u50 u51 u52 u53 u54 u55 u56 u57 u58 u59 u60 u61 u62 u63 u64 u65 u66 u67 u68 u69 u70 u71 u72 u73 u74 u75 u76 u77 u78 u79 u80 u81 u82 u83 u84 u85 u86 u87 u88 u89 u90 u91 u92 u93 u94 u95 u96 u97 u98 u99 : Value}, Lands Tryz.prog (scopeOf Tryz.f154) (Q28 N T w) 4 { tmps := List.toArray (.string s :: .int .i64 (at_ : Int) :: u2 :: u3 :: u4 :: u5 :: .int .u64 n :: .int .i64 to_ :: u8 :: u9 :: u10 :: u11 :: u12 :: u13 :: u14 :: u15 :: u16 :: u17 :: u18 :: u19 :: u20 :: u21 :: u22 :: u23 :: u24 :: u25 :: u26 :: u27 :: u28 :: u29 :: u30 :: u31 :: u32 :: u33 :: u34 :: u35 :: u36 :: u37 :: u38 :: u39 :: u40 :: u41 :: u42 :: u43 :: u44 :: u45 :: u46 :: u47 :: u48 :: u49 :: u50 :: u51 :: u52 :: u53 :: u54 :: u55 :: u56 :: u57 :: u58 :: u59 :: u60 :: u61 :: u62 :: u63 :: u64 :: u65 :: u66 :: u67 :: u68 :: u69 :: u70 :: u71 :: u72 :: u73 :: u74 :: u75 :: u76 :: u77 :: u78 :: u79 :: u80 :: u81 :: u82 :: u83 :: u84 :: u85 :: u86 :: u87 :: u88 :: u89 :: u90 :: u91 :: u92 :: u93 :: u94 :: u95 :: u96 :: u97 :: u98 :: u99 :: []), defers := [] } w := by
  intro m
  induction m with
  | zero =>
    intro k to_ n hk hks hm n0 n1 hR
    intros
    have ht : to_.toNat = k := by omega
    have hd : isDig (atI (bs s) to_.toNat) = false := by
      cases h : isDig (atI (bs s) to_.toNat)
      · rfl
      · rw [ht] at h
        have := (lenW_more isDig isDig_zero ((bs s).drop k) (by rw [atI_drop]; exact h)).1
        omega
    have hs2 : s.size ≤ 4611686018427387904 := by omega
    rw [List.take_zero, val_nil, Nat.add_zero] at hR
    have hR2 := Hid.intro (hR.turn (bad' := inW (atI (bs s) k) = true) ⟨fun h => Or.inr h, fun h => h.resolve_left (by omega)⟩ rfl rfl)
    have h0 : 0 ≤ to_ := by omega
    have h1 : to_ ≤ 4611686018427387850 := by omega
    have hH := Hid.intro hk
    clear hR hm ht hk
    refine Lands.of rfl ?_
    go_wp2_with (first
      | (go_at_call 148; refine (byteAt_int _ _ (by omega) (by omega) (by assumption) _).mono ?_; rintro e w' ⟨rfl, rfl⟩)
      | (go_at_call 153; refine (inWord_any _ _).mono ?_; rintro e w' ⟨rfl, rfl⟩)
      | (go_at_call 151; refine (isDigit_any _ _).mono ?_; rintro e w' ⟨rfl, rfl⟩)
      | (go_at_call 179; refine (isHexDigit_any _ _).mono ?_; rintro e w' ⟨rfl, rfl⟩)
      | (go_at_call 180; refine (isQuotable_any _ _).mono ?_; rintro e w' ⟨rfl, rfl⟩)
      | (go_at_call 156; refine (digit_any _ (by assumption) _).mono ?_; rintro e w' ⟨rfl, rfl⟩))
    go_step3
    exact behind_lands s at_ k n to_ N T _ hH.out (by omega) hs2 n0 n1 hR2.out
  | succ m ih =>
    intro k to_ n hk hks hm n0 n1 hR
    intros
    have ht : to_.toNat = k := by omega
    have hd : isDig (atI (bs s) to_.toNat) = true := by
      cases h : isDig (atI (bs s) to_.toNat)
      · rw [ht] at h
        have := lenW_stop isDig ((bs s).drop k) (by rw [atI_drop]; exact h)
        omega
      · rfl
    have hx := isHex_of_dig _ hd
    obtain ⟨d0, d1⟩ := digI_dig _ hd
    have hhead : isDig (atI ((bs s).drop k) 0) = true := by rw [atI_drop]; rw [ht] at hd; exact hd
    obtain ⟨hl1, hl2⟩ := lenW_more isDig isDig_zero ((bs s).drop k) hhead
    rw [List.drop_drop] at hl1
    rw [List.length_drop, bs_length] at hl2
    have hm' : lenW isDig ((bs s).drop (k + 1)) = m := by omega
    have hv := take_more isDig isDig_zero ((bs s).drop k) hhead 10 n
    rw [hm, List.drop_drop, hm', atI_drop] at hv
    simp only [Nat.add_zero] at hv
    rw [hv, show k + (m + 1) = k + 1 + m by omega] at hR
    have hs2 : s.size ≤ 4611686018427387904 := by omega
    have h0 : 0 ≤ to_ := by omega
    have h1 : to_ ≤ 4611686018427387850 := by omega
    have hge := val_ge (10 * n + digI (atI (bs s) k)) (((bs s).drop (k + 1)).take m) (by rw [ht] at d0; omega) (by rw [← hm']; exact take_all _ _)
    obtain ⟨c, hc⟩ : ∃ c, c = atI (bs s) k := ⟨_, rfl⟩
    rw [ht, ← hc] at hd hx d0 d1
    rw [← hc] at hR hge
    have hH := Hid.intro hk
    have hH2 := Hid.intro hR
    have hH3 := Hid.intro hge
    have hc' : atI (bs s) to_.toNat = c := by rw [ht, hc]
    clear hR hm ht hk hge hl1 hhead hv hc
    refine Lands.of rfl ?_
    go_wp2_with (first
      | (go_at_call 148; refine (byteAt_int _ _ (by omega) (by omega) (by assumption) _).mono ?_; rintro e w' ⟨rfl, rfl⟩)
      | (go_at_call 153; refine (inWord_any _ _).mono ?_; rintro e w' ⟨rfl, rfl⟩)
      | (go_at_call 151; refine (isDigit_any _ _).mono ?_; rintro e w' ⟨rfl, rfl⟩)
      | (go_at_call 179; refine (isHexDigit_any _ _).mono ?_; rintro e w' ⟨rfl, rfl⟩)
      | (go_at_call 180; refine (isQuotable_any _ _).mono ?_; rintro e w' ⟨rfl, rfl⟩)
      | (go_at_call 156; refine (digit_any _ (by assumption) _).mono ?_; rintro e w' ⟨rfl, rfl⟩))
    · go_step3
      have hge := hH3.out
      obtain ⟨hN, hT⟩ := hH2.out.bad (Or.inl (by omega))
      exact none_lands s at_ _ _ _ hN hT
    · go_step3
      have hk := hH.out
      exact ih (k + 1) _ _ (by omega) (by omega) hm' (by omega) (by omega) hH2.out
end Go.Proofs.YtmndccbeddaphaaGreatDoor
namespace Go.Proofs.YtmndccbeddaphaaGreatDoor
open Go.ChangeShapes Go.WideShapes Go.ChangeAt Go.RowKit
set_option linter.unusedVariables false
set_option maxRecDepth 100000
theorem hex_lands (s : ByteArray) (at_ : Nat) (N T : Int) (w : World) (hs : s.size ≤ 4611686018427387800) (ha : at_ ≤ s.size) :
    ∀ (j i : Nat) (to_ n : Int), i + j = 8 → to_ = ((at_ + 2 + i : Nat) : Int) → 0 ≤ n → n < 16 ^ i →
    Res N T at_ (i + hexLen j ((bs s).drop (at_ + 2 + i)) = 0 ∨ inW (atI (bs s) (at_ + 2 + i + hexLen j ((bs s).drop (at_ + 2 + i)))) = true)
      (val 16 n (((bs s).drop (at_ + 2 + i)).take (hexLen j ((bs s).drop (at_ + 2 + i))))) (at_ + 2 + i + hexLen j ((bs s).drop (at_ + 2 + i))) →
    ∀ {u2 u3 u4 u5 u8 u9 u10 u11 u12 u13 u14 u15 u16 u17 u18 u19 u20 u21 u22 u23 u24 u25 u26 u27 u28 u29 u30 u31 u32 u33 u34 u35 u36 u37 u38 u39 u40 u41 u42 u43 u44 u45 u46 u47 u48 u49 u50 u51 u52 u53 u54 u55 u56 u57 u58 u59 u60 u61 u62 u63 u64 u65 u66 u67 u68 u69 u70 u71 u72 u73 u74 u75 u76 u77 u78 u79 u80 u81 u82 u83 u84 u85 u86 u87 u88 u89 u90 u91 u92 u93 u94 u95 u96 u97 u98 u99 : Value}, Lands Tryz.prog (scopeOf Tryz.f154) (Q28 N T w) 1 { tmps := List.toArray (.string s :: .int .i64 (at_ : Int) :: u2 :: u3 :: u4 :: u5 :: .int .u64 n :: .int .i64 to_ :: u8 :: u9 :: u10 :: u11 :: u12 :: u13 :: u14 :: u15 :: u16 :: u17 :: u18 :: u19 :: u20 :: u21 :: u22 :: u23 :: u24 :: u25 :: u26 :: u27 :: u28 :: u29 :: u30 :: u31 :: u32 :: u33 :: u34 :: u35 :: u36 :: u37 :: u38 :: u39 :: u40 :: u41 :: u42 :: u43 :: u44 :: u45 :: u46 :: u47 :: u48 :: u49 :: u50 :: u51 :: u52 :: u53 :: u54 :: u55 :: u56 :: u57 :: u58 :: u59 :: u60 :: u61 :: u62 :: u63 :: u64 :: u65 :: u66 :: u67 :: u68 :: u69 :: u70 :: u71 :: u72 :: u73 :: u74 :: u75 :: u76 :: u77 :: u78 :: u79 :: u80 :: u81 :: u82 :: u83 :: u84 :: u85 :: u86 :: u87 :: u88 :: u89 :: u90 :: u91 :: u92 :: u93 :: u94 :: u95 :: u96 :: u97 :: u98 :: u99 :: []), defers := [] } w := by
  intro j
  induction j with
  | zero =>
    intro i to_ n hi hk n0 n1 hR
    intros
    have htn : to_.toNat = at_ + 2 + i := by omega
    have hs2 : s.size ≤ 4611686018427387904 := by omega
    have h0 : 0 ≤ to_ := by omega
    have h1 : to_ ≤ 4611686018427387850 := by omega
    have hn2 := hex_small i n (by omega) n1
    have e0 : hexLen 0 ((bs s).drop (at_ + 2 + i)) = 0 := hexLen_stop _ _ (Or.inr rfl)
    rw [e0, List.take_zero, val_nil, Nat.add_zero, Nat.add_zero, ← htn] at hR
    have hlt : decide (to_ - (at_ : Int) < 10) = false := by simp; omega
    clear n1 e0
    cases hx : isHex (atI (bs s) to_.toNat)
    all_goals
      by_cases hi0 : i = 0
      · have he : (to_ - (at_ : Int) == 2) = true := by simp; omega
        obtain ⟨hN, hT⟩ := hR.bad (Or.inl hi0)
        clear hR hk htn
        refine Lands.of rfl ?_
        go_wp2_with (first
          | (go_at_call 148; refine (byteAt_int _ _ (by omega) (by omega) (by assumption) _).mono ?_; rintro e w' ⟨rfl, rfl⟩)
          | (go_at_call 153; refine (inWord_any _ _).mono ?_; rintro e w' ⟨rfl, rfl⟩)
          | (go_at_call 151; refine (isDigit_any _ _).mono ?_; rintro e w' ⟨rfl, rfl⟩)
          | (go_at_call 179; refine (isHexDigit_any _ _).mono ?_; rintro e w' ⟨rfl, rfl⟩)
          | (go_at_call 180; refine (isQuotable_any _ _).mono ?_; rintro e w' ⟨rfl, rfl⟩)
          | (go_at_call 156; refine (digit_any _ (by assumption) _).mono ?_; rintro e w' ⟨rfl, rfl⟩))
        go_step3
        exact none_lands s at_ _ _ _ hN hT
      · have he : (to_ - (at_ : Int) == 2) = false := by simp; omega
        have hR2 := hR.turn (bad' := inW (atI (bs s) to_.toNat) = true) ⟨fun h => Or.inr h, fun h => h.resolve_left hi0⟩ rfl rfl
        cases hin : inW (atI (bs s) to_.toNat)
        · obtain ⟨hN, hT0⟩ := hR2.good (by rw [hin]; simp)
          have hT : T = to_ := by omega
          clear hR hR2 hk htn hT0
          subst hN hT
          refine Lands.of rfl ?_
          go_wp2_with (first
          | (go_at_call 148; refine (byteAt_int _ _ (by omega) (by omega) (by assumption) _).mono ?_; rintro e w' ⟨rfl, rfl⟩)
          | (go_at_call 153; refine (inWord_any _ _).mono ?_; rintro e w' ⟨rfl, rfl⟩)
          | (go_at_call 151; refine (isDigit_any _ _).mono ?_; rintro e w' ⟨rfl, rfl⟩)
          | (go_at_call 179; refine (isHexDigit_any _ _).mono ?_; rintro e w' ⟨rfl, rfl⟩)
          | (go_at_call 180; refine (isQuotable_any _ _).mono ?_; rintro e w' ⟨rfl, rfl⟩)
          | (go_at_call 156; refine (digit_any _ (by assumption) _).mono ?_; rintro e w' ⟨rfl, rfl⟩))
          go_step3
          go_wp2_with (first
          | (go_at_call 148; refine (byteAt_int _ _ (by omega) (by omega) (by assumption) _).mono ?_; rintro e w' ⟨rfl, rfl⟩)
          | (go_at_call 153; refine (inWord_any _ _).mono ?_; rintro e w' ⟨rfl, rfl⟩)
          | (go_at_call 151; refine (isDigit_any _ _).mono ?_; rintro e w' ⟨rfl, rfl⟩)
          | (go_at_call 179; refine (isHexDigit_any _ _).mono ?_; rintro e w' ⟨rfl, rfl⟩)
          | (go_at_call 180; refine (isQuotable_any _ _).mono ?_; rintro e w' ⟨rfl, rfl⟩)
          | (go_at_call 156; refine (digit_any _ (by assumption) _).mono ?_; rintro e w' ⟨rfl, rfl⟩))
          rw [jumps_ret]
          unfold Q28
          go_ret2
          exact ⟨rfl, rfl⟩
        · obtain ⟨hN, hT⟩ := hR2.bad hin
          clear hR hR2 hk htn
          refine Lands.of rfl ?_
          go_wp2_with (first
          | (go_at_call 148; refine (byteAt_int _ _ (by omega) (by omega) (by assumption) _).mono ?_; rintro e w' ⟨rfl, rfl⟩)
          | (go_at_call 153; refine (inWord_any _ _).mono ?_; rintro e w' ⟨rfl, rfl⟩)
          | (go_at_call 151; refine (isDigit_any _ _).mono ?_; rintro e w' ⟨rfl, rfl⟩)
          | (go_at_call 179; refine (isHexDigit_any _ _).mono ?_; rintro e w' ⟨rfl, rfl⟩)
          | (go_at_call 180; refine (isQuotable_any _ _).mono ?_; rintro e w' ⟨rfl, rfl⟩)
          | (go_at_call 156; refine (digit_any _ (by assumption) _).mono ?_; rintro e w' ⟨rfl, rfl⟩))
          go_step3
          go_wp2_with (first
          | (go_at_call 148; refine (byteAt_int _ _ (by omega) (by omega) (by assumption) _).mono ?_; rintro e w' ⟨rfl, rfl⟩)
          | (go_at_call 153; refine (inWord_any _ _).mono ?_; rintro e w' ⟨rfl, rfl⟩)
          | (go_at_call 151; refine (isDigit_any _ _).mono ?_; rintro e w' ⟨rfl, rfl⟩)
          | (go_at_call 179; refine (isHexDigit_any _ _).mono ?_; rintro e w' ⟨rfl, rfl⟩)
          | (go_at_call 180; refine (isQuotable_any _ _).mono ?_; rintro e w' ⟨rfl, rfl⟩)
          | (go_at_call 156; refine (digit_any _ (by assumption) _).mono ?_; rintro e w' ⟨rfl, rfl⟩))
          go_step3
          exact none_lands s at_ _ _ _ hN hT
  | succ j ih =>
    intro i to_ n hi hk n0 n1 hR
    intros
    have htn : to_.toNat = at_ + 2 + i := by omega
    have hs2 : s.size ≤ 4611686018427387904 := by omega
    have h0 : 0 ≤ to_ := by omega
    have h1 : to_ ≤ 4611686018427387850 := by omega
    have hlt : decide (to_ - (at_ : Int) < 10) = true := by simp; omega
    cases hx : isHex (atI (bs s) to_.toNat)
    · have hn2 := hex_small i n (by omega) n1
      have e0 : hexLen (j + 1) ((bs s).drop (at_ + 2 + i)) = 0 := hexLen_stop _ _ (Or.inl (by rw [atI_drop, Nat.add_zero, ← htn]; exact hx))
      rw [e0, List.take_zero, val_nil, Nat.add_zero, Nat.add_zero, ← htn] at hR
      clear n1 e0 ih
      by_cases hi0 : i = 0
      · have he : (to_ - (at_ : Int) == 2) = true := by simp; omega
        obtain ⟨hN, hT⟩ := hR.bad (Or.inl hi0)
        clear hR hk htn
        refine Lands.of rfl ?_
        go_wp2_with (first
          | (go_at_call 148; refine (byteAt_int _ _ (by omega) (by omega) (by assumption) _).mono ?_; rintro e w' ⟨rfl, rfl⟩)
          | (go_at_call 153; refine (inWord_any _ _).mono ?_; rintro e w' ⟨rfl, rfl⟩)
          | (go_at_call 151; refine (isDigit_any _ _).mono ?_; rintro e w' ⟨rfl, rfl⟩)
          | (go_at_call 179; refine (isHexDigit_any _ _).mono ?_; rintro e w' ⟨rfl, rfl⟩)
          | (go_at_call 180; refine (isQuotable_any _ _).mono ?_; rintro e w' ⟨rfl, rfl⟩)
          | (go_at_call 156; refine (digit_any _ (by assumption) _).mono ?_; rintro e w' ⟨rfl, rfl⟩))
        go_step3
        exact none_lands s at_ _ _ _ hN hT
      · have he : (to_ - (at_ : Int) == 2) = false := by simp; omega
        have hR2 := hR.turn (bad' := inW (atI (bs s) to_.toNat) = true) ⟨fun h => Or.inr h, fun h => h.resolve_left hi0⟩ rfl rfl
        cases hin : inW (atI (bs s) to_.toNat)
        · obtain ⟨hN, hT0⟩ := hR2.good (by rw [hin]; simp)
          have hT : T = to_ := by omega
          clear hR hR2 hk htn hT0
          subst hN hT
          refine Lands.of rfl ?_
          go_wp2_with (first
          | (go_at_call 148; refine (byteAt_int _ _ (by omega) (by omega) (by assumption) _).mono ?_; rintro e w' ⟨rfl, rfl⟩)
          | (go_at_call 153; refine (inWord_any _ _).mono ?_; rintro e w' ⟨rfl, rfl⟩)
          | (go_at_call 151; refine (isDigit_any _ _).mono ?_; rintro e w' ⟨rfl, rfl⟩)
          | (go_at_call 179; refine (isHexDigit_any _ _).mono ?_; rintro e w' ⟨rfl, rfl⟩)
          | (go_at_call 180; refine (isQuotable_any _ _).mono ?_; rintro e w' ⟨rfl, rfl⟩)
          | (go_at_call 156; refine (digit_any _ (by assumption) _).mono ?_; rintro e w' ⟨rfl, rfl⟩))
          go_step3
          go_wp2_with (first
          | (go_at_call 148; refine (byteAt_int _ _ (by omega) (by omega) (by assumption) _).mono ?_; rintro e w' ⟨rfl, rfl⟩)
          | (go_at_call 153; refine (inWord_any _ _).mono ?_; rintro e w' ⟨rfl, rfl⟩)
          | (go_at_call 151; refine (isDigit_any _ _).mono ?_; rintro e w' ⟨rfl, rfl⟩)
          | (go_at_call 179; refine (isHexDigit_any _ _).mono ?_; rintro e w' ⟨rfl, rfl⟩)
          | (go_at_call 180; refine (isQuotable_any _ _).mono ?_; rintro e w' ⟨rfl, rfl⟩)
          | (go_at_call 156; refine (digit_any _ (by assumption) _).mono ?_; rintro e w' ⟨rfl, rfl⟩))
          rw [jumps_ret]
          unfold Q28
          go_ret2
          exact ⟨rfl, rfl⟩
        · obtain ⟨hN, hT⟩ := hR2.bad hin
          clear hR hR2 hk htn
          refine Lands.of rfl ?_
          go_wp2_with (first
          | (go_at_call 148; refine (byteAt_int _ _ (by omega) (by omega) (by assumption) _).mono ?_; rintro e w' ⟨rfl, rfl⟩)
          | (go_at_call 153; refine (inWord_any _ _).mono ?_; rintro e w' ⟨rfl, rfl⟩)
          | (go_at_call 151; refine (isDigit_any _ _).mono ?_; rintro e w' ⟨rfl, rfl⟩)
          | (go_at_call 179; refine (isHexDigit_any _ _).mono ?_; rintro e w' ⟨rfl, rfl⟩)
          | (go_at_call 180; refine (isQuotable_any _ _).mono ?_; rintro e w' ⟨rfl, rfl⟩)
          | (go_at_call 156; refine (digit_any _ (by assumption) _).mono ?_; rintro e w' ⟨rfl, rfl⟩))
          go_step3
          go_wp2_with (first
          | (go_at_call 148; refine (byteAt_int _ _ (by omega) (by omega) (by assumption) _).mono ?_; rintro e w' ⟨rfl, rfl⟩)
          | (go_at_call 153; refine (inWord_any _ _).mono ?_; rintro e w' ⟨rfl, rfl⟩)
          | (go_at_call 151; refine (isDigit_any _ _).mono ?_; rintro e w' ⟨rfl, rfl⟩)
          | (go_at_call 179; refine (isHexDigit_any _ _).mono ?_; rintro e w' ⟨rfl, rfl⟩)
          | (go_at_call 180; refine (isQuotable_any _ _).mono ?_; rintro e w' ⟨rfl, rfl⟩)
          | (go_at_call 156; refine (digit_any _ (by assumption) _).mono ?_; rintro e w' ⟨rfl, rfl⟩))
          go_step3
          exact none_lands s at_ _ _ _ hN hT
    · have hhead : isHex (atI ((bs s).drop (at_ + 2 + i)) 0) = true := by rw [atI_drop, Nat.add_zero, ← htn]; exact hx
      obtain ⟨d0, d1⟩ := digI_lo _ hx
      have hv := hexTake_more j _ hhead n
      have hl := hexLen_more j _ hhead
      rw [atI_drop, List.drop_drop] at hv
      rw [List.drop_drop] at hl
      rw [hv, hl] at hR
      simp only [Nat.add_zero] at hR
      obtain ⟨q0, q1, q2⟩ := hex_step i n (digI (atI (bs s) to_.toNat)) (by omega) n0 n1 d0 d1
      have hn2 := hex_small i n (by omega) n1
      have hR2 : Res N T at_ (i + 1 + hexLen j ((bs s).drop (at_ + 2 + (i + 1))) = 0 ∨ inW (atI (bs s) (at_ + 2 + (i + 1) + hexLen j ((bs s).drop (at_ + 2 + (i + 1))))) = true)
          (val 16 (16 * n + digI (atI (bs s) to_.toNat)) (((bs s).drop (at_ + 2 + (i + 1))).take (hexLen j ((bs s).drop (at_ + 2 + (i + 1)))))) (at_ + 2 + (i + 1) + hexLen j ((bs s).drop (at_ + 2 + (i + 1)))) := by
        rw [htn]
        refine hR.turn ?_ ?_ ?_
        · rw [show at_ + 2 + (i + 1) = at_ + 2 + i + 1 by omega, show at_ + 2 + i + (hexLen j (List.drop (at_ + 2 + i + 1) (bs s)) + 1) = at_ + 2 + i + 1 + hexLen j (List.drop (at_ + 2 + i + 1) (bs s)) by omega]
          refine or_congr ?_ Iff.rfl
          omega
        · rw [show at_ + 2 + (i + 1) = at_ + 2 + i + 1 by omega]
        · rw [show at_ + 2 + (i + 1) = at_ + 2 + i + 1 by omega]; omega
      obtain ⟨c, hc⟩ : ∃ c, c = atI (bs s) to_.toNat := ⟨_, rfl⟩
      rw [← hc] at hx d0 d1 q0 q1 q2 hR2
      have hc' := hc.symm
      have hH := Hid.intro hR2
      have hH2 := Hid.intro hk
      have hH3 := Hid.intro q1
      clear hR hR2 hv hl hhead hc n1 q1 hk htn
      refine Lands.of rfl ?_
      go_wp2_with (first
      | (go_at_call 148; refine (byteAt_int _ _ (by omega) (by omega) (by assumption) _).mono ?_; rintro e w' ⟨rfl, rfl⟩)
      | (go_at_call 153; refine (inWord_any _ _).mono ?_; rintro e w' ⟨rfl, rfl⟩)
      | (go_at_call 151; refine (isDigit_any _ _).mono ?_; rintro e w' ⟨rfl, rfl⟩)
      | (go_at_call 179; refine (isHexDigit_any _ _).mono ?_; rintro e w' ⟨rfl, rfl⟩)
      | (go_at_call 180; refine (isQuotable_any _ _).mono ?_; rintro e w' ⟨rfl, rfl⟩)
      | (go_at_call 156; refine (digit_any _ (by assumption) _).mono ?_; rintro e w' ⟨rfl, rfl⟩))
      go_step3
      have hk := hH2.out
      exact ih (i + 1) _ _ (by omega) (by omega) q0 hH3.out hH.out
theorem quoted_lands (s : ByteArray) (at_ : Nat) (N T : Int) (w : World) (hs : s.size ≤ 4611686018427387800) (ha : at_ ≤ s.size)
    (hR : Res N T at_ (¬ (isQuo (atI (bs s) (at_ + 1)) = true ∧ atI (bs s) (at_ + 2) = 39)) (atI (bs s) (at_ + 1)) (at_ + 3)) {u2 u3 u4 u5 u6 u7 u8 u9 u10 u11 u12 u13 u14 u15 u16 u17 u18 u19 u20 u21 u22 u23 u24 u25 u26 u27 u28 u29 u30 u31 u32 u33 u34 u35 u36 u37 u38 u39 u40 u41 u42 u43 u44 u45 u46 u47 u48 u49 u50 u51 u52 u53 u54 u55 u56 u57 u58 u59 u60 u61 u62 u63 u64 u65 u66 u67 u68 u69 u70 u71 u72 u73 u74 u75 u76 u77 u78 u79 u80 u81 u82 u83 u84 u85 u86 u87 u88 u89 u90 u91 u92 u93 u94 u95 u96 u97 u98 u99 : Value} :
    Lands Tryz.prog (scopeOf Tryz.f154) (Q28 N T w) 0 { tmps := List.toArray (.string s :: .int .i64 (at_ : Int) :: u2 :: u3 :: u4 :: u5 :: u6 :: u7 :: u8 :: u9 :: u10 :: u11 :: u12 :: u13 :: u14 :: u15 :: u16 :: u17 :: u18 :: u19 :: u20 :: u21 :: u22 :: u23 :: u24 :: u25 :: u26 :: u27 :: u28 :: u29 :: u30 :: u31 :: u32 :: u33 :: u34 :: u35 :: u36 :: u37 :: u38 :: u39 :: u40 :: u41 :: u42 :: u43 :: u44 :: u45 :: u46 :: u47 :: u48 :: u49 :: u50 :: u51 :: u52 :: u53 :: u54 :: u55 :: u56 :: u57 :: u58 :: u59 :: u60 :: u61 :: u62 :: u63 :: u64 :: u65 :: u66 :: u67 :: u68 :: u69 :: u70 :: u71 :: u72 :: u73 :: u74 :: u75 :: u76 :: u77 :: u78 :: u79 :: u80 :: u81 :: u82 :: u83 :: u84 :: u85 :: u86 :: u87 :: u88 :: u89 :: u90 :: u91 :: u92 :: u93 :: u94 :: u95 :: u96 :: u97 :: u98 :: u99 :: []), defers := [] } w := by
  have e1 : ((at_ : Int) + 1).toNat = at_ + 1 := by omega
  have e2 : ((at_ : Int) + 2).toNat = at_ + 2 := by omega
  have hs2 : s.size ≤ 4611686018427387904 := by omega
  cases hq : isQuo (atI (bs s) (at_ + 1))
  · obtain ⟨hN, hT⟩ := hR.bad (by rw [hq]; simp)
    clear hR
    subst hN hT
    refine Lands.of rfl ?_
    go_wp2_with (first
      | (go_at_call 148; refine (byteAt_int _ _ (by omega) (by omega) (by assumption) _).mono ?_; rintro e w' ⟨rfl, rfl⟩)
      | (go_at_call 153; refine (inWord_any _ _).mono ?_; rintro e w' ⟨rfl, rfl⟩)
      | (go_at_call 151; refine (isDigit_any _ _).mono ?_; rintro e w' ⟨rfl, rfl⟩)
      | (go_at_call 179; refine (isHexDigit_any _ _).mono ?_; rintro e w' ⟨rfl, rfl⟩)
      | (go_at_call 180; refine (isQuotable_any _ _).mono ?_; rintro e w' ⟨rfl, rfl⟩)
      | (go_at_call 156; refine (digit_any _ (by assumption) _).mono ?_; rintro e w' ⟨rfl, rfl⟩))
    go_step3
    go_wp2
    rw [jumps_ret]
    unfold Q28
    go_ret2
    exact ⟨rfl, rfl⟩
  · by_cases h2 : atI (bs s) (at_ + 2) = 39
    · obtain ⟨hN, hT⟩ := hR.good (by simp [hq, h2])
      have hlt : at_ + 1 < s.size := by
        apply Decidable.byContradiction
        intro hn
        rw [atI_out (bs s) (at_ + 2) (by rw [bs_length]; omega)] at h2
        omega
      have hg := atI_get s (at_ + 1) hlt
      clear hR
      have hT' : T = (at_ : Int) + 3 := by omega
      subst hN hT'
      clear hT
      have hgi : ((s[((at_ : Int) + 1).toNat]'(by omega)).toNat : Int) = atI (bs s) (at_ + 1) := by rw [← hg]; congr 2
      have hb0 := atI_lo (bs s) (at_ + 1)
      have hb1 := atI_hi (bs s) (at_ + 1)
      refine Lands.of rfl ?_
      go_wp2_with (first
      | (go_at_call 148; refine (byteAt_int _ _ (by omega) (by omega) (by assumption) _).mono ?_; rintro e w' ⟨rfl, rfl⟩)
      | (go_at_call 153; refine (inWord_any _ _).mono ?_; rintro e w' ⟨rfl, rfl⟩)
      | (go_at_call 151; refine (isDigit_any _ _).mono ?_; rintro e w' ⟨rfl, rfl⟩)
      | (go_at_call 179; refine (isHexDigit_any _ _).mono ?_; rintro e w' ⟨rfl, rfl⟩)
      | (go_at_call 180; refine (isQuotable_any _ _).mono ?_; rintro e w' ⟨rfl, rfl⟩)
      | (go_at_call 156; refine (digit_any _ (by assumption) _).mono ?_; rintro e w' ⟨rfl, rfl⟩))
      rw [jumps_ret]
      unfold Q28
      go_ret2
      exact ⟨by first | rfl | (simp only [hg]) | (simp only [hgi]), rfl⟩
    · obtain ⟨hN, hT⟩ := hR.bad (by simp [h2])
      have h2' : (atI (bs s) (at_ + 2) == 39) = false := by simpa using h2
      clear hR h2
      subst hN hT
      refine Lands.of rfl ?_
      go_wp2_with (first
      | (go_at_call 148; refine (byteAt_int _ _ (by omega) (by omega) (by assumption) _).mono ?_; rintro e w' ⟨rfl, rfl⟩)
      | (go_at_call 153; refine (inWord_any _ _).mono ?_; rintro e w' ⟨rfl, rfl⟩)
      | (go_at_call 151; refine (isDigit_any _ _).mono ?_; rintro e w' ⟨rfl, rfl⟩)
      | (go_at_call 179; refine (isHexDigit_any _ _).mono ?_; rintro e w' ⟨rfl, rfl⟩)
      | (go_at_call 180; refine (isQuotable_any _ _).mono ?_; rintro e w' ⟨rfl, rfl⟩)
      | (go_at_call 156; refine (digit_any _ (by assumption) _).mono ?_; rintro e w' ⟨rfl, rfl⟩))
      go_step3
      go_wp2
      rw [jumps_ret]
      unfold Q28
      go_ret2
      exact ⟨rfl, rfl⟩
end Go.Proofs.YtmndccbeddaphaaGreatDoor
namespace Go.Proofs.YtmndccbeddaphaaGreatDoor
open Go.ChangeShapes Go.WideShapes Go.ChangeAt Go.RowKit
set_option linter.unusedVariables false
set_option maxRecDepth 100000
theorem res_of (r : List UInt8) (at_ : Nat) (bad : Prop) (v : Int) (k : Nat) (h1 : bad → numAt r = none) (h2 : ¬ bad → numAt r = some (v, k)) :
    Res (numN r) ((at_ : Int) + numL r) at_ bad v (at_ + k) := by
  refine ⟨fun hb => ?_, fun hb => ?_⟩
  · simp [numN, numL, h1 hb]
  · simp [numN, numL, h2 hb]
theorem num_quoted (r : List UInt8) (at_ : Nat) (h : atI r 0 = 39) :
    Res (numN r) ((at_ : Int) + numL r) at_ (¬ (isQuo (atI r 1) = true ∧ atI r 2 = 39)) (atI r 1) (at_ + 3) := by
  apply res_of
  · intro hb; unfold numAt; rw [if_pos h, if_neg hb]
  · intro hb; unfold numAt; rw [if_pos h, if_pos (Decidable.not_not.1 hb)]
theorem num_hex (r : List UInt8) (at_ : Nat) (h : atI r 0 = 48) (h1 : atI r 1 = 120) :
    Res (numN r) ((at_ : Int) + numL r) at_ (hexLen 8 (r.drop 2) = 0 ∨ inW (atI r (2 + hexLen 8 (r.drop 2))) = true) (val 16 0 ((r.drop 2).take (hexLen 8 (r.drop 2)))) (at_ + (2 + hexLen 8 (r.drop 2))) := by
  apply res_of
  · intro hb; unfold numAt; rw [if_neg (by omega), if_pos ⟨h, h1⟩, if_pos hb]
  · intro hb; unfold numAt; rw [if_neg (by omega), if_pos ⟨h, h1⟩, if_neg hb]
theorem num_zero (r : List UInt8) (at_ : Nat) (h : atI r 0 = 48) (h1 : ¬ atI r 1 = 120) :
    Res (numN r) ((at_ : Int) + numL r) at_ (inW (atI r 1) = true) 0 (at_ + 1) := by
  apply res_of
  · intro hb; unfold numAt; rw [if_neg (by omega), if_neg (fun x => h1 x.2), if_pos h, if_pos hb]
  · intro hb; unfold numAt; rw [if_neg (by omega), if_neg (fun x => h1 x.2), if_pos h, if_neg hb]
theorem num_dec (r : List UInt8) (at_ : Nat) (h : ¬ atI r 0 = 39) (h1 : ¬ atI r 0 = 48) :
    Res (numN r) ((at_ : Int) + numL r) at_ (4294967295 < val 10 0 (r.take (lenW isDig r)) ∨ inW (atI r (lenW isDig r)) = true) (val 10 0 (r.take (lenW isDig r))) (at_ + lenW isDig r) := by
  apply res_of
  · intro hb; unfold numAt; rw [if_neg h, if_neg (fun x => h1 x.1), if_neg h1, if_pos hb]
  · intro hb; unfold numAt; rw [if_neg h, if_neg (fun x => h1 x.1), if_neg h1, if_neg hb]
theorem numberAt_any (s : ByteArray) (at_ : Nat) (ha : at_ < s.size) (hs : s.size ≤ 4611686018427387800) (hd : isDig (atI (bs s) at_) = true ∨ atI (bs s) at_ = 39) (w : World) :
    Calls Tryz.prog 154 #[.string s, .int .i64 (at_ : Int)] w fun e w' => e = .returned (.tuple #[.int .u32 (numN ((bs s).drop at_)), .int .i64 ((at_ : Int) + numL ((bs s).drop at_))]) ∧ w' = w := by
  have hg := atI_get s at_ ha
  have hs2 : s.size ≤ 4611686018427387904 := by omega
  have r0 : atI ((bs s).drop at_) 0 = atI (bs s) at_ := by rw [atI_drop, Nat.add_zero]
  have r1 : atI ((bs s).drop at_) 1 = atI (bs s) (at_ + 1) := by rw [atI_drop]
  have r2 : atI ((bs s).drop at_) 2 = atI (bs s) (at_ + 2) := by rw [atI_drop]
  have e1 : ((at_ : Int) + 1).toNat = at_ + 1 := by omega
  obtain ⟨N, hN⟩ : ∃ N, N = numN ((bs s).drop at_) := ⟨_, rfl⟩
  obtain ⟨T, hT⟩ : ∃ T, T = (at_ : Int) + numL ((bs s).drop at_) := ⟨_, rfl⟩
  rw [← hN, ← hT]
  by_cases hq : atI (bs s) at_ = 39
  · have hR := Hid.intro (num_quoted ((bs s).drop at_) at_ (by rw [r0]; exact hq))
    rw [r1, r2, ← hN, ← hT] at hR
    clear hN hT r0 r1 r2 hd
    go_enter Tryz.func154, Tryz.ntmps154
    go_wp2
    refine wp_scope_at (Q := Q28 N T _) Tryz.f154 rfl ?_
    go_wp2_with (first
      | (go_at_call 148; refine (byteAt_int _ _ (by omega) (by omega) (by assumption) _).mono ?_; rintro e w' ⟨rfl, rfl⟩)
      | (go_at_call 153; refine (inWord_any _ _).mono ?_; rintro e w' ⟨rfl, rfl⟩)
      | (go_at_call 151; refine (isDigit_any _ _).mono ?_; rintro e w' ⟨rfl, rfl⟩)
      | (go_at_call 179; refine (isHexDigit_any _ _).mono ?_; rintro e w' ⟨rfl, rfl⟩)
      | (go_at_call 180; refine (isQuotable_any _ _).mono ?_; rintro e w' ⟨rfl, rfl⟩)
      | (go_at_call 156; refine (digit_any _ (by assumption) _).mono ?_; rintro e w' ⟨rfl, rfl⟩))
    go_step3
    exact quoted_lands s at_ N T _ hs (by omega) hR.out
  · have hd1 : isDig (atI (bs s) at_) = true := hd.resolve_right hq
    have hqf : (atI (bs s) at_ == 39) = false := by simpa using hq
    by_cases h0 : atI (bs s) at_ = 48
    · by_cases h1 : atI (bs s) (at_ + 1) = 120
      · have hR := num_hex ((bs s).drop at_) at_ (by rw [r0]; exact h0) (by rw [r1]; exact h1)
        rw [← hN, ← hT, List.drop_drop, atI_drop] at hR
        have hR2 : Res N T at_ (0 + hexLen 8 ((bs s).drop (at_ + 2 + 0)) = 0 ∨ inW (atI (bs s) (at_ + 2 + 0 + hexLen 8 ((bs s).drop (at_ + 2 + 0)))) = true)
            (val 16 0 (((bs s).drop (at_ + 2 + 0)).take (hexLen 8 ((bs s).drop (at_ + 2 + 0))))) (at_ + 2 + 0 + hexLen 8 ((bs s).drop (at_ + 2 + 0))) := by
          refine hR.turn ?_ rfl (by simp only [Nat.add_zero]; omega)
          rw [Nat.zero_add, show at_ + 2 + 0 = at_ + 2 by omega, Nat.add_assoc]
        have hH := Hid.intro hR2
        clear hN hT r0 r1 r2 hd hR hR2 hq hqf hd1
        go_enter Tryz.func154, Tryz.ntmps154
        go_wp2
        refine wp_scope_at (Q := Q28 N T _) Tryz.f154 rfl ?_
        go_wp2_with (first
      | (go_at_call 148; refine (byteAt_int _ _ (by omega) (by omega) (by assumption) _).mono ?_; rintro e w' ⟨rfl, rfl⟩)
      | (go_at_call 153; refine (inWord_any _ _).mono ?_; rintro e w' ⟨rfl, rfl⟩)
      | (go_at_call 151; refine (isDigit_any _ _).mono ?_; rintro e w' ⟨rfl, rfl⟩)
      | (go_at_call 179; refine (isHexDigit_any _ _).mono ?_; rintro e w' ⟨rfl, rfl⟩)
      | (go_at_call 180; refine (isQuotable_any _ _).mono ?_; rintro e w' ⟨rfl, rfl⟩)
      | (go_at_call 156; refine (digit_any _ (by assumption) _).mono ?_; rintro e w' ⟨rfl, rfl⟩))
        go_step3
        exact hex_lands s at_ N T _ hs (by omega) 8 0 _ 0 rfl (by omega) (by omega) (by simp) hH.out
      · have hR := num_zero ((bs s).drop at_) at_ (by rw [r0]; exact h0) (by rw [r1]; exact h1)
        rw [← hN, ← hT, r1] at hR
        have h1f : (atI (bs s) (at_ + 1) == 120) = false := by simpa using h1
        have hH := Hid.intro hR
        clear hN hT r0 r1 r2 hd hR hq hqf hd1 h1
        go_enter Tryz.func154, Tryz.ntmps154
        go_wp2
        refine wp_scope_at (Q := Q28 N T _) Tryz.f154 rfl ?_
        go_wp2_with (first
      | (go_at_call 148; refine (byteAt_int _ _ (by omega) (by omega) (by assumption) _).mono ?_; rintro e w' ⟨rfl, rfl⟩)
      | (go_at_call 153; refine (inWord_any _ _).mono ?_; rintro e w' ⟨rfl, rfl⟩)
      | (go_at_call 151; refine (isDigit_any _ _).mono ?_; rintro e w' ⟨rfl, rfl⟩)
      | (go_at_call 179; refine (isHexDigit_any _ _).mono ?_; rintro e w' ⟨rfl, rfl⟩)
      | (go_at_call 180; refine (isQuotable_any _ _).mono ?_; rintro e w' ⟨rfl, rfl⟩)
      | (go_at_call 156; refine (digit_any _ (by assumption) _).mono ?_; rintro e w' ⟨rfl, rfl⟩))
        go_step3
        exact behind_lands s at_ (at_ + 1) 0 _ N T _ (by omega) (by omega) hs2 (by omega) (by omega) hH.out
    · have hR := num_dec ((bs s).drop at_) at_ (by rw [r0]; exact hq) (by rw [r0]; exact h0)
      rw [← hN, ← hT, atI_drop] at hR
      have h0f : (atI (bs s) at_ == 48) = false := by simpa using h0
      have hx := isHex_of_dig _ hd1
      obtain ⟨d0, d1⟩ := digI_dig _ hd1
      have hhead : isDig (atI ((bs s).drop at_) 0) = true := by rw [r0]; exact hd1
      have hv := take_more isDig isDig_zero ((bs s).drop at_) hhead 10 0
      have hl := (lenW_more isDig isDig_zero ((bs s).drop at_) hhead).1
      rw [List.drop_drop] at hl
      rw [List.drop_drop, r0, show (10 : Int) * 0 + digI (atI (bs s) at_) = digI (atI (bs s) at_) by omega] at hv
      have hR2 : Res N T at_ (4294967295 < val 10 (digI (atI (bs s) at_)) (((bs s).drop (at_ + 1)).take (lenW isDig ((bs s).drop (at_ + 1)))) ∨ inW (atI (bs s) (at_ + 1 + lenW isDig ((bs s).drop (at_ + 1)))) = true)
          (val 10 (digI (atI (bs s) at_)) (((bs s).drop (at_ + 1)).take (lenW isDig ((bs s).drop (at_ + 1))))) (at_ + 1 + lenW isDig ((bs s).drop (at_ + 1))) := by
        refine hR.turn ?_ hv.symm (by rw [hl]; omega)
        rw [hv, hl, show at_ + 1 + lenW isDig (List.drop (at_ + 1) (bs s)) = at_ + (lenW isDig (List.drop (at_ + 1) (bs s)) + 1) by omega]
      obtain ⟨c, hc⟩ : ∃ c, c = atI (bs s) at_ := ⟨_, rfl⟩
      rw [← hc] at hd1 hx d0 d1 hR2 hqf h0f hg
      have hc' := hc.symm
      have hH := Hid.intro hR2
      clear hN hT r0 r1 r2 hd hR hR2 hq h0 hhead hv hl hc
      go_enter Tryz.func154, Tryz.ntmps154
      go_wp2
      refine wp_scope_at (Q := Q28 N T _) Tryz.f154 rfl ?_
      go_wp2_with (first
      | (go_at_call 148; refine (byteAt_int _ _ (by omega) (by omega) (by assumption) _).mono ?_; rintro e w' ⟨rfl, rfl⟩)
      | (go_at_call 153; refine (inWord_any _ _).mono ?_; rintro e w' ⟨rfl, rfl⟩)
      | (go_at_call 151; refine (isDigit_any _ _).mono ?_; rintro e w' ⟨rfl, rfl⟩)
      | (go_at_call 179; refine (isHexDigit_any _ _).mono ?_; rintro e w' ⟨rfl, rfl⟩)
      | (go_at_call 180; refine (isQuotable_any _ _).mono ?_; rintro e w' ⟨rfl, rfl⟩)
      | (go_at_call 156; refine (digit_any _ (by assumption) _).mono ?_; rintro e w' ⟨rfl, rfl⟩))
      go_step3
      go_wp2_with (first
      | (go_at_call 148; refine (byteAt_int _ _ (by omega) (by omega) (by assumption) _).mono ?_; rintro e w' ⟨rfl, rfl⟩)
      | (go_at_call 153; refine (inWord_any _ _).mono ?_; rintro e w' ⟨rfl, rfl⟩)
      | (go_at_call 151; refine (isDigit_any _ _).mono ?_; rintro e w' ⟨rfl, rfl⟩)
      | (go_at_call 179; refine (isHexDigit_any _ _).mono ?_; rintro e w' ⟨rfl, rfl⟩)
      | (go_at_call 180; refine (isQuotable_any _ _).mono ?_; rintro e w' ⟨rfl, rfl⟩)
      | (go_at_call 156; refine (digit_any _ (by assumption) _).mono ?_; rintro e w' ⟨rfl, rfl⟩))
      go_step3
      exact dec_lands s at_ N T _ hs _ (at_ + 1) _ _ (by omega) (by omega) rfl (by omega) (by omega) hH.out
end Go.Proofs.YtmndccbeddaphaaGreatDoor
namespace Go.Proofs.YtmndccbeddaphaaGreatDoor
open Go.ChangeShapes Go.WideShapes Go.ChangeAt Go.RowKit
set_option linter.unusedVariables false
set_option maxRecDepth 100000
def str (l : List UInt8) : ByteArray := ⟨l.toArray⟩
def Tok.cells (t : Tok) : List Value := [.int .i64 t.kind, .string (str t.text), .int .u32 t.num, .int .i64 (t.place : Int)]
def rowOf (ts : List Tok) : List Value := ts.flatMap Tok.cells
theorem Tryz.info188 : (Tryz.prog.info? 185).map (fun i => (i.zero, i.size, i.bytes)) = some (some (.agg #[.int .i64 0, .string ⟨#[]⟩, .int .u32 0, .int .i64 0]), 4, 40) := by kernel_rfl
theorem ownsRow_below {w w' : World} {B : Nat} {e : TypeId} {size : Nat} {v : Value} {n : Nat} {xs : List Value} (h : w.ownsRow B e size v n xs) (hb : Below w.heap.size w w') : w'.ownsRow B e size v n xs := by
  obtain ⟨hl, h | ⟨g, cap, cur, hv, hbg, hg, r⟩⟩ := h
  · exact ⟨hl, .inl h⟩
  · have hlt : g < w.heap.size := by
      apply Decidable.byContradiction
      intro hn
      rw [Array.getElem?_eq_none (by omega)] at hg
      cases hg
    exact ⟨hl, .inr ⟨g, cap, cur, hv, hbg, by rw [hb.block g hlt]; exact hg, r⟩⟩
theorem cells_new (w : World) (cs : Array Value) (T : TypeId) : ∀ j u, cs.toList[j]? = some u → (w.alloc (.cells cs T)).cell? ((⟨w.heap.size, 0, none⟩ : Addr).add j) = some u := by
  intro j u h
  refine Lib.cells_of_row (heap_alloc_new w _) cs.size j u ?_
  rw [List.take_of_length_le (by simp)]
  exact h
theorem rowOf_push (acc : List Tok) (t : Tok) : rowOf (acc ++ [t]) = rowOf acc ++ t.cells := by simp [rowOf]
def Out (B : Nat) (w0 : World) (R : Except Nat (List Tok)) (e : Ending) (w' : World) : Prop :=
  Below B w0 w' ∧ match R with
  | .ok ts => ∃ v, e = .returned (.tuple #[v, .int .i64 0, .int .i64 0]) ∧ w'.ownsRow B 185 4 v ts.length (rowOf ts)
  | .error p => e = .returned (.tuple #[.slice none 0 0, .int .i64 (p : Int), .int .i64 20])
def Q9 (B : Nat) (w0 : World) (R : Except Nat (List Tok)) : Exit → Act → World → Prop := bodyPost Tryz.prog Tryz.f127 (Out B w0 R)
theorem whole_lands (s : ByteArray) (B : Nat) (w0 w : World) (R : Except Nat (List Tok)) (hs : s.size ≤ 1100000) (acc : List Tok) (v : Value) (n to_ kind : Int) (at_ p : Nat)
    (hp : to_ = p) (h1 : at_ < p) (h2 : p ≤ s.size) (hacc : acc.length ≤ at_) (hown : w.ownsRow B 185 4 v acc.length (rowOf acc)) (hbel : Below B w0 w) (hB : B ≤ w.heap.size)
    (hnext : Hid (∀ (w' : World) (v' : Value), w'.ownsRow B 185 4 v' (acc.length + 1) (rowOf (acc ++ [{ kind := kind, text := ((bs s).drop at_).take (p - at_), num := n, place := at_ }])) → Below B w0 w' → B ≤ w'.heap.size → ∀ {u1 u2 u3 u4 u6 u8 u9 u10 u11 u12 u13 u14 u15 u16 u17 u18 u19 u20 u21 u22 u23 u24 u25 u26 u27 u28 u29 u30 u31 u32 u33 u34 u35 u36 u37 u38 u39 u40 u41 u42 u43 u44 u45 u46 u47 u48 u49 u50 u51 u52 u53 u54 u55 u56 u57 u58 u59 u60 u61 u62 u63 u64 u65 u66 u67 u68 u69 u70 u71 u72 u73 u74 u75 : Value}, Lands Tryz.prog (scopeOf Tryz.f127) (Q9 B w0 R) 0 { tmps := List.toArray (.string s :: u1 :: u2 :: u3 :: u4 :: v' :: u6 :: .int .i64 (p : Int) :: u8 :: u9 :: u10 :: u11 :: u12 :: u13 :: u14 :: u15 :: u16 :: u17 :: u18 :: u19 :: u20 :: u21 :: u22 :: u23 :: u24 :: u25 :: u26 :: u27 :: u28 :: u29 :: u30 :: u31 :: u32 :: u33 :: u34 :: u35 :: u36 :: u37 :: u38 :: u39 :: u40 :: u41 :: u42 :: u43 :: u44 :: u45 :: u46 :: u47 :: u48 :: u49 :: u50 :: u51 :: u52 :: u53 :: u54 :: u55 :: u56 :: u57 :: u58 :: u59 :: u60 :: u61 :: u62 :: u63 :: u64 :: u65 :: u66 :: u67 :: u68 :: u69 :: u70 :: u71 :: u72 :: u73 :: u74 :: u75 :: []), defers := [] } w')) {u1 u2 u3 u4 u10 u11 u12 u13 u14 u15 u16 u17 u18 u19 u20 u21 u22 u23 u24 u25 u26 u27 u28 u29 u30 u31 u32 u33 u34 u35 u36 u37 u38 u39 u40 u41 u42 u43 u44 u45 u46 u47 u48 u49 u50 u51 u52 u53 u54 u55 u56 u57 u58 u59 u60 u61 u62 u63 u64 u65 u66 u67 u68 u69 u70 u71 u72 u73 u74 u75 : Value} :
    Lands Tryz.prog (scopeOf Tryz.f127) (Q9 B w0 R) 3 { tmps := List.toArray (.string s :: u1 :: u2 :: u3 :: u4 :: v :: .int .u32 n :: .int .i64 (at_ : Int) :: .int .i64 to_ :: .int .i64 kind :: u10 :: u11 :: u12 :: u13 :: u14 :: u15 :: u16 :: u17 :: u18 :: u19 :: u20 :: u21 :: u22 :: u23 :: u24 :: u25 :: u26 :: u27 :: u28 :: u29 :: u30 :: u31 :: u32 :: u33 :: u34 :: u35 :: u36 :: u37 :: u38 :: u39 :: u40 :: u41 :: u42 :: u43 :: u44 :: u45 :: u46 :: u47 :: u48 :: u49 :: u50 :: u51 :: u52 :: u53 :: u54 :: u55 :: u56 :: u57 :: u58 :: u59 :: u60 :: u61 :: u62 :: u63 :: u64 :: u65 :: u66 :: u67 :: u68 :: u69 :: u70 :: u71 :: u72 :: u73 :: u74 :: u75 :: []), defers := [] } w := by
  subst hp
  obtain ⟨T, hT⟩ : ∃ T, T = ((bs s).drop at_).take (p - at_) := ⟨_, rfl⟩
  have hsl : ∀ W : World, (Instr.slice 9 (.string s) (some (.int .i64 (at_ : Int))) (some (.int .i64 (p : Int))) none).run Tryz.prog W = .ok (.string (str T)) W := fun W => by
    rw [run_slice_string W 9 s .i64 .i64 at_ p Tryz.underlying9 (by omega) (by omega) (by omega), Lib.extract_eq, hT]
    simp [str, bs]
  have hTs : (str T).size ≤ 1100000 := by
    have : (str T).size = T.length := by simp [str, ByteArray.size]
    rw [this, hT, List.length_take, List.length_drop, bs_length]
    omega
  rw [← hT] at hnext
  clear hT
  obtain ⟨i0, hi, hz0, hz1, hz2⟩ := info_parts Tryz.info188
  have hlen : acc.length ≤ 1100000 := by omega
  refine Lands.of rfl ?_
  go_wp2_with (first
      | (go_at_call 155; refine (clone_any _ _ (by omega)).mono ?_; rintro e w' ⟨rfl, hb⟩)
      | (at_builtin; go_must (refine wpList_append_own_wide _ rfl (.tmp 63) (.tmp 73) 181 rfl B 185 i0 (.agg #[.int .i64 0, .string ⟨#[]⟩, .int .u32 0, .int .i64 0]) 4 40 Tryz.underlying181 hi hz0 hz1 hz2 rfl (by decide) v acc.length (rowOf acc) rfl ((ownsRow_below hown hb).alloc _) ⟨w'.heap.size, 0, none⟩ 1 1 [.int .i64 kind, .string (str T), .int .u32 n, .int .i64 (at_ : Int)] rfl rfl (cells_new _ _ _) (by simp [Value.oneCell']) (by unfold maxLen; omega) (by omega) (by have := hb.size; simp; omega) ?_; intro v2 w2 hown2 hgrow2 _)))
  go_step3
  have hbs := hb.size
  refine hnext.out w2 v2 ?_ ?_ ?_
  · rw [rowOf_push]; exact hown2
  · exact ((hbel.trans (hb.mono hB)).alloc (by omega) _).grown hgrow2 (by simp; omega) (fun k hk => (hown.lt k hk).1)
  · have := hgrow2.size; simp at this; omega
end Go.Proofs.YtmndccbeddaphaaGreatDoor

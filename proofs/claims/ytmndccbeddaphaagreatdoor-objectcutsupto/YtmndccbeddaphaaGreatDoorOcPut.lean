/- Contracts of octet.Put, octet.PutText and of the document's Put and PutText: what they answer lies in new memory. -/
import Derived.Test.YtmndccbeddaphaaGreatDoorOcBook
import Derived.Laws.AppendOwnNone
import Derived.Lib.AppendStr
namespace Go.Proofs.YtmndccbeddaphaaGreatDoor.O
open Go.ChangeShapes Go.WideShapes Go.ChangeAt Go.RowKit
set_option linter.unusedVariables false
set_option maxRecDepth 100000

/-- the slice v of w holds just the bytes zs, in a row that was made at base or behind it -/
def Own (w : World) (base : Nat) (v : Value) (zs : List Int) : Prop := w.ownsRow base 5 1 v zs.length (cellsOf zs)

theorem Own.mono {w : World} {base base' : Nat} {v : Value} {zs : List Int} (h : Own w base v zs) (hb : base' ≤ base) : Own w base' v zs := by
  refine ⟨h.1, ?_⟩
  rcases h.2 with h | ⟨g, cap, cur, h1, h2, h3⟩
  · exact .inl h
  · exact .inr ⟨g, cap, cur, h1, by omega, h3⟩

/-- the lowest k bytes of n, the lowest first -/
def leB (n : Int) : Nat → List Int
  | 0 => []
  | k + 1 => n % 256 :: leB (n / 256) k
theorem leB_length (n : Int) (k : Nat) : (leB n k).length = k := by
  induction k generalizing n with
  | zero => rfl
  | succ k ih => simp [leB, ih]
theorem leB_snoc (n : Int) (k : Nat) : leB n (k + 1) = leB n k ++ [n / 256 ^ k % 256] := by
  induction k generalizing n with
  | zero => simp [leB]
  | succ k ih =>
    rw [leB, ih (n / 256)]
    simp only [leB, List.cons_append]
    congr 3
    rw [Int.pow_succ, Int.mul_comm, Int.ediv_ediv]
    simp
theorem leB_bytes (n : Int) (k : Nat) : AreBytes (leB n k) := by
  induction k generalizing n with
  | zero => intro z hz; cases hz
  | succ k ih =>
    intro z hz
    simp only [leB, List.mem_cons] at hz
    rcases hz with rfl | hz
    · omega
    · exact ih _ z hz

def putL (zs : List Int) (n width : Int) : List Int := if isW width = true then zs ++ leB n width.toNat else zs

theorem lies_olds {w : World} {a : Option Addr} {zs : List Int} (hl : Lies w a zs) {w1 : World} (hb : Below w.heap.size w w1) :
    ∀ b, a = some b → ∀ j u, (cellsOf zs)[j]? = some u → w1.cell? (b.add j) = some u := by
  intro b hab j u hj
  have h0 : 0 < (cellsOf zs).length := by
    rcases Nat.eq_zero_or_pos (cellsOf zs).length with h | h
    · rw [List.length_eq_zero_iff.1 h] at hj; cases hj
    · exact h
  obtain ⟨ad, had, hc⟩ := lies_src hl hb h0
  rw [hab] at had
  cases had
  exact hc j u hj

theorem cut_any (a : Option Addr) (len cap : Nat) (w : World) (h : len ≤ cap) (hm : len ≤ maxLen) :
    Calls Tryz.prog 169 #[.slice a len cap] w fun e w' => e = .returned (.slice a len len) ∧ w' = w := by
  unfold maxLen at hm
  go_enter Tryz.func169, Tryz.ntmps169
  go_wp2
  go_ret
  exact ⟨rfl, rfl⟩

theorem put_bad (a : Option Addr) (cap : Nat) (zs : List Int) (n width : Int) (w : World) (hl : Lies w a zs) (hna : a = none → zs.length = 0 ∧ cap = 0) (hW : isW width = false) (hm : zs.length ≤ 140737488355328) :
    Calls Tryz.prog 133 #[.slice a zs.length cap, .int .u32 n, .int .i64 width] w fun e w' => ∃ v, e = .returned v ∧ Own w' w.heap.size v zs ∧ Below w.heap.size w w' := by
  obtain ⟨i0, hi, hz0, hz1, hz2⟩ := info_parts Tryz.info5
  cases a with
  | none =>
    obtain ⟨hz, rfl⟩ := hna rfl
    obtain rfl := List.length_eq_zero_iff.1 hz
    go_enter Tryz.func133, Tryz.ntmps133
    go_wp2_with (first
      | (go_at_call 168; refine (isWidth_any _ _).mono ?_; rintro e w' ⟨rfl, rfl⟩)
      | (at_builtin; go_must (refine wpList_append_own_none rfl (.const (.slice none 0 0)) (.tmp 11) 22 rfl w'.heap.size 5 i0 1 Tryz.underlying22 hi _ 0 [] rfl (World.ownsRow_nil _ _ _ _) rfl ?_)))
    go_ret
    exact ⟨_, rfl, World.ownsRow_nil _ _ _ _, Below.refl _ _⟩
  | some x =>
    have hc := lies_olds hl (Below.refl _ _) x rfl
    go_enter Tryz.func133, Tryz.ntmps133
    go_wp2_with (first
      | (go_at_call 168; refine (isWidth_any _ _).mono ?_; rintro e w' ⟨rfl, rfl⟩)
      | (at_builtin; go_must (refine wpList_append_own _ rfl (.const (.slice none 0 0)) (.tmp 11) 22 rfl w'.heap.size 5 i0 (.int .u8 0) 1 1 Tryz.underlying22 hi hz0 hz1 hz2 rfl (by decide) _ 0 [] rfl (World.ownsRow_nil _ _ _ _) x zs.length cap (cellsOf zs) rfl (by simp [cellsOf_length]) hc (cellsOf_one zs) (by unfold maxLen; omega) (by omega) (Nat.le_refl _) ?_); intro v' w1 hown hgrow _))
    go_ret
    refine ⟨_, rfl, ?_, ?_⟩
    · simpa [Own] using hown
    · exact (Below.refl _ _).grown hgrow (Nat.le_refl _) (fun k hk => by cases hk)

theorem own_push {w : World} {base : Nat} {v : Value} {zs : List Int} {z : Int} {k : Nat} (h : w.ownsRow base 5 1 v (zs.length + 1) (cellsOf zs ++ [.int .u8 z])) : Own w base v (zs ++ [z]) := by
  have e1 : (zs ++ [z]).length = zs.length + 1 := by simp
  have e2 : cellsOf (zs ++ [z]) = cellsOf zs ++ [.int .u8 z] := by simp [cellsOf]
  unfold Own
  rw [e1, e2]
  exact h

theorem div_step (n : Int) (j : Nat) : n / 256 ^ j / 256 = n / 256 ^ (j + 1) := by
  have h : ¬ (256 : Int) ^ j < 0 := by
    have := Int.pow_pos (n := 256) (m := j) (by omega)
    omega
  rw [Int.pow_succ, Int.ediv_ediv]
  simp [h]
theorem div_bd (n : Int) (j : Nat) (hn : 0 ≤ n ∧ n ≤ 4294967295) : 0 ≤ n / 256 ^ j ∧ n / 256 ^ j ≤ 4294967295 := by
  have hp : (0 : Int) < 256 ^ j := Int.pow_pos (by omega)
  have h1 : 0 ≤ n / 256 ^ j := Int.ediv_nonneg hn.1 (by omega)
  have h2 : n / 256 ^ j ≤ n := Int.ediv_le_self _ hn.1
  omega

theorem put_ok (a : Option Addr) (cap wd : Nat) (zs : List Int) (n : Int) (w : World) (hl : Lies w a zs) (hna : a = none → zs.length = 0 ∧ cap = 0) (hcap : zs.length ≤ cap) (hw : wd = 1 ∨ wd = 2 ∨ wd = 4) (hm : zs.length + 4 ≤ 140737488355328) (hn : 0 ≤ n ∧ n ≤ 4294967295) :
    Calls Tryz.prog 133 #[.slice a zs.length cap, .int .u32 n, .int .i64 wd] w fun e w' => ∃ v, e = .returned v ∧ Own w' w.heap.size v (zs ++ leB n wd) ∧ Below w.heap.size w w' := by
  obtain ⟨i0, hi, hz0, hz1, hz2⟩ := info_parts Tryz.info5
  have hW : isW (wd : Int) = true := by rcases hw with rfl | rfl | rfl <;> rfl
  have hw1 : 1 ≤ wd := by omega
  have hw4 : wd ≤ 4 := by omega
  have hmm : zs.length ≤ maxLen := by unfold maxLen; omega
  go_enter Tryz.func133, Tryz.ntmps133
  go_wp2_with (first
    | (go_at_call 168; refine (isWidth_any _ _).mono ?_; rintro e w' ⟨rfl, rfl⟩)
    | (go_at_call 169; refine (cut_any _ _ _ _ hcap hmm).mono ?_; rintro e w' ⟨rfl, rfl⟩))
  go_loopw [1, 7, 16] (fun nn v i wr => ∃ j : Nat, j ≤ wd ∧ i = .int .i64 j ∧ nn = .int .u32 (n / 256 ^ j) ∧ ((j = 0 ∧ v = .slice a zs.length zs.length ∧ wr = w') ∨ (1 ≤ j ∧ Own wr w'.heap.size v (zs ++ leB n j) ∧ Below w'.heap.size w' wr))) (fun _ _ i _ => wd - (intOf i).toNat)
  case atStart => exact ⟨0, Nat.zero_le _, rfl, by simp, .inl ⟨rfl, rfl, rfl⟩⟩
  case round =>
    obtain ⟨j, hj, rfl, rfl, hcase⟩ := hrel
    rcases hcase with ⟨rfl, rfl, rfl⟩ | ⟨h1, hown, hb⟩
    · have hls := lies_olds hl ((Below.refl wr.heap.size wr).alloc (Nat.le_refl _) (.cells #[.int .u8 (n % 256)] 5))
      have hnn : a = none → zs.length = 0 ∧ zs.length = 0 := fun h => ⟨(hna h).1, (hna h).1⟩
      go_wp2_with (first
        | (at_builtin; go_must (refine wpList_append_grows _ rfl (.tmp 18) (.tmp 21) 22 rfl 5 i0 (.int .u8 0) 1 1 Tryz.underlying22 hi hz0 hz1 hz2 rfl (by decide) a zs.length zs.length (cellsOf zs) rfl hnn (by simp [cellsOf_length]) hls ⟨wr.heap.size, 0, none⟩ 1 1 [.int .u8 (n % 256)] rfl rfl (cell_one_new _ _ _) (by intro u hu; simp at hu; subst hu; rfl) (by omega) (by unfold maxLen; omega) (by omega) ?_); intro v' w1 hown hgrow))
      have hown' : Own w1 wr.heap.size v' (zs ++ leB n 1) := (own_push (k := 0) hown).mono (by simp)
      have hb' : Below wr.heap.size wr w1 := ((Below.refl wr.heap.size wr).alloc (Nat.le_refl _) _).grown hgrow (by simp) (fun k hk => by cases hk)
      go_roundw
      case rel =>
        exact ⟨1, by omega, by go_num, by simp, .inr ⟨Nat.le_refl _, hown', hb'⟩⟩
      case measure => simp [intOf]; omega
    · by_cases hlt : j < wd
      · have hq : 0 ≤ n / 256 ^ j ∧ n / 256 ^ j ≤ 4294967295 := div_bd n j hn
        go_wp2_with (first
          | (at_builtin; go_must (refine wpList_append_own _ rfl (.tmp 18) (.tmp 21) 22 rfl w'.heap.size 5 i0 (.int .u8 0) 1 1 Tryz.underlying22 hi hz0 hz1 hz2 rfl (by decide) _ _ _ rfl (hown.alloc _) ⟨wr.heap.size, 0, none⟩ 1 1 [.int .u8 (n / 256 ^ j % 256)] rfl rfl (cell_one_new _ _ _) (by intro u hu; simp at hu; subst hu; rfl) (by simp [leB_length]; unfold maxLen; omega) (by simp [leB_length]; omega) (by have := hb.size; simp; omega) ?_); intro v' w1 hown1 hgrow _))
        have hown' : Own w1 w'.heap.size v' (zs ++ leB n (j + 1)) := by
          rw [leB_snoc, ← List.append_assoc]
          exact own_push (k := 0) hown1
        have hb' : Below w'.heap.size w' w1 := (hb.alloc hb.size _).grown hgrow (by have := hb.size; simp; omega) (fun k hk => (hown.lt k hk).1)
        clear hown hown1 hgrow hb
        go_roundw
        case rel =>
          exact ⟨j + 1, by omega, by go_num, by rw [div_step], .inr ⟨by omega, hown', hb'⟩⟩
        case measure => simp [intOf]; omega
      · go_wp2
        go_ret
        have e : j = wd := by omega
        subst e
        exact ⟨_, rfl, hown, hb⟩

theorem put_any (a : Option Addr) (cap : Nat) (zs : List Int) (n width : Int) (w : World) (hl : Lies w a zs) (hna : a = none → zs.length = 0 ∧ cap = 0) (hcap : zs.length ≤ cap) (hm : zs.length + 4 ≤ 140737488355328) (hn : 0 ≤ n ∧ n ≤ 4294967295) :
    Calls Tryz.prog 133 #[.slice a zs.length cap, .int .u32 n, .int .i64 width] w fun e w' => ∃ v, e = .returned v ∧ Own w' w.heap.size v (putL zs n width) ∧ Below w.heap.size w w' := by
  cases hW : isW width
  · have e : putL zs n width = zs := by simp [putL, hW]
    rw [e]
    exact put_bad a cap zs n width w hl hna hW (by omega)
  · have hc := isW_cases hW
    obtain ⟨wd, rfl⟩ : ∃ wd : Nat, width = wd := ⟨width.toNat, by omega⟩
    have e : putL zs n wd = zs ++ leB n wd := by simp [putL, hW]
    rw [e]
    exact put_ok a cap wd zs n w hl hna hcap (by omega) hm hn

/-- the bytes of a text, as numbers -/
def numsOf (s : ByteArray) : List Int := s.data.toList.map fun b => (b.toNat : Int)
theorem numsOf_length (s : ByteArray) : (numsOf s).length = s.size := by simp [numsOf]
theorem strCells_eq (s : ByteArray) : Lib.strCells s = cellsOf (numsOf s) := by
  simp [Lib.strCells, cellsOf, numsOf]
def putT (zs : List Int) (s : ByteArray) : List Int := zs ++ leB ((s.size : Int) % 4294967296) 2 ++ numsOf s

theorem putText_any (a : Option Addr) (cap : Nat) (zs : List Int) (s : ByteArray) (w : World) (hl : Lies w a zs) (hna : a = none → zs.length = 0 ∧ cap = 0) (hcap : zs.length ≤ cap) (hm : zs.length + 4 + s.size ≤ 140737488355328) :
    Calls Tryz.prog 112 #[.slice a zs.length cap, .string s] w fun e w' => ∃ v, e = .returned v ∧ Own w' w.heap.size v (putT zs s) ∧ Below w.heap.size w w' := by
  obtain ⟨i0, hi, hz0, hz1, hz2⟩ := info_parts Tryz.info5
  have hp := put_any a cap zs ((s.size : Int) % 4294967296) 2 w hl hna hcap (by omega) (by omega)
  have hL : (putL zs ((s.size : Int) % 4294967296) 2).length = zs.length + 2 := by simp [putL, isW, leB_length]
  go_enter Tryz.func112, Tryz.ntmps112
  go_wp2_with (first
    | (go_at_call 133; go_must (refine hp.mono ?_); rintro e w1 ⟨v, rfl, hown, hb⟩)
    | (at_builtin; go_must (refine Lib.wpList_append_own_string _ rfl (.tmp 11) (.tmp 12) 22 9 rfl w.heap.size 5 i0 Tryz.underlying22 Tryz.underlying9 hi hz0 hz1 hz2 _ _ _ rfl hown s rfl (by rw [hL]; unfold maxLen; omega) (by rw [hL]; omega) hb.size ?_); intro v' w2 hown2 hgrow2 _))
  go_ret
  refine ⟨_, rfl, ?_, hb.grown hgrow2 hb.size (fun k hk => (hown.lt k hk).1)⟩
  rw [strCells_eq] at hown2
  have e1 : putT zs s = putL zs ((s.size : Int) % 4294967296) 2 ++ numsOf s := by simp [putT, putL, isW]
  unfold Own
  rw [e1, List.length_append, numsOf_length]
  simpa [cellsOf] using hown2

theorem refPut_bad (a : Option Addr) (cap : Nat) (zs : List Int) (n width : Int) (w : World) (hl : Lies w a zs) (hna : a = none → zs.length = 0 ∧ cap = 0) (hW : isW width = false) (hm : zs.length + 4 ≤ 140737488355328) :
    Calls Tryz.prog 37 #[.slice a zs.length cap, .int .u32 n, .int .i64 width] w fun e w' => ∃ v, e = .returned v ∧ Own w' w.heap.size v zs ∧ Below w.heap.size w w' := by
  obtain ⟨i0, hi, hz0, hz1, hz2⟩ := info_parts Tryz.info5
  have hne : (width == 1) = false ∧ (width == 2) = false ∧ (width == 4) = false := by simp [isW] at hW; simp; omega
  obtain ⟨n1, n2, n4⟩ := hne
  have m1 : (width != 1) = true := by simp [bne, n1]
  have m2 : (width != 2) = true := by simp [bne, n2]
  have m4 : (width != 4) = true := by simp [bne, n4]
  cases a with
  | none =>
    obtain ⟨hz, rfl⟩ := hna rfl
    obtain rfl := List.length_eq_zero_iff.1 hz
    go_enter Tryz.func37, Tryz.ntmps37
    go_wp2_with (at_builtin; go_must (refine wpList_append_own_none rfl (.tmp 9) (.tmp 10) 22 rfl w.heap.size 5 i0 1 Tryz.underlying22 hi _ 0 [] rfl (World.ownsRow_lit w #[] 0 (Nat.le_refl _) (Nat.zero_le _) rfl) rfl ?_))
    go_ret
    exact ⟨_, rfl, World.ownsRow_lit w #[] 0 (Nat.le_refl _) (Nat.zero_le _) rfl, (Below.refl _ _).alloc (Nat.le_refl _) _⟩
  | some x =>
    have hc := lies_olds hl ((Below.refl w.heap.size w).alloc (Nat.le_refl _) (.cells #[] 5)) x rfl
    go_enter Tryz.func37, Tryz.ntmps37
    go_wp2_with (at_builtin; go_must (refine wpList_append_own _ rfl (.tmp 9) (.tmp 10) 22 rfl w.heap.size 5 i0 (.int .u8 0) 1 1 Tryz.underlying22 hi hz0 hz1 hz2 rfl (by decide) _ 0 [] rfl (World.ownsRow_lit w #[] 0 (Nat.le_refl _) (Nat.zero_le _) rfl) x zs.length cap (cellsOf zs) rfl (by simp [cellsOf_length]) hc (cellsOf_one zs) (by unfold maxLen; omega) (by omega) (by simp) ?_); intro v1 w1 hown1 hgrow1 _)
    go_ret
    refine ⟨_, rfl, ?_, ?_⟩
    · simpa [Own] using hown1
    · exact ((Below.refl _ _).alloc (Nat.le_refl _) _).grown hgrow1 (by simp) (fun k hk => by cases hk; exact Nat.le_refl _)

theorem pow256 (j : Nat) : (2 : Int) ^ (8 * j) = 256 ^ j := by rw [Int.pow_mul]; rfl

theorem refPut_some1 (x : Addr) (cap : Nat) (zs : List Int) (n : Int) (w : World) (hl : Lies w (some x) zs) (hm : zs.length + 4 ≤ 140737488355328) (hn : 0 ≤ n ∧ n ≤ 4294967295) :
    Calls Tryz.prog 37 #[.slice (some x) zs.length cap, .int .u32 n, .int .i64 1] w fun e w' => ∃ v, e = .returned v ∧ Own w' w.heap.size v (zs ++ leB n 1) ∧ Below w.heap.size w w' := by
  obtain ⟨i0, hi, hz0, hz1, hz2⟩ := info_parts Tryz.info5
  have hc := lies_olds hl ((Below.refl w.heap.size w).alloc (Nat.le_refl _) (.cells #[] 5)) x rfl
  go_enter Tryz.func37, Tryz.ntmps37
  go_wp2_with (at_builtin; go_must (refine wpList_append_own _ rfl (.tmp 9) (.tmp 10) 22 rfl w.heap.size 5 i0 (.int .u8 0) 1 1 Tryz.underlying22 hi hz0 hz1 hz2 rfl (by decide) _ 0 [] rfl (World.ownsRow_lit w #[] 0 (Nat.le_refl _) (Nat.zero_le _) rfl) x zs.length cap (cellsOf zs) rfl (by simp [cellsOf_length]) hc (cellsOf_one zs) (by unfold maxLen; omega) (by omega) (by simp) ?_); intro v1 w1 hown1 hgrow1 _)
  have hs1 : Own w1 w.heap.size v1 (zs ++ leB n 0) := by simpa [Own, leB] using hown1
  have hs2 : Below w.heap.size w w1 := ((Below.refl _ _).alloc (Nat.le_refl _) _).grown hgrow1 (by simp) (fun k hk => by cases hk; exact Nat.le_refl _)
  clear hown1 hgrow1 hc hl
  go_loopw [7, 8] (fun v i wr => ∃ j : Nat, j ≤ 1 ∧ i = .int .i64 j ∧ Own wr w.heap.size v (zs ++ leB n j) ∧ Below w.heap.size w wr) (fun _ i _ => 1 - (intOf i).toNat)
  case atStart => exact ⟨0, Nat.zero_le _, rfl, hs1, hs2⟩
  case round =>
    obtain ⟨j, hj, rfl, hown, hb⟩ := hrel
    by_cases hlt : j < 1
    · have hq : 0 ≤ n / 2 ^ (8 * j) ∧ n / 2 ^ (8 * j) ≤ 4294967295 := by rw [pow256]; exact div_bd n j hn
      go_wp2_with (at_builtin; go_must (refine wpList_append_own _ rfl (.tmp 28) (.tmp 35) 22 rfl w.heap.size 5 i0 (.int .u8 0) 1 1 Tryz.underlying22 hi hz0 hz1 hz2 rfl (by decide) _ _ _ rfl (hown.alloc _) ⟨wr.heap.size, 0, none⟩ 1 1 [.int .u8 (n / 2 ^ (8 * j) % 256)] rfl rfl (cell_one_new _ _ _) (by intro u hu; simp at hu; subst hu; rfl) (by simp [leB_length]; unfold maxLen; omega) (by simp [leB_length]; omega) (by have := hb.size; simp; omega) ?_); intro v' w2 hown2 hgrow2 _)
      have hown' : Own w2 w.heap.size v' (zs ++ leB n (j + 1)) := by
        rw [leB_snoc, ← List.append_assoc, ← pow256]
        exact own_push (k := 0) hown2
      have hb' : Below w.heap.size w w2 := (hb.alloc hb.size _).grown hgrow2 (by have := hb.size; simp; omega) (fun k hk => (hown.lt k hk).1)
      clear hown hown2 hgrow2 hb
      go_roundw
      case rel => exact ⟨j + 1, by omega, by go_num, hown', hb'⟩
      case measure => simp [intOf]; omega
    · go_wp2
      go_ret
      have e : j = 1 := by omega
      subst e
      exact ⟨_, rfl, hown, hb⟩

theorem refPut_none1 (n : Int) (w : World) (hn : 0 ≤ n ∧ n ≤ 4294967295) :
    Calls Tryz.prog 37 #[.slice none 0 0, .int .u32 n, .int .i64 1] w fun e w' => ∃ v, e = .returned v ∧ Own w' w.heap.size v (([] : List Int) ++ leB n 1) ∧ Below w.heap.size w w' := by
  obtain ⟨i0, hi, hz0, hz1, hz2⟩ := info_parts Tryz.info5
  obtain ⟨zs, hzs⟩ : ∃ zs : List Int, zs = [] := ⟨_, rfl⟩
  rw [← hzs]
  have hm : zs.length + 4 ≤ 140737488355328 := by rw [hzs]; simp
  have hs1 : Own (w.alloc (.cells #[] 5)) w.heap.size (.slice (some ⟨w.heap.size, 0, none⟩) 0 0) (zs ++ leB n 0) := by rw [hzs]; exact World.ownsRow_lit w #[] 0 (Nat.le_refl _) (Nat.zero_le _) rfl
  have hs2 : Below w.heap.size w (w.alloc (.cells #[] 5)) := (Below.refl _ _).alloc (Nat.le_refl _) _
  clear hzs
  go_enter Tryz.func37, Tryz.ntmps37
  go_wp2_with (at_builtin; go_must (refine wpList_append_own_none rfl (.tmp 9) (.tmp 10) 22 rfl w.heap.size 5 i0 1 Tryz.underlying22 hi _ 0 [] rfl (World.ownsRow_lit w #[] 0 (Nat.le_refl _) (Nat.zero_le _) rfl) rfl ?_))
  go_loopw [7, 8] (fun v i wr => ∃ j : Nat, j ≤ 1 ∧ i = .int .i64 j ∧ Own wr w.heap.size v (zs ++ leB n j) ∧ Below w.heap.size w wr) (fun _ i _ => 1 - (intOf i).toNat)
  case atStart => exact ⟨0, Nat.zero_le _, rfl, hs1, hs2⟩
  case round =>
    obtain ⟨j, hj, rfl, hown, hb⟩ := hrel
    by_cases hlt : j < 1
    · have hq : 0 ≤ n / 2 ^ (8 * j) ∧ n / 2 ^ (8 * j) ≤ 4294967295 := by rw [pow256]; exact div_bd n j hn
      go_wp2_with (at_builtin; go_must (refine wpList_append_own _ rfl (.tmp 28) (.tmp 35) 22 rfl w.heap.size 5 i0 (.int .u8 0) 1 1 Tryz.underlying22 hi hz0 hz1 hz2 rfl (by decide) _ _ _ rfl (hown.alloc _) ⟨wr.heap.size, 0, none⟩ 1 1 [.int .u8 (n / 2 ^ (8 * j) % 256)] rfl rfl (cell_one_new _ _ _) (by intro u hu; simp at hu; subst hu; rfl) (by simp [leB_length]; unfold maxLen; omega) (by simp [leB_length]; omega) (by have := hb.size; simp; omega) ?_); intro v' w2 hown2 hgrow2 _)
      have hown' : Own w2 w.heap.size v' (zs ++ leB n (j + 1)) := by
        rw [leB_snoc, ← List.append_assoc, ← pow256]
        exact own_push (k := 0) hown2
      have hb' : Below w.heap.size w w2 := (hb.alloc hb.size _).grown hgrow2 (by have := hb.size; simp; omega) (fun k hk => (hown.lt k hk).1)
      clear hown hown2 hgrow2 hb
      go_roundw
      case rel => exact ⟨j + 1, by omega, by go_num, hown', hb'⟩
      case measure => simp [intOf]; omega
    · go_wp2
      go_ret
      have e : j = 1 := by omega
      subst e
      exact ⟨_, rfl, hown, hb⟩

theorem refPut_some2 (x : Addr) (cap : Nat) (zs : List Int) (n : Int) (w : World) (hl : Lies w (some x) zs) (hm : zs.length + 4 ≤ 140737488355328) (hn : 0 ≤ n ∧ n ≤ 4294967295) :
    Calls Tryz.prog 37 #[.slice (some x) zs.length cap, .int .u32 n, .int .i64 2] w fun e w' => ∃ v, e = .returned v ∧ Own w' w.heap.size v (zs ++ leB n 2) ∧ Below w.heap.size w w' := by
  obtain ⟨i0, hi, hz0, hz1, hz2⟩ := info_parts Tryz.info5
  have hc := lies_olds hl ((Below.refl w.heap.size w).alloc (Nat.le_refl _) (.cells #[] 5)) x rfl
  go_enter Tryz.func37, Tryz.ntmps37
  go_wp2_with (at_builtin; go_must (refine wpList_append_own _ rfl (.tmp 9) (.tmp 10) 22 rfl w.heap.size 5 i0 (.int .u8 0) 1 1 Tryz.underlying22 hi hz0 hz1 hz2 rfl (by decide) _ 0 [] rfl (World.ownsRow_lit w #[] 0 (Nat.le_refl _) (Nat.zero_le _) rfl) x zs.length cap (cellsOf zs) rfl (by simp [cellsOf_length]) hc (cellsOf_one zs) (by unfold maxLen; omega) (by omega) (by simp) ?_); intro v1 w1 hown1 hgrow1 _)
  have hs1 : Own w1 w.heap.size v1 (zs ++ leB n 0) := by simpa [Own, leB] using hown1
  have hs2 : Below w.heap.size w w1 := ((Below.refl _ _).alloc (Nat.le_refl _) _).grown hgrow1 (by simp) (fun k hk => by cases hk; exact Nat.le_refl _)
  clear hown1 hgrow1 hc hl
  go_loopw [7, 8] (fun v i wr => ∃ j : Nat, j ≤ 2 ∧ i = .int .i64 j ∧ Own wr w.heap.size v (zs ++ leB n j) ∧ Below w.heap.size w wr) (fun _ i _ => 2 - (intOf i).toNat)
  case atStart => exact ⟨0, Nat.zero_le _, rfl, hs1, hs2⟩
  case round =>
    obtain ⟨j, hj, rfl, hown, hb⟩ := hrel
    by_cases hlt : j < 2
    · have hq : 0 ≤ n / 2 ^ (8 * j) ∧ n / 2 ^ (8 * j) ≤ 4294967295 := by rw [pow256]; exact div_bd n j hn
      go_wp2_with (at_builtin; go_must (refine wpList_append_own _ rfl (.tmp 28) (.tmp 35) 22 rfl w.heap.size 5 i0 (.int .u8 0) 1 1 Tryz.underlying22 hi hz0 hz1 hz2 rfl (by decide) _ _ _ rfl (hown.alloc _) ⟨wr.heap.size, 0, none⟩ 1 1 [.int .u8 (n / 2 ^ (8 * j) % 256)] rfl rfl (cell_one_new _ _ _) (by intro u hu; simp at hu; subst hu; rfl) (by simp [leB_length]; unfold maxLen; omega) (by simp [leB_length]; omega) (by have := hb.size; simp; omega) ?_); intro v' w2 hown2 hgrow2 _)
      have hown' : Own w2 w.heap.size v' (zs ++ leB n (j + 1)) := by
        rw [leB_snoc, ← List.append_assoc, ← pow256]
        exact own_push (k := 0) hown2
      have hb' : Below w.heap.size w w2 := (hb.alloc hb.size _).grown hgrow2 (by have := hb.size; simp; omega) (fun k hk => (hown.lt k hk).1)
      clear hown hown2 hgrow2 hb
      go_roundw
      case rel => exact ⟨j + 1, by omega, by go_num, hown', hb'⟩
      case measure => simp [intOf]; omega
    · go_wp2
      go_ret
      have e : j = 2 := by omega
      subst e
      exact ⟨_, rfl, hown, hb⟩

theorem refPut_none2 (n : Int) (w : World) (hn : 0 ≤ n ∧ n ≤ 4294967295) :
    Calls Tryz.prog 37 #[.slice none 0 0, .int .u32 n, .int .i64 2] w fun e w' => ∃ v, e = .returned v ∧ Own w' w.heap.size v (([] : List Int) ++ leB n 2) ∧ Below w.heap.size w w' := by
  obtain ⟨i0, hi, hz0, hz1, hz2⟩ := info_parts Tryz.info5
  obtain ⟨zs, hzs⟩ : ∃ zs : List Int, zs = [] := ⟨_, rfl⟩
  rw [← hzs]
  have hm : zs.length + 4 ≤ 140737488355328 := by rw [hzs]; simp
  have hs1 : Own (w.alloc (.cells #[] 5)) w.heap.size (.slice (some ⟨w.heap.size, 0, none⟩) 0 0) (zs ++ leB n 0) := by rw [hzs]; exact World.ownsRow_lit w #[] 0 (Nat.le_refl _) (Nat.zero_le _) rfl
  have hs2 : Below w.heap.size w (w.alloc (.cells #[] 5)) := (Below.refl _ _).alloc (Nat.le_refl _) _
  clear hzs
  go_enter Tryz.func37, Tryz.ntmps37
  go_wp2_with (at_builtin; go_must (refine wpList_append_own_none rfl (.tmp 9) (.tmp 10) 22 rfl w.heap.size 5 i0 1 Tryz.underlying22 hi _ 0 [] rfl (World.ownsRow_lit w #[] 0 (Nat.le_refl _) (Nat.zero_le _) rfl) rfl ?_))
  go_loopw [7, 8] (fun v i wr => ∃ j : Nat, j ≤ 2 ∧ i = .int .i64 j ∧ Own wr w.heap.size v (zs ++ leB n j) ∧ Below w.heap.size w wr) (fun _ i _ => 2 - (intOf i).toNat)
  case atStart => exact ⟨0, Nat.zero_le _, rfl, hs1, hs2⟩
  case round =>
    obtain ⟨j, hj, rfl, hown, hb⟩ := hrel
    by_cases hlt : j < 2
    · have hq : 0 ≤ n / 2 ^ (8 * j) ∧ n / 2 ^ (8 * j) ≤ 4294967295 := by rw [pow256]; exact div_bd n j hn
      go_wp2_with (at_builtin; go_must (refine wpList_append_own _ rfl (.tmp 28) (.tmp 35) 22 rfl w.heap.size 5 i0 (.int .u8 0) 1 1 Tryz.underlying22 hi hz0 hz1 hz2 rfl (by decide) _ _ _ rfl (hown.alloc _) ⟨wr.heap.size, 0, none⟩ 1 1 [.int .u8 (n / 2 ^ (8 * j) % 256)] rfl rfl (cell_one_new _ _ _) (by intro u hu; simp at hu; subst hu; rfl) (by simp [leB_length]; unfold maxLen; omega) (by simp [leB_length]; omega) (by have := hb.size; simp; omega) ?_); intro v' w2 hown2 hgrow2 _)
      have hown' : Own w2 w.heap.size v' (zs ++ leB n (j + 1)) := by
        rw [leB_snoc, ← List.append_assoc, ← pow256]
        exact own_push (k := 0) hown2
      have hb' : Below w.heap.size w w2 := (hb.alloc hb.size _).grown hgrow2 (by have := hb.size; simp; omega) (fun k hk => (hown.lt k hk).1)
      clear hown hown2 hgrow2 hb
      go_roundw
      case rel => exact ⟨j + 1, by omega, by go_num, hown', hb'⟩
      case measure => simp [intOf]; omega
    · go_wp2
      go_ret
      have e : j = 2 := by omega
      subst e
      exact ⟨_, rfl, hown, hb⟩

theorem refPut_some4 (x : Addr) (cap : Nat) (zs : List Int) (n : Int) (w : World) (hl : Lies w (some x) zs) (hm : zs.length + 4 ≤ 140737488355328) (hn : 0 ≤ n ∧ n ≤ 4294967295) :
    Calls Tryz.prog 37 #[.slice (some x) zs.length cap, .int .u32 n, .int .i64 4] w fun e w' => ∃ v, e = .returned v ∧ Own w' w.heap.size v (zs ++ leB n 4) ∧ Below w.heap.size w w' := by
  obtain ⟨i0, hi, hz0, hz1, hz2⟩ := info_parts Tryz.info5
  have hc := lies_olds hl ((Below.refl w.heap.size w).alloc (Nat.le_refl _) (.cells #[] 5)) x rfl
  go_enter Tryz.func37, Tryz.ntmps37
  go_wp2_with (at_builtin; go_must (refine wpList_append_own _ rfl (.tmp 9) (.tmp 10) 22 rfl w.heap.size 5 i0 (.int .u8 0) 1 1 Tryz.underlying22 hi hz0 hz1 hz2 rfl (by decide) _ 0 [] rfl (World.ownsRow_lit w #[] 0 (Nat.le_refl _) (Nat.zero_le _) rfl) x zs.length cap (cellsOf zs) rfl (by simp [cellsOf_length]) hc (cellsOf_one zs) (by unfold maxLen; omega) (by omega) (by simp) ?_); intro v1 w1 hown1 hgrow1 _)
  have hs1 : Own w1 w.heap.size v1 (zs ++ leB n 0) := by simpa [Own, leB] using hown1
  have hs2 : Below w.heap.size w w1 := ((Below.refl _ _).alloc (Nat.le_refl _) _).grown hgrow1 (by simp) (fun k hk => by cases hk; exact Nat.le_refl _)
  clear hown1 hgrow1 hc hl
  go_loopw [7, 8] (fun v i wr => ∃ j : Nat, j ≤ 4 ∧ i = .int .i64 j ∧ Own wr w.heap.size v (zs ++ leB n j) ∧ Below w.heap.size w wr) (fun _ i _ => 4 - (intOf i).toNat)
  case atStart => exact ⟨0, Nat.zero_le _, rfl, hs1, hs2⟩
  case round =>
    obtain ⟨j, hj, rfl, hown, hb⟩ := hrel
    by_cases hlt : j < 4
    · have hq : 0 ≤ n / 2 ^ (8 * j) ∧ n / 2 ^ (8 * j) ≤ 4294967295 := by rw [pow256]; exact div_bd n j hn
      go_wp2_with (at_builtin; go_must (refine wpList_append_own _ rfl (.tmp 28) (.tmp 35) 22 rfl w.heap.size 5 i0 (.int .u8 0) 1 1 Tryz.underlying22 hi hz0 hz1 hz2 rfl (by decide) _ _ _ rfl (hown.alloc _) ⟨wr.heap.size, 0, none⟩ 1 1 [.int .u8 (n / 2 ^ (8 * j) % 256)] rfl rfl (cell_one_new _ _ _) (by intro u hu; simp at hu; subst hu; rfl) (by simp [leB_length]; unfold maxLen; omega) (by simp [leB_length]; omega) (by have := hb.size; simp; omega) ?_); intro v' w2 hown2 hgrow2 _)
      have hown' : Own w2 w.heap.size v' (zs ++ leB n (j + 1)) := by
        rw [leB_snoc, ← List.append_assoc, ← pow256]
        exact own_push (k := 0) hown2
      have hb' : Below w.heap.size w w2 := (hb.alloc hb.size _).grown hgrow2 (by have := hb.size; simp; omega) (fun k hk => (hown.lt k hk).1)
      clear hown hown2 hgrow2 hb
      go_roundw
      case rel => exact ⟨j + 1, by omega, by go_num, hown', hb'⟩
      case measure => simp [intOf]; omega
    · go_wp2
      go_ret
      have e : j = 4 := by omega
      subst e
      exact ⟨_, rfl, hown, hb⟩

theorem refPut_none4 (n : Int) (w : World) (hn : 0 ≤ n ∧ n ≤ 4294967295) :
    Calls Tryz.prog 37 #[.slice none 0 0, .int .u32 n, .int .i64 4] w fun e w' => ∃ v, e = .returned v ∧ Own w' w.heap.size v (([] : List Int) ++ leB n 4) ∧ Below w.heap.size w w' := by
  obtain ⟨i0, hi, hz0, hz1, hz2⟩ := info_parts Tryz.info5
  obtain ⟨zs, hzs⟩ : ∃ zs : List Int, zs = [] := ⟨_, rfl⟩
  rw [← hzs]
  have hm : zs.length + 4 ≤ 140737488355328 := by rw [hzs]; simp
  have hs1 : Own (w.alloc (.cells #[] 5)) w.heap.size (.slice (some ⟨w.heap.size, 0, none⟩) 0 0) (zs ++ leB n 0) := by rw [hzs]; exact World.ownsRow_lit w #[] 0 (Nat.le_refl _) (Nat.zero_le _) rfl
  have hs2 : Below w.heap.size w (w.alloc (.cells #[] 5)) := (Below.refl _ _).alloc (Nat.le_refl _) _
  clear hzs
  go_enter Tryz.func37, Tryz.ntmps37
  go_wp2_with (at_builtin; go_must (refine wpList_append_own_none rfl (.tmp 9) (.tmp 10) 22 rfl w.heap.size 5 i0 1 Tryz.underlying22 hi _ 0 [] rfl (World.ownsRow_lit w #[] 0 (Nat.le_refl _) (Nat.zero_le _) rfl) rfl ?_))
  go_loopw [7, 8] (fun v i wr => ∃ j : Nat, j ≤ 4 ∧ i = .int .i64 j ∧ Own wr w.heap.size v (zs ++ leB n j) ∧ Below w.heap.size w wr) (fun _ i _ => 4 - (intOf i).toNat)
  case atStart => exact ⟨0, Nat.zero_le _, rfl, hs1, hs2⟩
  case round =>
    obtain ⟨j, hj, rfl, hown, hb⟩ := hrel
    by_cases hlt : j < 4
    · have hq : 0 ≤ n / 2 ^ (8 * j) ∧ n / 2 ^ (8 * j) ≤ 4294967295 := by rw [pow256]; exact div_bd n j hn
      go_wp2_with (at_builtin; go_must (refine wpList_append_own _ rfl (.tmp 28) (.tmp 35) 22 rfl w.heap.size 5 i0 (.int .u8 0) 1 1 Tryz.underlying22 hi hz0 hz1 hz2 rfl (by decide) _ _ _ rfl (hown.alloc _) ⟨wr.heap.size, 0, none⟩ 1 1 [.int .u8 (n / 2 ^ (8 * j) % 256)] rfl rfl (cell_one_new _ _ _) (by intro u hu; simp at hu; subst hu; rfl) (by simp [leB_length]; unfold maxLen; omega) (by simp [leB_length]; omega) (by have := hb.size; simp; omega) ?_); intro v' w2 hown2 hgrow2 _)
      have hown' : Own w2 w.heap.size v' (zs ++ leB n (j + 1)) := by
        rw [leB_snoc, ← List.append_assoc, ← pow256]
        exact own_push (k := 0) hown2
      have hb' : Below w.heap.size w w2 := (hb.alloc hb.size _).grown hgrow2 (by have := hb.size; simp; omega) (fun k hk => (hown.lt k hk).1)
      clear hown hown2 hgrow2 hb
      go_roundw
      case rel => exact ⟨j + 1, by omega, by go_num, hown', hb'⟩
      case measure => simp [intOf]; omega
    · go_wp2
      go_ret
      have e : j = 4 := by omega
      subst e
      exact ⟨_, rfl, hown, hb⟩

theorem refPut_any (a : Option Addr) (cap : Nat) (zs : List Int) (n width : Int) (w : World) (hl : Lies w a zs) (hna : a = none → zs.length = 0 ∧ cap = 0) (hm : zs.length + 4 ≤ 140737488355328) (hn : 0 ≤ n ∧ n ≤ 4294967295) :
    Calls Tryz.prog 37 #[.slice a zs.length cap, .int .u32 n, .int .i64 width] w fun e w' => ∃ v, e = .returned v ∧ Own w' w.heap.size v (putL zs n width) ∧ Below w.heap.size w w' := by
  cases hW : isW width
  · have e : putL zs n width = zs := by simp [putL, hW]
    rw [e]
    exact refPut_bad a cap zs n width w hl hna hW hm
  · have e : putL zs n width = zs ++ leB n width.toNat := by simp [putL, hW]
    rw [e]
    cases a with
    | none =>
      obtain ⟨hz, rfl⟩ := hna rfl
      obtain rfl := List.length_eq_zero_iff.1 hz
      rcases isW_cases hW with rfl | rfl | rfl
      · exact refPut_none1 n w hn
      · exact refPut_none2 n w hn
      · exact refPut_none4 n w hn
    | some x =>
      rcases isW_cases hW with rfl | rfl | rfl
      · exact refPut_some1 x cap zs n w hl hm hn
      · exact refPut_some2 x cap zs n w hl hm hn
      · exact refPut_some4 x cap zs n w hl hm hn

theorem leB_mod (m : Int) : leB (m % 65536 % 4294967296) 2 = leB (m % 4294967296) 2 := by
  simp only [leB]
  congr 1
  · omega
  · congr 1
    omega

theorem refPutText_any (a : Option Addr) (cap : Nat) (zs : List Int) (s : ByteArray) (w : World) (hl : Lies w a zs) (hna : a = none → zs.length = 0 ∧ cap = 0) (hm : zs.length + 4 + s.size ≤ 140737488355328) :
    Calls Tryz.prog 40 #[.slice a zs.length cap, .string s] w fun e w' => ∃ v, e = .returned v ∧ Own w' w.heap.size v (putT zs s) ∧ Below w.heap.size w w' := by
  obtain ⟨i0, hi, hz0, hz1, hz2⟩ := info_parts Tryz.info5
  have hp := refPut_any a cap zs ((s.size : Int) % 65536) 2 w hl hna (by omega) (by omega)
  have hL : (putL zs ((s.size : Int) % 65536) 2).length = zs.length + 2 := by simp [putL, isW, leB_length]
  go_enter Tryz.func40, Tryz.ntmps40
  go_wp2_with (first
    | (go_at_call 37; go_must (refine hp.mono ?_); rintro e w1 ⟨v, rfl, hown, hb⟩)
    | (at_builtin; go_must (refine Lib.wpList_append_own_string _ rfl (.tmp 10) (.tmp 11) 22 9 rfl w.heap.size 5 i0 Tryz.underlying22 Tryz.underlying9 hi hz0 hz1 hz2 _ _ _ rfl hown s rfl (by rw [hL]; unfold maxLen; omega) (by rw [hL]; omega) hb.size ?_); intro v' w2 hown2 hgrow2 _))
  go_ret
  refine ⟨_, rfl, ?_, hb.grown hgrow2 hb.size (fun k hk => (hown.lt k hk).1)⟩
  rw [strCells_eq] at hown2
  have e0 : leB ((s.size : Int) % 65536) 2 = leB ((s.size : Int) % 4294967296) 2 := by
    rw [← leB_mod]
    congr 1
    omega
  have e1 : putT zs s = putL zs ((s.size : Int) % 65536) 2 ++ numsOf s := by simp [putT, putL, isW, e0]
  unfold Own
  rw [e1, List.length_append, numsOf_length]
  simpa [cellsOf] using hown2

end Go.Proofs.YtmndccbeddaphaaGreatDoor.O

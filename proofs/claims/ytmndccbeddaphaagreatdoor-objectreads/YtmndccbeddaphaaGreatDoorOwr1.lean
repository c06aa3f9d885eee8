/- object's writer in memory: number, text. -/
import Derived.Test.YtmndccbeddaphaaGreatDoorOcBook
import Derived.Laws.AppendOwnNone
import Derived.Lib.AppendStr
import Derived.Test.YtmndccbeddaphaaGreatDoorProg
import Derived.Deep.RegionHeld3
import Derived.Test.YtmndccbeddaphaaGreatDoorOrd4
import Derived.Test.YtmndccbeddaphaaGreatDoorShx
/- Contracts of octet.Put, octet.PutText and of the document's Put and PutText: what they answer lies in new memory. -/
namespace Go.Proofs.YtmndccbeddaphaaGreatDoor.O
open Go.ChangeShapes Go.WideShapes Go.ChangeAt Go.RowKit
set_option linter.unusedVariables false
set_option maxRecDepth 100000
def Own (w : World) (base : Nat) (v : Value) (zs : List Int) : Prop := w.ownsRow base 5 1 v zs.length (cellsOf zs)
theorem Own.mono {w : World} {base base' : Nat} {v : Value} {zs : List Int} (h : Own w base v zs) (hb : base' ≤ base) : Own w base' v zs := by
  refine ⟨h.1, ?_⟩
  rcases h.2 with h | ⟨g, cap, cur, h1, h2, h3⟩
  · exact .inl h
  · exact .inr ⟨g, cap, cur, h1, by omega, h3⟩
def leB (n : Int) : Nat → List Int
  | 0 => []
  | k + 1 => n % 256 :: leB (n / 256) k
theorem leB_length (n : Int) (k : Nat) : (leB n k).length = k := by
  induction k generalizing n with
  | zero => rfl
  | succ k ih => simp [leB, ih]
theorem leB_snoc (n : Int) (k : Nat) : leB n (k + 1) = leB n k ++ [n / 256 ^ k % 256] := by
  induction k generalizing n with
  | zero => simp [leB]
  | succ k ih =>
    rw [leB, ih (n / 256)]
    simp only [leB, List.cons_append]
    congr 3
    rw [Int.pow_succ, Int.mul_comm, Int.ediv_ediv]
    simp
theorem leB_bytes (n : Int) (k : Nat) : AreBytes (leB n k) := by
  induction k generalizing n with
  | zero => intro z hz; cases hz
  | succ k ih =>
    intro z hz
    simp only [leB, List.mem_cons] at hz
    rcases hz with rfl | hz
    · omega
    · exact ih _ z hz
def putL (zs : List Int) (n width : Int) : List Int := if isW width = true then zs ++ leB n width.toNat else zs
theorem lies_olds {w : World} {a : Option Addr} {zs : List Int} (hl : Lies w a zs) {w1 : World} (hb : Below w.heap.size w w1) :
    ∀ b, a = some b → ∀ j u, (cellsOf zs)[j]? = some u → w1.cell? (b.add j) = some u := by
  intro b hab j u hj
  have h0 : 0 < (cellsOf zs).length := by
    rcases Nat.eq_zero_or_pos (cellsOf zs).length with h | h
    · rw [List.length_eq_zero_iff.1 h] at hj; cases hj
    · exact h
  obtain ⟨ad, had, hc⟩ := lies_src hl hb h0
  rw [hab] at had
  cases had
  exact hc j u hj
theorem cut_any (a : Option Addr) (len cap : Nat) (w : World) (h : len ≤ cap) (hm : len ≤ maxLen) :
    Calls Tryz.prog 169 #[.slice a len cap] w fun e w' => e = .returned (.slice a len len) ∧ w' = w := by
  unfold maxLen at hm
  go_enter Tryz.func169, Tryz.ntmps169
  go_wp2
  go_ret
  exact ⟨rfl, rfl⟩
theorem put_bad (a : Option Addr) (cap : Nat) (zs : List Int) (n width : Int) (w : World) (hl : Lies w a zs) (hna : a = none → zs.length = 0 ∧ cap = 0) (hW : isW width = false) (hm : zs.length ≤ 140737488355328) :
    Calls Tryz.prog 133 #[.slice a zs.length cap, .int .u32 n, .int .i64 width] w fun e w' => ∃ v, e = .returned v ∧ Own w' w.heap.size v zs ∧ Below w.heap.size w w' := by
  obtain ⟨i0, hi, hz0, hz1, hz2⟩ := info_parts Tryz.info5
  cases a with
  | none =>
    obtain ⟨hz, rfl⟩ := hna rfl
    obtain rfl := List.length_eq_zero_iff.1 hz
    go_enter Tryz.func133, Tryz.ntmps133
    go_wp2_with (first
      | (go_at_call 168; refine (isWidth_any _ _).mono ?_; rintro e w' ⟨rfl, rfl⟩)
      | (at_builtin; go_must (refine wpList_append_own_none rfl (.const (.slice none 0 0)) (.tmp 11) 22 rfl w'.heap.size 5 i0 1 Tryz.underlying22 hi _ 0 [] rfl (World.ownsRow_nil _ _ _ _) rfl ?_)))
    go_ret
    exact ⟨_, rfl, World.ownsRow_nil _ _ _ _, Below.refl _ _⟩
  | some x =>
    have hc := lies_olds hl (Below.refl _ _) x rfl
    go_enter Tryz.func133, Tryz.ntmps133
    go_wp2_with (first
      | (go_at_call 168; refine (isWidth_any _ _).mono ?_; rintro e w' ⟨rfl, rfl⟩)
      | (at_builtin; go_must (refine wpList_append_own _ rfl (.const (.slice none 0 0)) (.tmp 11) 22 rfl w'.heap.size 5 i0 (.int .u8 0) 1 1 Tryz.underlying22 hi hz0 hz1 hz2 rfl (by decide) _ 0 [] rfl (World.ownsRow_nil _ _ _ _) x zs.length cap (cellsOf zs) rfl (by simp [cellsOf_length]) hc (cellsOf_one zs) (by unfold maxLen; omega) (by omega) (Nat.le_refl _) ?_); intro v' w1 hown hgrow _))
    go_ret
    refine ⟨_, rfl, ?_, ?_⟩
    · simpa [Own] using hown
    · exact (Below.refl _ _).grown hgrow (Nat.le_refl _) (fun k hk => by cases hk)
theorem own_push {w : World} {base : Nat} {v : Value} {zs : List Int} {z : Int} {k : Nat} (h : w.ownsRow base 5 1 v (zs.length + 1) (cellsOf zs ++ [.int .u8 z])) : Own w base v (zs ++ [z]) := by
  have e1 : (zs ++ [z]).length = zs.length + 1 := by simp
  have e2 : cellsOf (zs ++ [z]) = cellsOf zs ++ [.int .u8 z] := by simp [cellsOf]
  unfold Own
  rw [e1, e2]
  exact h
theorem div_step (n : Int) (j : Nat) : n / 256 ^ j / 256 = n / 256 ^ (j + 1) := by
  have h : ¬ (256 : Int) ^ j < 0 := by
    have := Int.pow_pos (n := 256) (m := j) (by omega)
    omega
  rw [Int.pow_succ, Int.ediv_ediv]
  simp [h]
theorem div_bd (n : Int) (j : Nat) (hn : 0 ≤ n ∧ n ≤ 4294967295) : 0 ≤ n / 256 ^ j ∧ n / 256 ^ j ≤ 4294967295 := by
  have hp : (0 : Int) < 256 ^ j := Int.pow_pos (by omega)
  have h1 : 0 ≤ n / 256 ^ j := Int.ediv_nonneg hn.1 (by omega)
  have h2 : n / 256 ^ j ≤ n := Int.ediv_le_self _ hn.1
  omega
theorem put_ok (a : Option Addr) (cap wd : Nat) (zs : List Int) (n : Int) (w : World) (hl : Lies w a zs) (hna : a = none → zs.length = 0 ∧ cap = 0) (hcap : zs.length ≤ cap) (hw : wd = 1 ∨ wd = 2 ∨ wd = 4) (hm : zs.length + 4 ≤ 140737488355328) (hn : 0 ≤ n ∧ n ≤ 4294967295) :
    Calls Tryz.prog 133 #[.slice a zs.length cap, .int .u32 n, .int .i64 wd] w fun e w' => ∃ v, e = .returned v ∧ Own w' w.heap.size v (zs ++ leB n wd) ∧ Below w.heap.size w w' := by
  obtain ⟨i0, hi, hz0, hz1, hz2⟩ := info_parts Tryz.info5
  have hW : isW (wd : Int) = true := by rcases hw with rfl | rfl | rfl <;> rfl
  have hw1 : 1 ≤ wd := by omega
  have hw4 : wd ≤ 4 := by omega
  have hmm : zs.length ≤ maxLen := by unfold maxLen; omega
  go_enter Tryz.func133, Tryz.ntmps133
  go_wp2_with (first
    | (go_at_call 168; refine (isWidth_any _ _).mono ?_; rintro e w' ⟨rfl, rfl⟩)
    | (go_at_call 169; refine (cut_any _ _ _ _ hcap hmm).mono ?_; rintro e w' ⟨rfl, rfl⟩))
  go_loopw [1, 7, 16] (fun nn v i wr => ∃ j : Nat, j ≤ wd ∧ i = .int .i64 j ∧ nn = .int .u32 (n / 256 ^ j) ∧ ((j = 0 ∧ v = .slice a zs.length zs.length ∧ wr = w') ∨ (1 ≤ j ∧ Own wr w'.heap.size v (zs ++ leB n j) ∧ Below w'.heap.size w' wr))) (fun _ _ i _ => wd - (intOf i).toNat)
  case atStart => exact ⟨0, Nat.zero_le _, rfl, by simp, .inl ⟨rfl, rfl, rfl⟩⟩
  case round =>
    obtain ⟨j, hj, rfl, rfl, hcase⟩ := hrel
    rcases hcase with ⟨rfl, rfl, rfl⟩ | ⟨h1, hown, hb⟩
    · have hls := lies_olds hl ((Below.refl wr.heap.size wr).alloc (Nat.le_refl _) (.cells #[.int .u8 (n % 256)] 5))
      have hnn : a = none → zs.length = 0 ∧ zs.length = 0 := fun h => ⟨(hna h).1, (hna h).1⟩
      go_wp2_with (first
        | (at_builtin; go_must (refine wpList_append_grows _ rfl (.tmp 18) (.tmp 21) 22 rfl 5 i0 (.int .u8 0) 1 1 Tryz.underlying22 hi hz0 hz1 hz2 rfl (by decide) a zs.length zs.length (cellsOf zs) rfl hnn (by simp [cellsOf_length]) hls ⟨wr.heap.size, 0, none⟩ 1 1 [.int .u8 (n % 256)] rfl rfl (cell_one_new _ _ _) (by intro u hu; simp at hu; subst hu; rfl) (by omega) (by unfold maxLen; omega) (by omega) ?_); intro v' w1 hown hgrow))
      have hown' : Own w1 wr.heap.size v' (zs ++ leB n 1) := (own_push (k := 0) hown).mono (by simp)
      have hb' : Below wr.heap.size wr w1 := ((Below.refl wr.heap.size wr).alloc (Nat.le_refl _) _).grown hgrow (by simp) (fun k hk => by cases hk)
      go_roundw
      case rel =>
        exact ⟨1, by omega, by go_num, by simp, .inr ⟨Nat.le_refl _, hown', hb'⟩⟩
      case measure => simp [intOf]; omega
    · by_cases hlt : j < wd
      · have hq : 0 ≤ n / 256 ^ j ∧ n / 256 ^ j ≤ 4294967295 := div_bd n j hn
        go_wp2_with (first
          | (at_builtin; go_must (refine wpList_append_own _ rfl (.tmp 18) (.tmp 21) 22 rfl w'.heap.size 5 i0 (.int .u8 0) 1 1 Tryz.underlying22 hi hz0 hz1 hz2 rfl (by decide) _ _ _ rfl (hown.alloc _) ⟨wr.heap.size, 0, none⟩ 1 1 [.int .u8 (n / 256 ^ j % 256)] rfl rfl (cell_one_new _ _ _) (by intro u hu; simp at hu; subst hu; rfl) (by simp [leB_length]; unfold maxLen; omega) (by simp [leB_length]; omega) (by have := hb.size; simp; omega) ?_); intro v' w1 hown1 hgrow _))
        have hown' : Own w1 w'.heap.size v' (zs ++ leB n (j + 1)) := by
          rw [leB_snoc, ← List.append_assoc]
          exact own_push (k := 0) hown1
        have hb' : Below w'.heap.size w' w1 := (hb.alloc hb.size _).grown hgrow (by have := hb.size; simp; omega) (fun k hk => (hown.lt k hk).1)
        clear hown hown1 hgrow hb
        go_roundw
        case rel =>
          exact ⟨j + 1, by omega, by go_num, by rw [div_step], .inr ⟨by omega, hown', hb'⟩⟩
        case measure => simp [intOf]; omega
      · go_wp2
        go_ret
        have e : j = wd := by omega
        subst e
        exact ⟨_, rfl, hown, hb⟩
theorem put_any (a : Option Addr) (cap : Nat) (zs : List Int) (n width : Int) (w : World) (hl : Lies w a zs) (hna : a = none → zs.length = 0 ∧ cap = 0) (hcap : zs.length ≤ cap) (hm : zs.length + 4 ≤ 140737488355328) (hn : 0 ≤ n ∧ n ≤ 4294967295) :
    Calls Tryz.prog 133 #[.slice a zs.length cap, .int .u32 n, .int .i64 width] w fun e w' => ∃ v, e = .returned v ∧ Own w' w.heap.size v (putL zs n width) ∧ Below w.heap.size w w' := by
  cases hW : isW width
  · have e : putL zs n width = zs := by simp [putL, hW]
    rw [e]
    exact put_bad a cap zs n width w hl hna hW (by omega)
  · have hc := isW_cases hW
    obtain ⟨wd, rfl⟩ : ∃ wd : Nat, width = wd := ⟨width.toNat, by omega⟩
    have e : putL zs n wd = zs ++ leB n wd := by simp [putL, hW]
    rw [e]
    exact put_ok a cap wd zs n w hl hna hcap (by omega) hm hn
def numsOf (s : ByteArray) : List Int := s.data.toList.map fun b => (b.toNat : Int)
theorem numsOf_length (s : ByteArray) : (numsOf s).length = s.size := by simp [numsOf]
theorem strCells_eq (s : ByteArray) : Lib.strCells s = cellsOf (numsOf s) := by
  simp [Lib.strCells, cellsOf, numsOf]
def putT (zs : List Int) (s : ByteArray) : List Int := zs ++ leB ((s.size : Int) % 4294967296) 2 ++ numsOf s
theorem putText_any (a : Option Addr) (cap : Nat) (zs : List Int) (s : ByteArray) (w : World) (hl : Lies w a zs) (hna : a = none → zs.length = 0 ∧ cap = 0) (hcap : zs.length ≤ cap) (hm : zs.length + 4 + s.size ≤ 140737488355328) :
    Calls Tryz.prog 112 #[.slice a zs.length cap, .string s] w fun e w' => ∃ v, e = .returned v ∧ Own w' w.heap.size v (putT zs s) ∧ Below w.heap.size w w' := by
  obtain ⟨i0, hi, hz0, hz1, hz2⟩ := info_parts Tryz.info5
  have hp := put_any a cap zs ((s.size : Int) % 4294967296) 2 w hl hna hcap (by omega) (by omega)
  have hL : (putL zs ((s.size : Int) % 4294967296) 2).length = zs.length + 2 := by simp [putL, isW, leB_length]
  go_enter Tryz.func112, Tryz.ntmps112
  go_wp2_with (first
    | (go_at_call 133; go_must (refine hp.mono ?_); rintro e w1 ⟨v, rfl, hown, hb⟩)
    | (at_builtin; go_must (refine Lib.wpList_append_own_string _ rfl (.tmp 11) (.tmp 12) 22 9 rfl w.heap.size 5 i0 Tryz.underlying22 Tryz.underlying9 hi hz0 hz1 hz2 _ _ _ rfl hown s rfl (by rw [hL]; unfold maxLen; omega) (by rw [hL]; omega) hb.size ?_); intro v' w2 hown2 hgrow2 _))
  go_ret
  refine ⟨_, rfl, ?_, hb.grown hgrow2 hb.size (fun k hk => (hown.lt k hk).1)⟩
  rw [strCells_eq] at hown2
  have e1 : putT zs s = putL zs ((s.size : Int) % 4294967296) 2 ++ numsOf s := by simp [putT, putL, isW]
  unfold Own
  rw [e1, List.length_append, numsOf_length]
  simpa [cellsOf] using hown2
end Go.Proofs.YtmndccbeddaphaaGreatDoor.O
/- The walk of the statement OctetPuts, where the bytes and the text are of at most some million letters. -/
namespace Go.Proofs.YtmndccbeddaphaaGreatDoor.O
open Go.ChangeShapes Go.WideShapes Go.ChangeAt Go.RowKit
set_option linter.unusedVariables false
def Got (w : World) (base : Nat) (a : Option Addr) (c : Nat) (zs : List Int) : Prop := Own w base (.slice a zs.length c) zs
theorem own_got {w : World} {base : Nat} {v : Value} {zs : List Int} (h : Own w base v zs) : ∃ a c, v = .slice a zs.length c ∧ Got w base a c zs := by
  have h' := h
  rcases h.2 with ⟨rfl, hn⟩ | ⟨g, cap, cur, rfl, hb, hg, hr⟩
  · exact ⟨none, 0, by rw [hn], by unfold Got; rw [hn]; exact h'⟩
  · exact ⟨_, _, rfl, h'⟩
theorem Got.lies {w : World} {base : Nat} {a : Option Addr} {c : Nat} {zs : List Int} (h : Got w base a c zs) (hz : AreBytes zs) : Lies w a zs := by
  refine ⟨hz, ?_⟩
  rcases h.2 with ⟨h1, hn⟩ | ⟨g, cap, cur, h1, hb, hg, hr⟩
  · exact .inl (List.length_eq_zero_iff.1 hn)
  · simp only [Value.slice.injEq, true_and] at h1
    obtain ⟨rfl, rfl⟩ := h1
    refine .inr ⟨g, 0, rfl, fun i hi => ?_⟩
    rw [Nat.zero_add, World.ownsRow.cellAt h i (by omega)]
    exact cellsOf_get zs i hi
theorem Got.none {w : World} {base : Nat} {a : Option Addr} {c : Nat} {zs : List Int} (h : Got w base a c zs) : a = none → zs.length = 0 ∧ c = 0 := by
  intro ha
  rcases h.2 with ⟨h1, hn⟩ | ⟨g, cap, cur, h1, hb, hg, hr⟩
  · simp only [Value.slice.injEq] at h1
    exact ⟨hn, h1.2.2⟩
  · simp only [Value.slice.injEq] at h1
    rw [ha] at h1
    cases h1.1
theorem Got.cap {w : World} {base : Nat} {a : Option Addr} {c : Nat} {zs : List Int} (h : Got w base a c zs) : zs.length ≤ c := by
  rcases h.2 with ⟨h1, hn⟩ | ⟨g, cap, cur, h1, hb, hg, hr, _⟩
  · omega
  · simp only [Value.slice.injEq] at h1
    omega
theorem numsOf_bytes (s : ByteArray) : AreBytes (numsOf s) := by
  intro z hz
  simp [numsOf] at hz
  obtain ⟨b, _, rfl⟩ := hz
  have := b.toNat_lt
  omega
theorem putT_bytes (zs : List Int) (s : ByteArray) (hz : AreBytes zs) : AreBytes (putT zs s) := by
  intro z hm
  simp only [putT, List.mem_append] at hm
  rcases hm with (h | h) | h
  · exact hz z h
  · exact leB_bytes _ _ z h
  · exact numsOf_bytes _ z h
theorem putT_length (zs : List Int) (s : ByteArray) : (putT zs s).length = zs.length + 2 + s.size := by simp [putT, leB_length, numsOf_length]; omega
theorem put_got (a : Option Addr) (cap : Nat) (zs : List Int) (n width : Int) (w : World) (hl : Lies w a zs) (hna : a = none → zs.length = 0 ∧ cap = 0) (hcap : zs.length ≤ cap) (hm : zs.length + 4 ≤ 140737488355328) (hn : 0 ≤ n ∧ n ≤ 4294967295) :
    Calls Tryz.prog 133 #[.slice a zs.length cap, .int .u32 n, .int .i64 width] w fun e w' => ∃ a' c', e = .returned (.slice a' (putL zs n width).length c') ∧ Got w' w.heap.size a' c' (putL zs n width) ∧ Below w.heap.size w w' := by
  refine (put_any a cap zs n width w hl hna hcap hm hn).mono ?_
  rintro e w' ⟨v, rfl, hown, hb⟩
  obtain ⟨a', c', rfl, hg⟩ := own_got hown
  exact ⟨a', c', rfl, hg, hb⟩
theorem putText_got (a : Option Addr) (cap : Nat) (zs : List Int) (s : ByteArray) (w : World) (hl : Lies w a zs) (hna : a = none → zs.length = 0 ∧ cap = 0) (hcap : zs.length ≤ cap) (hm : zs.length + 4 + s.size ≤ 140737488355328) :
    Calls Tryz.prog 112 #[.slice a zs.length cap, .string s] w fun e w' => ∃ a' c', e = .returned (.slice a' (putT zs s).length c') ∧ Got w' w.heap.size a' c' (putT zs s) ∧ Below w.heap.size w w' := by
  refine (putText_any a cap zs s w hl hna hcap hm).mono ?_
  rintro e w' ⟨v, rfl, hown, hb⟩
  obtain ⟨a', c', rfl, hg⟩ := own_got hown
  exact ⟨a', c', rfl, hg, hb⟩
theorem intact_bel (a : Option Addr) (g cap : Nat) (zs : List Int) (m : Int) (w : World) (hl : Lies w a zs) (hr : RowIs w g (zs ++ List.replicate 80 m)) (hm : zs.length ≤ 140737488355328) :
    Calls Tryz.prog 19 #[.slice (some ⟨g, 0, none⟩) (zs.length + 80) (zs.length + 80), .slice a zs.length cap, .int .u8 m] w fun e w' => e = .returned (.bool true) ∧ Below w.heap.size w w' := by
  refine (intact_any a g cap zs m w hl hr hm).mono ?_
  rintro e w' ⟨rfl, n, rfl⟩
  exact ⟨rfl, below_drewN (Below.refl _ _) n⟩
theorem Below.go {w w1 w2 : World} (h : Below w.heap.size w w1) (h2 : Below w1.heap.size w1 w2) : Below w.heap.size w w2 := h.trans (h2.mono h.size)
theorem RowIs.on {w w' : World} {g : Nat} {zs : List Int} (h : RowIs w g zs) (hb : Below w.heap.size w w') : RowIs w' g zs := h.below hb h.lt
end Go.Proofs.YtmndccbeddaphaaGreatDoor.O
/- A region that draws its order and whose last operation, a store, waits for all others: the loads among them are taken first under a condition that the store itself ends. -/
namespace Go.Proofs.YtmndccbeddaphaaGreatDoor
set_option linter.unusedVariables false
def onsOf (ops : Array Oper) (j : Nat) : List Nat := ((ops[j]?).map fun o => (o.after.toList.filter fun e => Region.binds .any e).map (·.on)).getD []
def markF (ops : Array Oper) : Nat → List Nat → List Nat
  | 0, s => s
  | j + 1, s => markF ops j (if s.contains j then onsOf ops j ++ s else s)
def lastB (ops : Array Oper) (L : Nat) : Bool := (List.range ops.size).all fun j => (markF ops ops.size [L]).contains j && (onsOf ops j).all fun i => decide (i < j)
def ClosedL (ops : Array Oper) (listed : Array Bool) : Prop := ∀ j oj, ops[j]? = some oj → listed.getD j false = true → ∀ e ∈ oj.after, Region.binds .any e = true → listed.getD e.on false = true
theorem mem_ons {ops : Array Oper} {j i : Nat} : i ∈ onsOf ops j ↔ ∃ o, ops[j]? = some o ∧ ∃ e ∈ o.after, Region.binds .any e = true ∧ e.on = i := by
  unfold onsOf
  cases h : ops[j]? with
  | none => simp
  | some o => simp [and_assoc]
theorem mark_listed {ops : Array Oper} {listed : Array Bool} (hc : ClosedL ops listed) {L : Nat} (hL : L ∈ Region.ready .any ops listed) : ∀ (n : Nat) (s : List Nat), (∀ j ∈ s, j = L ∨ listed.getD j false = true) → ∀ j ∈ markF ops n s, j = L ∨ listed.getD j false = true := by
  intro n
  induction n with
  | zero => intro s h; exact h
  | succ n ih =>
    intro s h
    refine ih _ ?_
    by_cases hn : s.contains n = true
    · rw [if_pos hn]
      intro j hj
      rcases List.mem_append.1 hj with hj | hj
      · obtain ⟨o, ho, e, he, hb, rfl⟩ := mem_ons.1 hj
        right
        rcases h n (by simpa using hn) with rfl | hl
        · obtain ⟨_, o', ho', hall⟩ := mem_ready.1 hL
          rw [ho] at ho'
          cases ho'
          exact hall e he hb
        · exact hc n o ho hl e he hb
      · exact h j hj
    · rw [if_neg hn]
      exact h
theorem last_all {ops : Array Oper} {listed : Array Bool} (hc : ClosedL ops listed) {L : Nat} (hL : L ∈ Region.ready .any ops listed) (hb : lastB ops L = true) {j : Nat} (hj : j < ops.size) (hne : j ≠ L) : listed.getD j false = true := by
  have h := List.all_eq_true.1 hb j (List.mem_range.2 hj)
  simp only [Bool.and_eq_true] at h
  rcases mark_listed hc hL ops.size [L] (fun i hi => .inl (by simpa using hi)) j (by simpa using h.1) with h1 | h1
  · exact absurd h1 hne
  · exact h1
theorem some_ready {ops : Array Oper} {listed : Array Bool} {L : Nat} (hb : lastB ops L = true) (hs : listed.size = ops.size) : ∀ (n : Nat), n < ops.size → listed.getD n true = false → Region.ready .any ops listed ≠ [] := by
  intro n
  induction n using Nat.strongRecOn with
  | _ n ih =>
    intro hn hl h0
    by_cases hr : n ∈ Region.ready .any ops listed
    · rw [h0] at hr; cases hr
    · have h := List.all_eq_true.1 hb n (List.mem_range.2 hn)
      simp only [Bool.and_eq_true, List.all_eq_true, decide_eq_true_eq] at h
      apply hr
      refine mem_ready.2 ⟨hl, ops[n], Array.getElem?_eq_getElem hn, fun e he hbd => ?_⟩
      have hlt := h.2 e.on (mem_ons.2 ⟨_, Array.getElem?_eq_getElem hn, e, he, hbd, rfl⟩)
      cases hd : listed.getD e.on false with
      | true => rfl
      | false =>
        exfalso
        refine ih e.on hlt (by omega) ?_ h0
        have : e.on < listed.size := by omega
        simp [this] at hd ⊢
        exact hd
def noOp (o : Oper) : Oper := { o with op := .move (.const (.int .i64 0)), dst := none }
def lastQ (P : Program) (oL : Oper) (Q : Exit → Act → World → Prop) : Exit → Act → World → Prop := fun e a w => match e with
  | .normal => oL.wp P a w (fun a' w' => Q .normal a' w') Q
  | e => Q e a w
section
variable {P : Program} {ops : Array Oper} {Q : Exit → Act → World → Prop} {L : Nat} {oL : Oper}
theorem ready_swap (hL : ops[L]? = some oL) (listed : Array Bool) : Region.ready .any (ops.setIfInBounds L (noOp oL)) listed = Region.ready .any ops listed := by
  unfold Region.ready
  rw [Array.size_setIfInBounds]
  congr 1
  funext i
  by_cases h : L = i
  · subst h
    have hlt : L < ops.size := (Array.getElem?_eq_some_iff.1 hL).1
    rw [Array.getElem?_setIfInBounds_self_of_lt hlt, hL]
    rfl
  · rw [Array.getElem?_setIfInBounds_ne h]
theorem yielded_swap (hL : ops[L]? = some oL) (hd : oL.dst = none) (tmps : Array Value) : yielded (ops.setIfInBounds L (noOp oL)) tmps = yielded ops tmps := by
  funext i
  unfold yielded
  by_cases h : L = i
  · subst h
    have hlt : L < ops.size := (Array.getElem?_eq_some_iff.1 hL).1
    rw [Array.getElem?_setIfInBounds_self_of_lt hlt, hL]
    simp [noOp, hd]
  · rw [Array.getElem?_setIfInBounds_ne h]
theorem wpO_post {o : Oper} {a : Act} {w : World} {K : Act → World → Prop} {Q Q2 : Exit → Act → World → Prop} (hp : ∀ c a w, Q2 (.panic c) a w → Q (.panic c) a w) (ho : LetsOut Q2 → LetsOut Q) (h : o.wp P a w K Q2) : o.wp P a w K Q := by
  unfold Oper.wp at *
  generalize (execOp a.eval o).run P w = r at *
  cases r with
  | ok n w' =>
    cases n <;> simp only [Oper.upon] at h ⊢ <;>
      first
        | exact h
        | exact Calls.mono h (fun e w'' he => by cases e <;> first | exact he | exact hp _ _ _ he | exact ho he)
  | halt x w' => cases x <;> simp only [Oper.upon] at h ⊢ <;> exact hp _ _ _ h
theorem lets_last (h : LetsOut (lastQ P oL Q)) : LetsOut Q := h
theorem any_swap (hL : ops[L]? = some oL) (hd : oL.dst = none) (hg : oL.guard = none) (hb : lastB ops L = true) :
    ∀ (fuel : Nat) (listed : Array Bool) (a : Act) (w : World), ClosedL ops listed → listed.size = ops.size → listed.getD L true = false → wpAny P .any (ops.setIfInBounds L (noOp oL)) (lastQ P oL Q) fuel listed a w → wpAny P .any ops Q fuel listed a w := by
  have hlt : L < ops.size := (Array.getElem?_eq_some_iff.1 hL).1
  intro fuel
  induction fuel with
  | zero =>
    intro listed a w hc hs hu h
    exact absurd (by rw [← ready_swap hL]; exact h.1) (some_ready hb hs L hlt hu)
  | succ fuel ih =>
    intro listed a w hc hs hu h
    refine ⟨fun h0 => absurd h0 (some_ready hb hs L hlt hu), fun i hi => ?_⟩
    have h1 := h.2 i (by rw [ready_swap hL]; exact hi)
    by_cases e : L = i
    · subst e
      have hr0 : Region.ready .any ops (listed.setIfInBounds L true) = [] := by
        apply List.eq_nil_iff_forall_not_mem.2
        intro j hj
        obtain ⟨hj0, o, ho, _⟩ := mem_ready.1 hj
        have hjs : j < ops.size := (Array.getElem?_eq_some_iff.1 ho).1
        by_cases ej : L = j
        · subst ej
          have : L < listed.size := by omega
          simp [this] at hj0
        · rw [getD_set_ne true ej] at hj0
          have := last_all hc hi hb hjs (Ne.symm ej)
          have hl : j < listed.size := by omega
          simp [hl] at this hj0
          rw [this] at hj0
          cases hj0
      have h2 : wpAny P .any (ops.setIfInBounds L (noOp oL)) (lastQ P oL Q) fuel (listed.setIfInBounds L true) a w := by
        unfold wpOp at h1
        rw [Array.getElem?_setIfInBounds_self_of_lt hlt] at h1
        have hw : Region.wanted (noOp oL) (yielded (ops.setIfInBounds L (noOp oL)) a.tmps) = true := by simp [Region.wanted, noOp, hg]
        simp only [hw, if_true] at h1
        rcases h1 with h1 | h1
        · unfold Oper.wp at h1
          simpa [execOp, noOp, Oper.upon, Act.put] using h1
        · obtain ⟨h1, _⟩ := h1
          have h2 : noRoomEvent ∈ (((pure (.value (a.eval (.const (.int .i64 0)))) : Sem Next)).runT P w #[]).2 := h1.1
          have h3 : (((pure (.value (a.eval (.const (.int .i64 0)))) : Sem Next)).runT P w #[]).2 = #[] := rfl
          rw [h3] at h2
          simp at h2
      have h3 : lastQ P oL Q .normal a w := by
        cases fuel with
        | zero => exact h2.2
        | succ f => exact h2.1 (by rw [ready_swap hL]; exact hr0)
      unfold wpOp
      rw [hL]
      have hw : Region.wanted oL (yielded ops a.tmps) = true := by simp [Region.wanted, hg]
      simp only [hw, if_true]
      exact .inl (Oper.wp_mono (fun a' w' hq => wpAny_done hr0 hq fuel) h3)
    · have hu' : (listed.setIfInBounds i true).getD L true = false := by rw [getD_set_ne true (Ne.symm e)]; exact hu
      have hc' : ClosedL ops (listed.setIfInBounds i true) := by
        intro j oj hj hl ed he hbd
        by_cases ej : i = j
        · subst ej
          obtain ⟨_, o, ho, hall⟩ := mem_ready.1 hi
          rw [hj] at ho
          cases ho
          exact getD_set_true (hall ed he hbd)
        · rw [getD_set_ne false ej] at hl
          exact getD_set_true (hc j oj hj hl ed he hbd)
      have h2 := wpOp_mono (fun a' w' h => ih (listed.setIfInBounds i true) a' w' hc' (by simpa using hs) hu' h) h1
      unfold wpOp at h2 ⊢
      rw [Array.getElem?_setIfInBounds_ne e] at h2
      cases ho : ops[i]? with
      | none => simpa [ho] using h2
      | some o =>
        simp only [ho, yielded_swap hL hd] at h2 ⊢
        split
        · rename_i hw
          simp only [hw, if_true] at h2
          rcases h2 with h2 | ⟨h2, h3⟩
          · exact .inl (wpO_post (fun c a w h => h) (lets_last (P := P) (oL := oL)) h2)
          · exact .inr ⟨h2, lets_last (P := P) (oL := oL) h3⟩
        · rename_i hw
          simpa [hw] using h2
theorem wp_region_last {id : Nat} {a : Act} {w : World} (hm : P.follows .mixedOrders = true) (L : Nat) (oL : Oper) (hL : ops[L]? = some oL) (hd : oL.dst = none) (hg : oL.guard = none) (hb : lastB ops L = true) (S : World → Prop) (hS : S w.drew)
    (h : S w.drew → wpAnyH P .any (ops.setIfInBounds L (noOp oL)) (lastQ P oL Q) S ops.size (Array.replicate ops.size false) a w.drew) : (Code.region id ops true).wp P Q a w := by
  have hlt : L < ops.size := (Array.getElem?_eq_some_iff.1 hL).1
  refine wp_region_any hm (any_swap hL hd hg hb ops.size _ a _ ?_ (by simp) (by simp [hlt]) (wpAny_of_held _ _ _ _ (h hS)))
  intro j oj hj hl
  have hj' : j < ops.size := (Array.getElem?_eq_some_iff.1 hj).1
  simp [hj'] at hl
end
end Go.Proofs.YtmndccbeddaphaaGreatDoor
namespace Go.Proofs.YtmndccbeddaphaaGreatDoor
open Go.ChangeShapes Go.WideShapes Go.ChangeAt Go.RowKit Go.Sort
set_option linter.unusedVariables false
set_option linter.unusedSimpArgs false
set_option maxRecDepth 100000
theorem step_fnA {ops : Array Oper} {o : Oper} {a : Act} {K : Act → World → Prop} {Q : Exit → Act → World → Prop} {E : Prop} (P : Program) (w : World) (hgd : o.guard = none) (f : FuncId) (xs : Array Operand) (ts : Array TypeId)
    (ho : o.op = .call { callee := .value (.func f), args := xs, argTypes := ts }) (vs : Array Value) (hx : xs.map a.eval = vs) (fn : Func) (hf : P.funcs[f]? = some fn) (hn : fn.name ≠ "runtime.NumGoroutine") (hb : fn.body ≠ none)
    (hK : Calls P f vs w fun e w' => ∃ v, e = .returned v ∧ K (a.put o.dst v) w') :
    if Region.wanted o (yielded ops a.tmps) = true then Oper.wp P o a w K Q else E := by
  have hw : Region.wanted o (yielded ops a.tmps) = true := by simp [Region.wanted, hgd]
  rw [if_pos hw]
  have hrun : (execOp a.eval o).run P w = .ok (.enter f vs) w := by
    simp [execOp, ho, resolve, invoke, callFunc, hf, hn, hb, Deferred.ofValue, Act.eval]
    simpa [Act.eval] using hx
  unfold Oper.wp
  rw [hrun, Oper.upon_enter]
  refine hK.mono ?_
  rintro e w' ⟨v, rfl, h⟩
  exact h
theorem f133_name : Tryz.f133.name ≠ "runtime.NumGoroutine" := by decide
theorem f133_body : Tryz.f133.body ≠ none := by simp [Tryz.f133]
theorem f112_name : Tryz.f112.name ≠ "runtime.NumGoroutine" := by decide
theorem f112_body : Tryz.f112.body ≠ none := by simp [Tryz.f112]
def WRel (zs acc : List Int) : Prop := zs = acc ∨ (1048576 < zs.length ∧ 1048576 < acc.length)
theorem WRel.app {zs acc : List Int} (h : WRel zs acc) (ys : List Int) : WRel (zs ++ ys) (acc ++ ys) := by
  rcases h with rfl | ⟨h1, h2⟩
  · exact .inl rfl
  · exact .inr ⟨by simp; omega, by simp; omega⟩
theorem WRel.long {zs acc : List Int} (h : WRel zs acc) (hz : 1048576 < zs.length) (ys : List Int) : WRel zs (acc ++ ys) := by
  rcases h with rfl | ⟨h1, h2⟩
  · exact .inr ⟨hz, by simp; omega⟩
  · exact .inr ⟨hz, by simp; omega⟩
structure WG (w w' : World) (r : Nat) : Prop where
  os : w'.os = w.os
  tape : w'.tape = w.tape
  output : w'.output = w.output
  size : w.heap.size ≤ w'.heap.size
  low : ∀ j, j < r → w'.heap[j]? = w.heap[j]?
  high : ∀ j, j < w.heap.size → j ≠ r → (∀ A m, w.heap[j]? ≠ some (.cells A 5 m)) → w'.heap[j]? = w.heap[j]?
theorem WG.refl (w : World) (r : Nat) : WG w w r := ⟨rfl, rfl, rfl, Nat.le_refl _, fun _ _ => rfl, fun _ _ _ _ => rfl⟩
theorem WG.trans {w w1 w2 : World} {r : Nat} (h : WG w w1 r) (g : WG w1 w2 r) : WG w w2 r :=
  ⟨g.os.trans h.os, g.tape.trans h.tape, g.output.trans h.output, Nat.le_trans h.size g.size, fun j hj => (g.low j hj).trans (h.low j hj), fun j hj hr ht => by
    have e := h.high j hj hr ht
    exact (g.high j (Nat.lt_of_lt_of_le hj h.size) hr (fun A m => by rw [e]; exact ht A m)).trans e⟩
theorem WG.of_below {w w' : World} {r : Nat} (h : Below w.heap.size w w') (hr : r < w.heap.size) : WG w w' r := ⟨h.os, h.tape, h.output, h.size, fun j hj => h.block j (by omega), fun j hj _ _ => h.block j hj⟩
theorem WG.below {w w' : World} {r : Nat} (h : WG w w' r) : Below r w w' := ⟨h.os, h.tape, h.output, h.size, h.low⟩
theorem WG.blk {w w' : World} {r j : Nat} {A : Array Value} {T : TypeId} {m : Nat × Nat} (h : WG w w' r) (hb : w.heap[j]? = some (.cells A T m)) (hj : j ≠ r) (hT : T ≠ 5) : w'.heap[j]? = some (.cells A T m) :=
  (h.high j (blk_lt hb) hj (fun A' m' e => by rw [hb] at e; cases e; exact hT rfl)).trans hb
section
variable {w w' : World} {r : Nat} {acc zs : List Int} {k : Nat} {a : Option Addr} {c : Nat}
structure WS (w : World) (r : Nat) (acc : List Int) (k : Nat) (a : Option Addr) (c : Nat) (zs : List Int) : Prop where
  blk : w.heap[r]? = some (.cells #[.slice a zs.length c] 65 (0, 0))
  own : w.ownsRow (r + 1) 5 1 (.slice a zs.length c) zs.length (O.cellsOf zs)
  bytes : O.AreBytes zs
  rel : WRel zs acc
  few : zs.length ≤ 1048576 + k
def WX (w : World) (r : Nat) (acc : List Int) (k : Nat) : Prop := ∃ a c zs, WS w r acc k a c zs
theorem WX.more {k' : Nat} (h : WX w r acc k) (hk : k ≤ k') : WX w r acc k' := by
  obtain ⟨a, c, zs, h⟩ := h
  exact ⟨a, c, zs, h.blk, h.own, h.bytes, h.rel, by have := h.few; omega⟩
theorem WS.below (h : WS w r acc k a c zs) (hb : Below w.heap.size w w') : WS w' r acc k a c zs :=
  ⟨(hb.block r (blk_lt h.blk)).trans h.blk, own_keptB h.own hb, h.bytes, h.rel, h.few⟩
theorem WX.below (h : WX w r acc k) (hb : Below w.heap.size w w') : WX w' r acc k := by
  obtain ⟨a, c, zs, h⟩ := h
  exact ⟨a, c, zs, h.below hb⟩
theorem WX.lt (h : WX w r acc k) : r < w.heap.size := by
  obtain ⟨a, c, zs, h⟩ := h
  exact blk_lt h.blk
theorem one_read {T : TypeId} {g : Nat} {v0 : Value} (h : w.heap[g]? = some (.cells #[v0] T (0, 0))) : w.cell? ⟨g, 0, none⟩ = some v0 := (cell_blockT h 0).trans rfl
theorem WS.push (h : WS w r acc k a c zs) {ys : List Int} (hy : O.AreBytes ys) {m : Nat} (hm : ys.length ≤ m) {v' : Value} {w3 : World} (ho : w3.ownsRow (r + 1) 5 1 v' (zs.length + ys.length) (O.cellsOf zs ++ O.cellsOf ys)) (hg : w.grownBy w3 (Value.ownBlock (.slice a zs.length c))) :
    w3.cell? ⟨r, 0, none⟩ = some (.slice a zs.length c) ∧ w3.frozen? ⟨r, 0, none⟩ = false ∧ WG w (w3.setCell ⟨r, 0, none⟩ v') r ∧ WX (w3.setCell ⟨r, 0, none⟩ v') r (acc ++ ys) (k + m) := by
  have hne : some r ≠ Value.ownBlock (.slice a zs.length c) := fun e => by have := (h.own.lt r e.symm).1; omega
  have hb3 := (hg.block r (blk_lt h.blk) hne).trans h.blk
  obtain ⟨s1, s2⟩ := row_set hb3 0 v'
  have ho2 := own_low ho s2 (Nat.lt_succ_self r)
  obtain ⟨a', c', rfl⟩ := own_slice ho
  refine ⟨one_read hb3, frozen_of_row _ r 0 _ 65 hb3, ⟨s2.os.trans hg.os, s2.tape.trans hg.tape, s2.output.trans hg.output, Nat.le_trans hg.size s2.size, fun j hj => ?_, fun j hj hr ht => ?_⟩, a', c', zs ++ ys, ?_, ?_, ?_, h.rel.app ys, ?_⟩
  · have hl := blk_lt h.blk
    rw [s2.block j (by have := hg.size; omega) (fun e => by have := Option.some.inj e; omega), hg.block j (by omega) (fun e => by have := (h.own.lt j e.symm).1; omega)]
  · rw [s2.block j (Nat.lt_of_lt_of_le hj hg.size) (fun e => hr (Option.some.inj e)), hg.block j hj (fun e => ?_)]
    rcases h.own.2 with ⟨h1, _⟩ | ⟨g, cap, cur, h1, _, h2, _⟩
    · rw [h1] at e; cases e
    · rw [h1] at e
      cases e
      exact ht _ _ h2
  · rw [List.length_append]; exact s1
  · have e : O.cellsOf (zs ++ ys) = O.cellsOf zs ++ O.cellsOf ys := by simp [O.cellsOf]
    rw [e, List.length_append]
    exact ho2
  · intro z hz
    rcases List.mem_append.1 hz with hz | hz
    · exact h.bytes z hz
    · exact hy z hz
  · have := h.few; rw [List.length_append]; omega
theorem got_src {w : World} {lo : Nat} {a : Option Addr} {c : Nat} {ys : List Int} (h : O.Got w lo a c ys) : Src w (.slice a ys.length c) ys.length (O.cellsOf ys) := own_src h
theorem below_wg {w1 : World} (h : WS w r acc k a c zs) (hb : Below w.heap.size w w1) (hg : WG w1 w' r) : WG w w' r := (WG.of_below hb (blk_lt h.blk)).trans hg
theorem below_drew' (w : World) : Below w.heap.size w w.drew := (Below.refl _ w).drew
set_option maxHeartbeats 4000000 in
theorem wnum_is (h : WX w r acc k) (hk : k ≤ 100000) (n : Int) (hn : 0 ≤ n ∧ n ≤ 4294967295) (wd : Nat) (hw : wd = 1 ∨ wd = 2 ∨ wd = 4) : Calls Tryz.prog 109 #[.pointer (some ⟨r, 0, none⟩), .int .u32 n, .int .i64 (wd : Int)] w fun e w' => e = .returned (.tuple #[]) ∧ WG w w' r ∧ WX w' r (acc ++ O.leB n wd) (k + 4) := by
  obtain ⟨a, c, zs, h⟩ := h
  obtain ⟨i0, hi, hz0, hz1, hz2⟩ := info_parts O.Tryz.info5
  have hD := Hid.intro (h.below (below_drew' w))
  have hG0 := Hid.intro (fun (w' : World) (hg : WG w.drew w' r) => below_wg h (below_drew' w) hg)
  have c0 := one_read h.blk
  have hfew := h.few
  have hput : Hid (Calls Tryz.prog 133 #[.slice none 0 0, .int .u32 n, .int .i64 (wd : Int)] w.drew fun e w' => ∃ a' c', e = .returned (.slice a' (O.leB n wd).length c') ∧ O.Got w' w.drew.heap.size a' c' (O.leB n wd) ∧ Below w.drew.heap.size w.drew w') := by
    have hp := O.put_got none 0 [] n (wd : Int) w.drew ⟨fun z hz => absurd hz (by simp), .inl rfl⟩ (fun _ => ⟨rfl, rfl⟩) (Nat.le_refl 0) (by simp) hn
    have e : O.putL [] n (wd : Int) = O.leB n wd := by
      unfold O.putL
      rcases hw with rfl | rfl | rfl <;> simp [O.isW]
    rw [e] at hp
    exact hp
  have hlen : (O.leB n wd).length ≤ 4 := by rw [O.leB_length]; omega
  have hby := O.leB_bytes n wd
  generalize hY : O.leB n wd = ys at *
  clear hY
  obtain ⟨nz, hnz⟩ : ∃ nz, nz = zs.length := ⟨_, rfl⟩
  obtain ⟨ny, hny⟩ : ∃ ny, ny = ys.length := ⟨_, rfl⟩
  have hpush : Hid (∀ w2 v' w3, Below w.drew.heap.size w.drew w2 → w3.ownsRow (r + 1) 5 1 v' (nz + ny) (O.cellsOf zs ++ O.cellsOf ys) → w2.grownBy w3 (Value.ownBlock (.slice a nz c)) → w3.cell? ⟨r, 0, none⟩ = some (.slice a nz c) ∧ w3.frozen? ⟨r, 0, none⟩ = false ∧ WG w (w3.setCell ⟨r, 0, none⟩ v') r ∧ WX (w3.setCell ⟨r, 0, none⟩ v') r (acc ++ ys) (k + 4)) := fun w2 v' w3 h1 h2 h3 => by
    subst hnz hny
    obtain ⟨k1, k2, k3, k4⟩ := (hD.out.below h1).push hby hlen h2 h3
    exact ⟨k1, k2, hG0.out _ (below_wg hD.out h1 k3), k4⟩
  have hownB : Hid (∀ w2, Below w.drew.heap.size w.drew w2 → w2.ownsRow (r + 1) 5 1 (.slice a nz c) nz (O.cellsOf zs) ∧ r + 1 ≤ w2.heap.size ∧ w2.cell? ⟨r, 0, none⟩ = some (.slice a nz c)) := fun w2 hb => by
    subst hnz
    have := hD.out.below hb
    exact ⟨this.own, blk_lt this.blk, one_read this.blk⟩
  have hcl : (O.cellsOf ys).length = ny * 1 := by rw [O.cellsOf_length, hny]; omega
  have hone := O.cellsOf_one ys
  rw [← hnz] at c0 hfew
  rw [← hny] at hput hlen
  have hgs : Hid (∀ w2 a' c', O.Got w2 w.drew.heap.size a' c' ys → Src w2 (.slice a' ny c') ny (O.cellsOf ys)) := fun w2 a' c' hh => by subst hny; exact got_src hh
  generalize O.cellsOf ys = YC at *
  generalize O.cellsOf zs = ZC at *
  clear h hD hG0 hnz hny hby
  go_enter Tryz.func109, Tryz.ntmps109
  go_upto_region 0 with fail
  refine wp_region_last (by kernel_rfl) 11 _ rfl rfl rfl (by kernel_rfl) (fun W => W.cell? ⟨r, 0, none⟩ = some (.slice a nz c)) c0 (fun hHeld => ?_)
  simp only [List.setIfInBounds_toArray, List.set_cons_succ, List.set_cons_zero, noOp]
  generalize w.drew = DW at *
  · refine wpAnyH_take (i := 0) (v := ?vpa_0) (by simp only [List.getElem?_toArray, List.getElem?_cons_succ, List.getElem?_cons_zero]; rfl) (by kernel_rfl) (by kernel_rfl) (by kernel_rfl) (by exact fun _ _ _ h => h) (Or.inl ⟨by rfl, ?ypa_0⟩) (by assumption) ?rpa_0
    case ypa_0 => (intro w hSw; (try dsimp only at hSw); go_simp; (try with_reducible rfl))
    try simp only [Act.put, List.setIfInBounds_toArray, List.set_cons_zero, List.set_cons_succ]
    refine wpAnyH_take (i := 1) (v := ?vpa_1) (by simp only [List.getElem?_toArray, List.getElem?_cons_succ, List.getElem?_cons_zero]; rfl) (by kernel_rfl) (by kernel_rfl) (by kernel_rfl) (by exact fun _ _ _ h => h) (Or.inl ⟨by rfl, ?ypa_1⟩) (by assumption) ?rpa_1
    case ypa_1 => (intro w hSw; (try dsimp only at hSw); go_simp; (try with_reducible rfl))
    try simp only [Act.put, List.setIfInBounds_toArray, List.set_cons_zero, List.set_cons_succ]
    refine wpAnyH_take (i := 2) (v := ?vpa_2) (by simp only [List.getElem?_toArray, List.getElem?_cons_succ, List.getElem?_cons_zero]; rfl) (by kernel_rfl) (by kernel_rfl) (by kernel_rfl) (by exact fun _ _ _ h => h) (Or.inl ⟨by rfl, ?ypa_2⟩) (by assumption) ?rpa_2
    case ypa_2 => (intro w hSw; (try dsimp only at hSw); go_simp; (try with_reducible rfl))
    try simp only [Act.put, List.setIfInBounds_toArray, List.set_cons_zero, List.set_cons_succ]
    refine wpAnyH_take (i := 3) (v := ?vpa_3) (by simp only [List.getElem?_toArray, List.getElem?_cons_succ, List.getElem?_cons_zero]; rfl) (by kernel_rfl) (by kernel_rfl) (by kernel_rfl) (by exact fun _ _ _ h => h) (Or.inl ⟨by rfl, ?ypa_3⟩) (by assumption) ?rpa_3
    case ypa_3 => (intro w hSw; (try dsimp only at hSw); go_simp; (try with_reducible rfl))
    try simp only [Act.put, List.setIfInBounds_toArray, List.set_cons_zero, List.set_cons_succ]
    refine wpAnyH_take (i := 4) (v := ?vpa_4) (by simp only [List.getElem?_toArray, List.getElem?_cons_succ, List.getElem?_cons_zero]; rfl) (by kernel_rfl) (by kernel_rfl) (by kernel_rfl) (by exact fun _ _ _ h => h) (Or.inl ⟨by rfl, ?ypa_4⟩) (by assumption) ?rpa_4
    case ypa_4 => (intro w hSw; (try dsimp only at hSw); go_simp; (try with_reducible rfl))
    try simp only [Act.put, List.setIfInBounds_toArray, List.set_cons_zero, List.set_cons_succ]
    refine wpAnyH_take (i := 5) (v := ?vpa_5) (by simp only [List.getElem?_toArray, List.getElem?_cons_succ, List.getElem?_cons_zero]; rfl) (by kernel_rfl) (by kernel_rfl) (by kernel_rfl) (by exact fun _ _ _ h => h) (Or.inl ⟨by rfl, ?ypa_5⟩) (by assumption) ?rpa_5
    case ypa_5 => (intro w hSw; (try dsimp only at hSw); go_simp; (try with_reducible rfl))
    try simp only [Act.put, List.setIfInBounds_toArray, List.set_cons_zero, List.set_cons_succ]
    refine wpAnyH_take (i := 6) (v := ?vpa_6) (by simp only [List.getElem?_toArray, List.getElem?_cons_succ, List.getElem?_cons_zero]; rfl) (by kernel_rfl) (by kernel_rfl) (by kernel_rfl) (by exact fun _ _ _ h => h) (Or.inl ⟨by rfl, ?ypa_6⟩) (by assumption) ?rpa_6
    case ypa_6 => (intro w hSw; (try dsimp only at hSw); go_simp; (try with_reducible rfl))
    try simp only [Act.put, List.setIfInBounds_toArray, List.set_cons_zero, List.set_cons_succ]
    refine wpAnyH_ready (rs := [7]) (by kernel_rfl) (by simp) ?_
    refine AllReadyH.cons (o := ?op_7) ?hop_7 (fun K hK => ?stp_7) AllReadyH.nil
    case hop_7 => (simp only [List.getElem?_toArray, List.getElem?_cons_succ, List.getElem?_cons_zero]; rfl)
    refine step_fnA Tryz.prog DW rfl 133 _ _ rfl #[.slice none 0 0, .int .u32 n, .int .i64 (wd : Int)] (by simp [Act.eval]) _ rfl f133_name f133_body ?_
    refine (hput.out).mono ?_
    rintro e w2 ⟨a2, c2, rfl, hg2, hb2⟩
    obtain ⟨o1, o2, o3⟩ := hownB.out w2 hb2
    have s2 := Hid.intro (hgs.out w2 a2 c2 hg2)
    replace o1 := Hid.intro o1
    replace hb2 := Hid.intro hb2
    clear hg2
    refine ⟨_, rfl, hK.out _ _ o3 (fun hHeld => ?_)⟩
    clear hK K
    try simp only [Act.put, List.setIfInBounds_toArray, List.set_cons_zero, List.set_cons_succ]
    refine wpAnyH_ready (rs := [8]) (by kernel_rfl) (by simp) ?_
    refine AllReadyH.cons (o := ?op_8) ?hop_8 (fun K hK => ?stp_8) AllReadyH.nil
    case hop_8 => (simp only [List.getElem?_toArray, List.getElem?_cons_succ, List.getElem?_cons_zero]; rfl)
    refine step_app _ rfl (.tmp 10) (.tmp 13) 22 rfl (r + 1) 5 i0 _ 1 1 Tryz.underlying22 hi hz0 hz1 hz2 rfl (by decide) (.slice a nz c) nz ZC rfl o1.out (.slice a2 ny c2) ny YC rfl s2.out hcl hone (by unfold maxLen; omega) (by omega) o2 ?_
    intro v3 w3 ho3 hg3 hw3
    obtain ⟨u1, uf, z1, z2⟩ := hpush.out w2 v3 w3 hb2.out ho3 hg3
    replace z1 := Hid.intro z1
    replace z2 := Hid.intro z2
    obtain ⟨a3, c3, rfl⟩ := own_slice ho3
    clear ho3 hg3 hw3
    refine hK.out _ _ u1 (fun hHeld => ?_)
    clear hK K
    try simp only [Act.put, List.setIfInBounds_toArray, List.set_cons_zero, List.set_cons_succ]
    refine wpAnyH_take (i := 9) (v := ?vpb_9) (by simp only [List.getElem?_toArray, List.getElem?_cons_succ, List.getElem?_cons_zero]; rfl) (by kernel_rfl) (by kernel_rfl) (by kernel_rfl) (by exact fun _ _ _ h => h) (Or.inl ⟨by rfl, ?ypb_9⟩) (by assumption) ?rpb_9
    case ypb_9 => (intro w hSw; (try dsimp only at hSw); go_simp; (try with_reducible rfl))
    try simp only [Act.put, List.setIfInBounds_toArray, List.set_cons_zero, List.set_cons_succ]
    refine wpAnyH_take (i := 10) (v := ?vpb_10) (by simp only [List.getElem?_toArray, List.getElem?_cons_succ, List.getElem?_cons_zero]; rfl) (by kernel_rfl) (by kernel_rfl) (by kernel_rfl) (by exact fun _ _ _ h => h) (Or.inl ⟨by rfl, ?ypb_10⟩) (by assumption) ?rpb_10
    case ypb_10 => (intro w hSw; (try dsimp only at hSw); go_simp; (try with_reducible rfl))
    try simp only [Act.put, List.setIfInBounds_toArray, List.set_cons_zero, List.set_cons_succ]
    refine wpAnyH_take (i := 11) (v := ?vpb_11) (by simp only [List.getElem?_toArray, List.getElem?_cons_succ, List.getElem?_cons_zero]; rfl) (by kernel_rfl) (by kernel_rfl) (by kernel_rfl) (by exact fun _ _ _ h => h) (Or.inl ⟨by rfl, ?ypb_11⟩) (by assumption) ?rpb_11
    case ypb_11 => (intro w hSw; (try dsimp only at hSw); go_simp; (try with_reducible rfl))
    try simp only [Act.put, List.setIfInBounds_toArray, List.set_cons_zero, List.set_cons_succ]
    refine wpAnyH_done (by kernel_rfl) ?_ _
    show Oper.wp _ _ _ _ _ _
    go_simp
    all_goals (go_wp2_with fail)
    all_goals go_end0
    all_goals exact ⟨rfl, z1.out, z2.out⟩
set_option maxHeartbeats 4000000 in
theorem wtext_is (h : WX w r acc k) (hk : k ≤ 100000) (s : ByteArray) (m : Nat) (hs : 2 + s.size ≤ m) (hm : m ≤ 100000) : Calls Tryz.prog 73 #[.pointer (some ⟨r, 0, none⟩), .string s] w fun e w' => e = .returned (.tuple #[]) ∧ WG w w' r ∧ WX w' r (acc ++ O.putT [] s) (k + m) := by
  obtain ⟨a, c, zs, h⟩ := h
  obtain ⟨i0, hi, hz0, hz1, hz2⟩ := info_parts O.Tryz.info5
  have hD := Hid.intro (h.below (below_drew' w))
  have hG0 := Hid.intro (fun (w' : World) (hg : WG w.drew w' r) => below_wg h (below_drew' w) hg)
  have c0 := one_read h.blk
  have hfew := h.few
  have hput : Hid (Calls Tryz.prog 112 #[.slice none 0 0, .string s] w.drew fun e w' => ∃ a' c', e = .returned (.slice a' (O.putT [] s).length c') ∧ O.Got w' w.drew.heap.size a' c' (O.putT [] s) ∧ Below w.drew.heap.size w.drew w') :=
    O.putText_got none 0 [] s w.drew ⟨fun z hz => absurd hz (by simp), .inl rfl⟩ (fun _ => ⟨rfl, rfl⟩) (Nat.le_refl 0) (by simp; omega)
  have hlen : (O.putT [] s).length ≤ m := by rw [O.putT_length]; simp; omega
  have hby := O.putT_bytes [] s (by intro z hz; cases hz)
  generalize hY : O.putT [] s = ys at *
  clear hY
  obtain ⟨nz, hnz⟩ : ∃ nz, nz = zs.length := ⟨_, rfl⟩
  obtain ⟨ny, hny⟩ : ∃ ny, ny = ys.length := ⟨_, rfl⟩
  have hpush : Hid (∀ w2 v' w3, Below w.drew.heap.size w.drew w2 → w3.ownsRow (r + 1) 5 1 v' (nz + ny) (O.cellsOf zs ++ O.cellsOf ys) → w2.grownBy w3 (Value.ownBlock (.slice a nz c)) → w3.cell? ⟨r, 0, none⟩ = some (.slice a nz c) ∧ w3.frozen? ⟨r, 0, none⟩ = false ∧ WG w (w3.setCell ⟨r, 0, none⟩ v') r ∧ WX (w3.setCell ⟨r, 0, none⟩ v') r (acc ++ ys) (k + m)) := fun w2 v' w3 h1 h2 h3 => by
    subst hnz hny
    obtain ⟨k1, k2, k3, k4⟩ := (hD.out.below h1).push hby hlen h2 h3
    exact ⟨k1, k2, hG0.out _ (below_wg hD.out h1 k3), k4⟩
  have hownB : Hid (∀ w2, Below w.drew.heap.size w.drew w2 → w2.ownsRow (r + 1) 5 1 (.slice a nz c) nz (O.cellsOf zs) ∧ r + 1 ≤ w2.heap.size ∧ w2.cell? ⟨r, 0, none⟩ = some (.slice a nz c)) := fun w2 hb => by
    subst hnz
    have := hD.out.below hb
    exact ⟨this.own, blk_lt this.blk, one_read this.blk⟩
  have hcl : (O.cellsOf ys).length = ny * 1 := by rw [O.cellsOf_length, hny]; omega
  have hone := O.cellsOf_one ys
  rw [← hnz] at c0 hfew
  rw [← hny] at hput hlen
  have hgs : Hid (∀ w2 a' c', O.Got w2 w.drew.heap.size a' c' ys → Src w2 (.slice a' ny c') ny (O.cellsOf ys)) := fun w2 a' c' hh => by subst hny; exact got_src hh
  generalize O.cellsOf ys = YC at *
  generalize O.cellsOf zs = ZC at *
  clear h hD hG0 hnz hny hby hs
  go_enter Tryz.func73, Tryz.ntmps73
  go_upto_region 0 with fail
  refine wp_region_last (by kernel_rfl) 10 _ rfl rfl rfl (by kernel_rfl) (fun W => W.cell? ⟨r, 0, none⟩ = some (.slice a nz c)) c0 (fun hHeld => ?_)
  simp only [List.setIfInBounds_toArray, List.set_cons_succ, List.set_cons_zero, noOp]
  generalize w.drew = DW at *
  · refine wpAnyH_take (i := 0) (v := ?vqa_0) (by simp only [List.getElem?_toArray, List.getElem?_cons_succ, List.getElem?_cons_zero]; rfl) (by kernel_rfl) (by kernel_rfl) (by kernel_rfl) (by exact fun _ _ _ h => h) (Or.inl ⟨by rfl, ?yqa_0⟩) (by assumption) ?rqa_0
    case yqa_0 => (intro w hSw; (try dsimp only at hSw); go_simp; (try with_reducible rfl))
    try simp only [Act.put, List.setIfInBounds_toArray, List.set_cons_zero, List.set_cons_succ]
    refine wpAnyH_take (i := 1) (v := ?vqa_1) (by simp only [List.getElem?_toArray, List.getElem?_cons_succ, List.getElem?_cons_zero]; rfl) (by kernel_rfl) (by kernel_rfl) (by kernel_rfl) (by exact fun _ _ _ h => h) (Or.inl ⟨by rfl, ?yqa_1⟩) (by assumption) ?rqa_1
    case yqa_1 => (intro w hSw; (try dsimp only at hSw); go_simp; (try with_reducible rfl))
    try simp only [Act.put, List.setIfInBounds_toArray, List.set_cons_zero, List.set_cons_succ]
    refine wpAnyH_take (i := 2) (v := ?vqa_2) (by simp only [List.getElem?_toArray, List.getElem?_cons_succ, List.getElem?_cons_zero]; rfl) (by kernel_rfl) (by kernel_rfl) (by kernel_rfl) (by exact fun _ _ _ h => h) (Or.inl ⟨by rfl, ?yqa_2⟩) (by assumption) ?rqa_2
    case yqa_2 => (intro w hSw; (try dsimp only at hSw); go_simp; (try with_reducible rfl))
    try simp only [Act.put, List.setIfInBounds_toArray, List.set_cons_zero, List.set_cons_succ]
    refine wpAnyH_take (i := 3) (v := ?vqa_3) (by simp only [List.getElem?_toArray, List.getElem?_cons_succ, List.getElem?_cons_zero]; rfl) (by kernel_rfl) (by kernel_rfl) (by kernel_rfl) (by exact fun _ _ _ h => h) (Or.inl ⟨by rfl, ?yqa_3⟩) (by assumption) ?rqa_3
    case yqa_3 => (intro w hSw; (try dsimp only at hSw); go_simp; (try with_reducible rfl))
    try simp only [Act.put, List.setIfInBounds_toArray, List.set_cons_zero, List.set_cons_succ]
    refine wpAnyH_take (i := 4) (v := ?vqa_4) (by simp only [List.getElem?_toArray, List.getElem?_cons_succ, List.getElem?_cons_zero]; rfl) (by kernel_rfl) (by kernel_rfl) (by kernel_rfl) (by exact fun _ _ _ h => h) (Or.inl ⟨by rfl, ?yqa_4⟩) (by assumption) ?rqa_4
    case yqa_4 => (intro w hSw; (try dsimp only at hSw); go_simp; (try with_reducible rfl))
    try simp only [Act.put, List.setIfInBounds_toArray, List.set_cons_zero, List.set_cons_succ]
    refine wpAnyH_take (i := 5) (v := ?vqa_5) (by simp only [List.getElem?_toArray, List.getElem?_cons_succ, List.getElem?_cons_zero]; rfl) (by kernel_rfl) (by kernel_rfl) (by kernel_rfl) (by exact fun _ _ _ h => h) (Or.inl ⟨by rfl, ?yqa_5⟩) (by assumption) ?rqa_5
    case yqa_5 => (intro w hSw; (try dsimp only at hSw); go_simp; (try with_reducible rfl))
    try simp only [Act.put, List.setIfInBounds_toArray, List.set_cons_zero, List.set_cons_succ]
    refine wpAnyH_ready (rs := [6]) (by kernel_rfl) (by simp) ?_
    refine AllReadyH.cons (o := ?oq_6) ?hoq_6 (fun K hK => ?stq_6) AllReadyH.nil
    case hoq_6 => (simp only [List.getElem?_toArray, List.getElem?_cons_succ, List.getElem?_cons_zero]; rfl)
    refine step_fnA Tryz.prog DW rfl 112 _ _ rfl #[.slice none 0 0, .string s] (by simp [Act.eval]) _ rfl f112_name f112_body ?_
    refine (hput.out).mono ?_
    rintro e w2 ⟨a2, c2, rfl, hg2, hb2⟩
    obtain ⟨o1, o2, o3⟩ := hownB.out w2 hb2
    have s2 := Hid.intro (hgs.out w2 a2 c2 hg2)
    replace o1 := Hid.intro o1
    replace hb2 := Hid.intro hb2
    clear hg2
    refine ⟨_, rfl, hK.out _ _ o3 (fun hHeld => ?_)⟩
    clear hK K
    try simp only [Act.put, List.setIfInBounds_toArray, List.set_cons_zero, List.set_cons_succ]
    refine wpAnyH_ready (rs := [7]) (by kernel_rfl) (by simp) ?_
    refine AllReadyH.cons (o := ?oq_7) ?hoq_7 (fun K hK => ?stq_7) AllReadyH.nil
    case hoq_7 => (simp only [List.getElem?_toArray, List.getElem?_cons_succ, List.getElem?_cons_zero]; rfl)
    refine step_app _ rfl (.tmp 8) (.tmp 10) 22 rfl (r + 1) 5 i0 _ 1 1 Tryz.underlying22 hi hz0 hz1 hz2 rfl (by decide) (.slice a nz c) nz ZC rfl o1.out (.slice a2 ny c2) ny YC rfl s2.out hcl hone (by unfold maxLen; omega) (by omega) o2 ?_
    intro v3 w3 ho3 hg3 hw3
    obtain ⟨u1, uf, z1, z2⟩ := hpush.out w2 v3 w3 hb2.out ho3 hg3
    replace z1 := Hid.intro z1
    replace z2 := Hid.intro z2
    obtain ⟨a3, c3, rfl⟩ := own_slice ho3
    clear ho3 hg3 hw3
    refine hK.out _ _ u1 (fun hHeld => ?_)
    clear hK K
    try simp only [Act.put, List.setIfInBounds_toArray, List.set_cons_zero, List.set_cons_succ]
    refine wpAnyH_take (i := 8) (v := ?vqb_8) (by simp only [List.getElem?_toArray, List.getElem?_cons_succ, List.getElem?_cons_zero]; rfl) (by kernel_rfl) (by kernel_rfl) (by kernel_rfl) (by exact fun _ _ _ h => h) (Or.inl ⟨by rfl, ?yqb_8⟩) (by assumption) ?rqb_8
    case yqb_8 => (intro w hSw; (try dsimp only at hSw); go_simp; (try with_reducible rfl))
    try simp only [Act.put, List.setIfInBounds_toArray, List.set_cons_zero, List.set_cons_succ]
    refine wpAnyH_take (i := 9) (v := ?vqb_9) (by simp only [List.getElem?_toArray, List.getElem?_cons_succ, List.getElem?_cons_zero]; rfl) (by kernel_rfl) (by kernel_rfl) (by kernel_rfl) (by exact fun _ _ _ h => h) (Or.inl ⟨by rfl, ?yqb_9⟩) (by assumption) ?rqb_9
    case yqb_9 => (intro w hSw; (try dsimp only at hSw); go_simp; (try with_reducible rfl))
    try simp only [Act.put, List.setIfInBounds_toArray, List.set_cons_zero, List.set_cons_succ]
    refine wpAnyH_take (i := 10) (v := ?vqb_10) (by simp only [List.getElem?_toArray, List.getElem?_cons_succ, List.getElem?_cons_zero]; rfl) (by kernel_rfl) (by kernel_rfl) (by kernel_rfl) (by exact fun _ _ _ h => h) (Or.inl ⟨by rfl, ?yqb_10⟩) (by assumption) ?rqb_10
    case yqb_10 => (intro w hSw; (try dsimp only at hSw); go_simp; (try with_reducible rfl))
    try simp only [Act.put, List.setIfInBounds_toArray, List.set_cons_zero, List.set_cons_succ]
    refine wpAnyH_done (by kernel_rfl) ?_ _
    show Oper.wp _ _ _ _ _ _
    go_simp
    all_goals (go_wp2_with fail)
    all_goals go_end0
    all_goals exact ⟨rfl, z1.out, z2.out⟩
end
end Go.Proofs.YtmndccbeddaphaaGreatDoor

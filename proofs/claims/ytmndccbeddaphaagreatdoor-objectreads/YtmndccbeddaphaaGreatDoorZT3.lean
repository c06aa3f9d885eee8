/- T3: what the document's Right wants besides. -/
import Derived.Test.YtmndccbeddaphaaGreatDoorZRefRight
namespace Go.Proofs.YtmndccbeddaphaaGreatDoor
open Go.ChangeShapes Go.WideShapes Go.ChangeAt Go.RowKit
set_option linter.unusedVariables false
set_option maxRecDepth 100000
theorem hasE_any (op : Int) (w : World) : Calls Tryz.prog 87 #[.int .i64 op] w fun e w' => e = .returned (.bool (shE (shapeN op))) ∧ Below w.heap.size w w' := by
  have hs := Hid.intro (shape_any op w)
  generalize shapeN op = S at hs ⊢
  by_cases h10 : S = 10
  · subst h10
    go_enter Tryz.func87, Tryz.ntmps87
    go_wp2_with (go_at_call 119; (with_reducible refine (hs.out).mono ?_); rintro e w1 ⟨rfl, hb1⟩)
    all_goals first | omega | skip
    go_ret
    exact ⟨rfl, hb1⟩
  have g10 : (S == 10) = false := by simp [h10]
  by_cases h11 : S = 11
  · subst h11
    go_enter Tryz.func87, Tryz.ntmps87
    go_wp2_with (go_at_call 119; (with_reducible refine (hs.out).mono ?_); rintro e w1 ⟨rfl, hb1⟩)
    all_goals first | omega | skip
    go_ret
    exact ⟨rfl, hb1⟩
  have g11 : (S == 11) = false := by simp [h11]
  by_cases h12 : S = 12
  · subst h12
    go_enter Tryz.func87, Tryz.ntmps87
    go_wp2_with (go_at_call 119; (with_reducible refine (hs.out).mono ?_); rintro e w1 ⟨rfl, hb1⟩)
    all_goals first | omega | skip
    go_ret
    exact ⟨rfl, hb1⟩
  have g12 : (S == 12) = false := by simp [h12]
  have hF : shE S = (S == 13) := by simp [shE, h10, h11, h12]
  rw [hF]
  go_enter Tryz.func87, Tryz.ntmps87
  go_wp2_with (go_at_call 119; (with_reducible refine (hs.out).mono ?_); rintro e w1 ⟨rfl, hb1⟩)
  all_goals first | omega | skip
  go_ret
  exact ⟨rfl, hb1⟩
def pw (j : Nat) : Int := 2 ^ j
theorem power_any (n : Int) (w : World) : Calls Tryz.prog 96 #[.int .i64 n] w fun e w' => e = .returned (.bool (numOfB 3 n)) ∧ w' = w := by
  go_enter Tryz.func96, Tryz.ntmps96
  go_wp2
  go_loopw [3] (fun v3 wr => ∃ j : Nat, j ≤ 9 ∧ v3 = .int .i64 (pw j) ∧ wr = w ∧ Hid (∀ i, i < j → n ≠ pw i)) (fun v3 wr => (1000 - intOf v3).toNat)
  case atStart => exact ⟨0, by omega, rfl, rfl, fun i hi => by omega⟩
  case round =>
    obtain ⟨j, hj, rfl, rfl, hne⟩ := hrel
    have : j = 0 ∨ j = 1 ∨ j = 2 ∨ j = 3 ∨ j = 4 ∨ j = 5 ∨ j = 6 ∨ j = 7 ∨ j = 8 ∨ j = 9 := by omega
    by_cases h9 : j = 9
    · subst h9
      have hF : numOfB 3 n = false := by
        have q := hne.out
        have q0 := q 0 (by omega)
        have q1 := q 1 (by omega)
        have q2 := q 2 (by omega)
        have q3 := q 3 (by omega)
        have q4 := q 4 (by omega)
        have q5 := q 5 (by omega)
        have q6 := q 6 (by omega)
        have q7 := q 7 (by omega)
        have q8 := q 8 (by omega)
        simp [pw] at q0 q1 q2 q3 q4 q5 q6 q7 q8
        simp [numOfB]
        omega
      rw [show pw 9 = 512 from rfl]
      go_wp2
      all_goals first | omega | skip
      go_ret
      exact ⟨by first | rfl | (rw [hF]; rfl), rfl⟩
    · obtain ⟨P, hP, hP1, hP2, hP3⟩ : ∃ P : Int, pw j = P ∧ 1 ≤ P ∧ P ≤ 256 ∧ pw (j + 1) = 2 * P := by
        rcases this with rfl | rfl | rfl | rfl | rfl | rfl | rfl | rfl | rfl | rfl
        all_goals first | exact absurd rfl h9 | exact ⟨_, rfl, by simp [pw], by simp [pw], by simp [pw]⟩
      rw [hP]
      by_cases hn : n = P
      · have hF : numOfB 3 n = true := by
          rcases this with rfl | rfl | rfl | rfl | rfl | rfl | rfl | rfl | rfl | rfl
          all_goals (simp [pw] at hP; simp [numOfB]; omega)
        replace hF := Hid.intro hF
        clear hP hP3 this
        go_wp2
        all_goals first | omega | skip
        go_ret
        exact ⟨by first | rfl | (rw [hF.out]; rfl), rfl⟩
      · have hn' : (n == P) = false := by simp [hn]
        go_wp2
        all_goals first | omega | skip
        go_roundw
        case rel => exact ⟨j + 1, by omega, by rw [hP3], by first | rfl | trivial, Hid.intro (fun i hi => by rcases Nat.lt_or_ge i j with h | h; exact hne.out i h; rw [show i = j by omega, hP]; exact hn)⟩
        case measure => simp [intOf]; omega
def isZ5 (op a b m f : Int) : Bool := decide (op = 0 ∧ a = 0 ∧ b = 0 ∧ m = 0 ∧ f = 0)
def bareB (b1 b2 b3 b4 : Bool) (s : ByteArray) (op a b m f : Int) (ln : Nat) (c n : Int) : Bool :=
  (!b1 || decide (s.toList = [])) && ((!b2 || isZ5 op a b m f) && ((!b3 || (decide (ln = 0) && decide (c = 0))) && (!b4 || decide (n = 0))))
set_option maxHeartbeats 1000000 in
theorem bareFTTT (k : Int) (s : ByteArray) (op a b m f : Int) (va : Option Addr) (ln vc : Nat) (c n : Int) (w : World) :
    Calls Tryz.prog 93 #[itV k s op a b m f va ln vc c n, .bool false, .bool true, .bool true, .bool true] w fun e w' => e = .returned (.bool (bareB false true true true s op a b m f ln c n)) ∧ Below w.heap.size w w' := by
  by_cases hi : op = 0 ∧ a = 0 ∧ b = 0 ∧ m = 0 ∧ f = 0
  case neg =>
    have hF : bareB false true true true s op a b m f ln c n = false := by simp only [bareB, isZ5]; rw [show decide (op = 0 ∧ a = 0 ∧ b = 0 ∧ m = 0 ∧ f = 0) = false by simp only [decide_eq_false_iff_not]; exact hi]; simp
    rw [hF]
    go_enter Tryz.func93, Tryz.ntmps93
    go_wp2
    all_goals first | omega | skip
    all_goals
      go_ret
      exact ⟨by first | rfl | simp_all, below_alloc w _⟩
  obtain ⟨rfl, rfl, rfl, rfl, rfl⟩ := hi
  by_cases hl : ln = 0
  case neg =>
    have hF : bareB false true true true s 0 0 0 0 0 ln c n = false := by simp [bareB, hl]
    rw [hF]
    have hl' : ¬ ((ln : Int) = 0) := by omega
    go_enter Tryz.func93, Tryz.ntmps93
    go_wp2
    all_goals first | omega | skip
    all_goals
      go_ret
      exact ⟨by first | rfl | simp_all, below_alloc w _⟩
  subst hl
  by_cases hc : c = 0
  case neg =>
    have hF : bareB false true true true s 0 0 0 0 0 0 c n = false := by simp [bareB, hc]
    rw [hF]
    have hc' : (c == 0) = false := by simp [hc]
    go_enter Tryz.func93, Tryz.ntmps93
    go_wp2
    all_goals first | omega | skip
    all_goals
      go_ret
      exact ⟨by first | rfl | simp_all, below_alloc w _⟩
  subst hc
  have hF : bareB false true true true s 0 0 0 0 0 0 0 n = decide (n = 0) := by simp [bareB, isZ5]
  rw [hF]
  by_cases hn : n = 0
  · subst hn
    go_enter Tryz.func93, Tryz.ntmps93
    go_wp2
    all_goals first | omega | skip
    all_goals
      go_ret
      exact ⟨by first | rfl | simp_all, below_alloc w _⟩
  · have hn' : (n == 0) = false := by simp [hn]
    rw [show decide (n = 0) = false by simp [hn]]
    go_enter Tryz.func93, Tryz.ntmps93
    go_wp2
    all_goals first | omega | skip
    all_goals
      go_ret
      exact ⟨by first | rfl | simp_all, below_alloc w _⟩
set_option maxHeartbeats 1000000 in
theorem bareTFFT (k : Int) (s : ByteArray) (op a b m f : Int) (va : Option Addr) (ln vc : Nat) (c n : Int) (w : World) :
    Calls Tryz.prog 93 #[itV k s op a b m f va ln vc c n, .bool true, .bool false, .bool false, .bool true] w fun e w' => e = .returned (.bool (bareB true false false true s op a b m f ln c n)) ∧ Below w.heap.size w w' := by
  by_cases hs : s.toList = []
  case neg =>
    have hF : bareB true false false true s op a b m f ln c n = false := by simp [bareB, hs]
    rw [hF]
    have hs' : (s.toList == []) = false := beq_false_of_ne hs
    go_enter Tryz.func93, Tryz.ntmps93
    go_wp2
    all_goals first | omega | skip
    all_goals
      go_ret
      exact ⟨by rfl, below_alloc w _⟩
  have hs' : (s.toList == []) = true := by rw [hs]; rfl
  have hF : bareB true false false true s op a b m f ln c n = decide (n = 0) := by simp [bareB, isZ5, hs]
  rw [hF]
  by_cases hn : n = 0
  · subst hn
    go_enter Tryz.func93, Tryz.ntmps93
    go_wp2
    all_goals first | omega | skip
    all_goals
      go_ret
      exact ⟨by first | rfl | simp_all, below_alloc w _⟩
  · have hn' : (n == 0) = false := by simp [hn]
    rw [show decide (n = 0) = false by simp [hn]]
    go_enter Tryz.func93, Tryz.ntmps93
    go_wp2
    all_goals first | omega | skip
    all_goals
      go_ret
      exact ⟨by first | rfl | simp_all, below_alloc w _⟩
set_option maxHeartbeats 1000000 in
theorem bareFFTF (k : Int) (s : ByteArray) (op a b m f : Int) (va : Option Addr) (ln vc : Nat) (c n : Int) (w : World) :
    Calls Tryz.prog 93 #[itV k s op a b m f va ln vc c n, .bool false, .bool false, .bool true, .bool false] w fun e w' => e = .returned (.bool (bareB false false true false s op a b m f ln c n)) ∧ Below w.heap.size w w' := by
  by_cases hl : ln = 0
  case neg =>
    have hF : bareB false false true false s op a b m f ln c n = false := by simp [bareB, hl]
    rw [hF]
    have hl' : ¬ ((ln : Int) = 0) := by omega
    go_enter Tryz.func93, Tryz.ntmps93
    go_wp2
    all_goals first | omega | skip
    all_goals
      go_ret
      exact ⟨by first | rfl | simp_all, below_alloc w _⟩
  subst hl
  by_cases hc : c = 0
  case neg =>
    have hF : bareB false false true false s op a b m f 0 c n = false := by simp [bareB, hc]
    rw [hF]
    have hc' : (c == 0) = false := by simp [hc]
    go_enter Tryz.func93, Tryz.ntmps93
    go_wp2
    all_goals first | omega | skip
    all_goals
      go_ret
      exact ⟨by first | rfl | simp_all, below_alloc w _⟩
  subst hc
  have hF : bareB false false true false s op a b m f 0 0 n = true := by simp [bareB, isZ5]
  rw [hF]
  go_enter Tryz.func93, Tryz.ntmps93
  go_wp2
  all_goals first | omega | skip
  all_goals
    go_ret
    exact ⟨by first | rfl | simp_all, below_alloc w _⟩
set_option maxHeartbeats 1000000 in
theorem bareTTTF (k : Int) (s : ByteArray) (op a b m f : Int) (va : Option Addr) (ln vc : Nat) (c n : Int) (w : World) :
    Calls Tryz.prog 93 #[itV k s op a b m f va ln vc c n, .bool true, .bool true, .bool true, .bool false] w fun e w' => e = .returned (.bool (bareB true true true false s op a b m f ln c n)) ∧ Below w.heap.size w w' := by
  by_cases hs : s.toList = []
  case neg =>
    have hF : bareB true true true false s op a b m f ln c n = false := by simp [bareB, hs]
    rw [hF]
    have hs' : (s.toList == []) = false := beq_false_of_ne hs
    go_enter Tryz.func93, Tryz.ntmps93
    go_wp2
    all_goals first | omega | skip
    all_goals
      go_ret
      exact ⟨by rfl, below_alloc w _⟩
  have hs' : (s.toList == []) = true := by rw [hs]; rfl
  by_cases hi : op = 0 ∧ a = 0 ∧ b = 0 ∧ m = 0 ∧ f = 0
  case neg =>
    have hF : bareB true true true false s op a b m f ln c n = false := by simp only [bareB, isZ5]; rw [show decide (op = 0 ∧ a = 0 ∧ b = 0 ∧ m = 0 ∧ f = 0) = false by simp only [decide_eq_false_iff_not]; exact hi]; simp
    rw [hF]
    go_enter Tryz.func93, Tryz.ntmps93
    go_wp2
    all_goals first | omega | skip
    all_goals
      go_ret
      exact ⟨by first | rfl | simp_all, below_alloc w _⟩
  obtain ⟨rfl, rfl, rfl, rfl, rfl⟩ := hi
  by_cases hl : ln = 0
  case neg =>
    have hF : bareB true true true false s 0 0 0 0 0 ln c n = false := by simp [bareB, hl]
    rw [hF]
    have hl' : ¬ ((ln : Int) = 0) := by omega
    go_enter Tryz.func93, Tryz.ntmps93
    go_wp2
    all_goals first | omega | skip
    all_goals
      go_ret
      exact ⟨by first | rfl | simp_all, below_alloc w _⟩
  subst hl
  by_cases hc : c = 0
  case neg =>
    have hF : bareB true true true false s 0 0 0 0 0 0 c n = false := by simp [bareB, hc]
    rw [hF]
    have hc' : (c == 0) = false := by simp [hc]
    go_enter Tryz.func93, Tryz.ntmps93
    go_wp2
    all_goals first | omega | skip
    all_goals
      go_ret
      exact ⟨by first | rfl | simp_all, below_alloc w _⟩
  subst hc
  have hF : bareB true true true false s 0 0 0 0 0 0 0 n = true := by simp [bareB, isZ5, hs]
  rw [hF]
  go_enter Tryz.func93, Tryz.ntmps93
  go_wp2
  all_goals first | omega | skip
  all_goals
    go_ret
    exact ⟨by first | rfl | simp_all, below_alloc w _⟩
set_option maxHeartbeats 1000000 in
theorem bareTTTT (k : Int) (s : ByteArray) (op a b m f : Int) (va : Option Addr) (ln vc : Nat) (c n : Int) (w : World) :
    Calls Tryz.prog 93 #[itV k s op a b m f va ln vc c n, .bool true, .bool true, .bool true, .bool true] w fun e w' => e = .returned (.bool (bareB true true true true s op a b m f ln c n)) ∧ Below w.heap.size w w' := by
  by_cases hs : s.toList = []
  case neg =>
    have hF : bareB true true true true s op a b m f ln c n = false := by simp [bareB, hs]
    rw [hF]
    have hs' : (s.toList == []) = false := beq_false_of_ne hs
    go_enter Tryz.func93, Tryz.ntmps93
    go_wp2
    all_goals first | omega | skip
    all_goals
      go_ret
      exact ⟨by rfl, below_alloc w _⟩
  have hs' : (s.toList == []) = true := by rw [hs]; rfl
  by_cases hi : op = 0 ∧ a = 0 ∧ b = 0 ∧ m = 0 ∧ f = 0
  case neg =>
    have hF : bareB true true true true s op a b m f ln c n = false := by simp only [bareB, isZ5]; rw [show decide (op = 0 ∧ a = 0 ∧ b = 0 ∧ m = 0 ∧ f = 0) = false by simp only [decide_eq_false_iff_not]; exact hi]; simp
    rw [hF]
    go_enter Tryz.func93, Tryz.ntmps93
    go_wp2
    all_goals first | omega | skip
    all_goals
      go_ret
      exact ⟨by first | rfl | simp_all, below_alloc w _⟩
  obtain ⟨rfl, rfl, rfl, rfl, rfl⟩ := hi
  by_cases hl : ln = 0
  case neg =>
    have hF : bareB true true true true s 0 0 0 0 0 ln c n = false := by simp [bareB, hl]
    rw [hF]
    have hl' : ¬ ((ln : Int) = 0) := by omega
    go_enter Tryz.func93, Tryz.ntmps93
    go_wp2
    all_goals first | omega | skip
    all_goals
      go_ret
      exact ⟨by first | rfl | simp_all, below_alloc w _⟩
  subst hl
  by_cases hc : c = 0
  case neg =>
    have hF : bareB true true true true s 0 0 0 0 0 0 c n = false := by simp [bareB, hc]
    rw [hF]
    have hc' : (c == 0) = false := by simp [hc]
    go_enter Tryz.func93, Tryz.ntmps93
    go_wp2
    all_goals first | omega | skip
    all_goals
      go_ret
      exact ⟨by first | rfl | simp_all, below_alloc w _⟩
  subst hc
  have hF : bareB true true true true s 0 0 0 0 0 0 0 n = decide (n = 0) := by simp [bareB, isZ5, hs]
  rw [hF]
  by_cases hn : n = 0
  · subst hn
    go_enter Tryz.func93, Tryz.ntmps93
    go_wp2
    all_goals first | omega | skip
    all_goals
      go_ret
      exact ⟨by first | rfl | simp_all, below_alloc w _⟩
  · have hn' : (n == 0) = false := by simp [hn]
    rw [show decide (n = 0) = false by simp [hn]]
    go_enter Tryz.func93, Tryz.ntmps93
    go_wp2
    all_goals first | omega | skip
    all_goals
      go_ret
      exact ⟨by first | rfl | simp_all, below_alloc w _⟩
set_option maxHeartbeats 1000000 in
theorem bareTTFT (k : Int) (s : ByteArray) (op a b m f : Int) (va : Option Addr) (ln vc : Nat) (c n : Int) (w : World) :
    Calls Tryz.prog 93 #[itV k s op a b m f va ln vc c n, .bool true, .bool true, .bool false, .bool true] w fun e w' => e = .returned (.bool (bareB true true false true s op a b m f ln c n)) ∧ Below w.heap.size w w' := by
  by_cases hs : s.toList = []
  case neg =>
    have hF : bareB true true false true s op a b m f ln c n = false := by simp [bareB, hs]
    rw [hF]
    have hs' : (s.toList == []) = false := beq_false_of_ne hs
    go_enter Tryz.func93, Tryz.ntmps93
    go_wp2
    all_goals first | omega | skip
    all_goals
      go_ret
      exact ⟨by rfl, below_alloc w _⟩
  have hs' : (s.toList == []) = true := by rw [hs]; rfl
  by_cases hi : op = 0 ∧ a = 0 ∧ b = 0 ∧ m = 0 ∧ f = 0
  case neg =>
    have hF : bareB true true false true s op a b m f ln c n = false := by simp only [bareB, isZ5]; rw [show decide (op = 0 ∧ a = 0 ∧ b = 0 ∧ m = 0 ∧ f = 0) = false by simp only [decide_eq_false_iff_not]; exact hi]; simp
    rw [hF]
    go_enter Tryz.func93, Tryz.ntmps93
    go_wp2
    all_goals first | omega | skip
    all_goals
      go_ret
      exact ⟨by first | rfl | simp_all, below_alloc w _⟩
  obtain ⟨rfl, rfl, rfl, rfl, rfl⟩ := hi
  have hF : bareB true true false true s 0 0 0 0 0 ln c n = decide (n = 0) := by simp [bareB, isZ5, hs]
  rw [hF]
  by_cases hn : n = 0
  · subst hn
    go_enter Tryz.func93, Tryz.ntmps93
    go_wp2
    all_goals first | omega | skip
    all_goals
      go_ret
      exact ⟨by first | rfl | simp_all, below_alloc w _⟩
  · have hn' : (n == 0) = false := by simp [hn]
    rw [show decide (n = 0) = false by simp [hn]]
    go_enter Tryz.func93, Tryz.ntmps93
    go_wp2
    all_goals first | omega | skip
    all_goals
      go_ret
      exact ⟨by first | rfl | simp_all, below_alloc w _⟩
end Go.Proofs.YtmndccbeddaphaaGreatDoor

/- The walk of LexCut. -/
import Derived.Test.YtaanfphknnijeaaSame
import Derived.Test.YtaanfphknnijeaaCutM
namespace Go.Proofs.Ytaanfphknnijeaa
open Go.ChangeShapes Go.WideShapes Go.ChangeAt Go.RowKit
set_option linter.unusedVariables false
set_option maxRecDepth 100000

theorem few_big (s : ByteArray) (n : Nat) (hs : s.size ≤ 9223372036854775807) (hn : n ≤ 1000000) (w : World) :
    Calls Try.prog 13 #[.string s, .int .i64 (n : Int)] w fun e w' => e = .returned (.string (fewS s n)) ∧ w' = w := by
  unfold fewS
  by_cases h : n < s.size
  · rw [if_pos h]
    go_enter Try.func13, Try.ntmps13
    go_wp2
    all_goals first
      | omega
      | (go_ret; exact ⟨rfl, rfl⟩)
  · rw [if_neg h]
    go_enter Try.func13, Try.ntmps13
    go_wp2
    all_goals first
      | omega
      | (go_ret; exact ⟨rfl, rfl⟩)

theorem tokens_lies (s : ByteArray) (hs : s.size ≤ 1100000) (ts : List Tok) (h : scan (bs s) 0 = .ok ts) (w : World) :
    Calls Try.prog 9 #[.string s] w fun e w' => Below w.heap.size w w' ∧ ∃ a cap, e = .returned (.tuple #[.slice a ts.length cap, .int .i64 0, .int .i64 0]) ∧ TokLies w' a ts := by
  refine (tokens_ok s hs ts h w).mono ?_
  rintro e w' ⟨hb, v, rfl, hown⟩
  obtain ⟨a, cap, rfl, hl⟩ := own_lies hown
  exact ⟨hb, a, cap, rfl, hl⟩

theorem bel_step {B : Nat} {w a b : World} (h : Below B w a ∧ B ≤ a.heap.size) (k : Below a.heap.size a b) : Below B w b ∧ B ≤ b.heap.size :=
  ⟨h.1.trans (k.mono h.2), Nat.le_trans h.2 k.size⟩

theorem lexCut_walk (s t : ByteArray) (hs : s.size ≤ maxLen) (ht : t.size ≤ maxLen) (w : World) :
    Calls Try.prog 7 #[.string s, .string t] w fun e w' => e = .returned (.bool true) ∧ Below w.heap.size w w' := by
  unfold maxLen at hs ht
  have hf1 : ∀ w, Calls Try.prog 13 #[.string s, .int .i64 500] w fun e w' => e = .returned (.string (fewS s 500)) ∧ w' = w := fun w => few_big s 500 (by omega) (by omega) w
  have hf2 : ∀ w, Calls Try.prog 13 #[.string t, .int .i64 300] w fun e w' => e = .returned (.string (fewS t 300)) ∧ w' = w := fun w => few_big t 300 (by omega) (by omega) w
  have z1 := fewS_size s 500
  have z2 := fewS_size t 300
  obtain ⟨s1, hs1⟩ : ∃ s1, s1 = fewS s 500 := ⟨_, rfl⟩
  obtain ⟨t1, ht1⟩ : ∃ t1, t1 = fewS t 300 := ⟨_, rfl⟩
  rw [← hs1] at hf1 z1
  rw [← ht1] at hf2 z2
  clear hs1 ht1
  have hF1 := Hid.intro hf1
  have hF2 := Hid.intro hf2
  clear hf1 hf2
  cases hsc : scan (bs s1) 0 with
  | error p =>
    have hT := Hid.intro (fun w => tokens_bad s1 (by omega) p hsc w)
    clear hsc
    go_enter Try.func7, Try.ntmps7
    go_wp2_with (first
      | (go_at_call 13; with_reducible refine (hF1.out _).mono ?_; rintro e w' ⟨rfl, rfl⟩)
      | (go_at_call 9; with_reducible refine (hT.out _).mono ?_; rintro e w1 ⟨hb1, rfl⟩)
      | (go_at_call 12; refine (known_any _).mono ?_; rintro e w2 ⟨rfl, hb2⟩))
    go_ret
    exact ⟨rfl, hb1.trans (hb2.mono hb1.size)⟩
  | ok ts =>
    have hT := Hid.intro (fun w => tokens_lies s1 (by omega) ts hsc w)
    have hlen := scan_len _ _ _ hsc
    rw [bs_length] at hlen
    have hsc2 : scan (bs (s1 ++ ⟨#[32, 59]⟩ ++ t1)) 0 = .ok ts := by
      have e : bs (s1 ++ ⟨#[32, 59]⟩ ++ t1) = bs s1 ++ (32 : UInt8) :: (59 : UInt8) :: bs t1 := by simp [bs]
      rw [e]
      exact scan_cut _ _ _ _ hsc
    have e2 : (⟨#[32, 59]⟩ : ByteArray).size = 2 := rfl
    have hz3 : (s1 ++ ⟨#[32, 59]⟩ : ByteArray).size ≤ 502 := by rw [ByteArray.size_append, e2]; omega
    have hz4 : (s1 ++ ⟨#[32, 59]⟩ ++ t1 : ByteArray).size ≤ 802 := by rw [ByteArray.size_append]; omega
    have hT2 := Hid.intro (fun w => tokens_lies _ (Nat.le_trans hz4 (by omega)) ts hsc2 w)
    have ha1 : ∀ W : World, (Op.stringOp .add s1 ⟨#[32, 59]⟩).run Try.prog W = .ok (.string (s1 ++ ⟨#[32, 59]⟩)) W := fun W => run_string_add_sum W _ _ (by rw [e2]; omega)
    have ha2 : ∀ W : World, (Op.stringOp .add (s1 ++ ⟨#[32, 59]⟩) t1).run Try.prog W = .ok (.string (s1 ++ ⟨#[32, 59]⟩ ++ t1)) W := fun W => run_string_add_sum W _ _ (by omega)
    clear hsc hsc2 hz3 hz4 e2
    go_enter Try.func7, Try.ntmps7
    go_wp2_with (first
      | (go_at_call 13; first
        | (with_reducible refine (hF1.out _).mono ?_; rintro e w' ⟨rfl, rfl⟩)
        | (with_reducible refine (hF2.out _).mono ?_; rintro e w' ⟨rfl, rfl⟩))
      | (go_at_call 9; first
        | (with_reducible refine (hT.out _).mono ?_; rintro e w1 ⟨hb1, a1, cap1, rfl, hl1⟩)
        | (with_reducible refine (hT2.out _).mono ?_; rintro e w2 ⟨hb2, a2, cap2, rfl, hl2⟩))
      | (go_at_call 18; refine (same_eq _ _ _ _ _ _ (hl1.below hb2 (Nat.le_refl _)) hl2 (by omega)).mono ?_; rintro e w3 ⟨rfl, n3, rfl⟩)
      | (go_at_call 12; refine (known_any _).mono ?_; rintro e w4 ⟨rfl, hb4⟩))
    go_ret
    have k1 := bel_step ⟨hb1, hb1.size⟩ hb2
    have k2 := below_drewN k1.1 n3
    exact ⟨rfl, (bel_step ⟨k2, k1.2⟩ hb4).1⟩
end Go.Proofs.Ytaanfphknnijeaa

/- The walk of LexTokens. -/
import Derived.Test.YtaanfphknnijeaaSame2
import Derived.Test.YtaanfphknnijeaaRefTok
import Derived.Test.YtaanfphknnijeaaCutW
namespace Go.Proofs.Ytaanfphknnijeaa
open Go.ChangeShapes Go.WideShapes Go.ChangeAt Go.RowKit
set_option linter.unusedVariables false
set_option maxRecDepth 100000

theorem refTokens_lies (s : ByteArray) (hs : s.size ≤ 1100000) (ts : List Tok) (h : scan (bs s) 0 = .ok ts) (w : World) :
    Calls Try.prog 14 #[.string s] w fun e w' => Below w.heap.size w w' ∧ ∃ a cap, e = .returned (.tuple #[.slice a ts.length cap, .int .i64 0, .int .i64 0]) ∧ TokLies w' a ts := by
  have := refTokens_any s hs w
  rw [h] at this
  refine this.mono ?_
  rintro e w' ⟨hb, v, rfl, hown⟩
  obtain ⟨a, cap, rfl, hl⟩ := own_lies hown
  exact ⟨hb, a, cap, rfl, hl⟩

theorem refTokens_bad (s : ByteArray) (hs : s.size ≤ 1100000) (p : Nat) (h : scan (bs s) 0 = .error p) (w : World) :
    Calls Try.prog 14 #[.string s] w fun e w' => Below w.heap.size w w' ∧ e = .returned (.tuple #[.slice none 0 0, .int .i64 (p : Int), .int .i64 20]) := by
  have := refTokens_any s hs w
  rw [h] at this
  exact this

theorem lexTokens_walk (s : ByteArray) (hs : s.size ≤ maxLen) (w : World) :
    Calls Try.prog 4 #[.string s] w fun e w' => e = .returned (.bool true) ∧ Below w.heap.size w w' := by
  unfold maxLen at hs
  have hf1 : ∀ w, Calls Try.prog 13 #[.string s, .int .i64 3000] w fun e w' => e = .returned (.string (fewS s 3000)) ∧ w' = w := fun w => few_big s 3000 (by omega) (by omega) w
  have z1 := fewS_size s 3000
  obtain ⟨s1, hs1⟩ : ∃ s1, s1 = fewS s 3000 := ⟨_, rfl⟩
  rw [← hs1] at hf1 z1
  clear hs1
  have hF1 := Hid.intro hf1
  clear hf1
  cases hsc : scan (bs s1) 0 with
  | error p =>
    have hT := Hid.intro (fun w => tokens_bad s1 (by omega) p hsc w)
    have hT2 := Hid.intro (fun w => refTokens_bad s1 (by omega) p hsc w)
    have hS := Hid.intro (fun w => lawSame_eq none none 0 0 [] w (.inl rfl) (.inl rfl) (by simp))
    clear hsc
    go_enter Try.func4, Try.ntmps4
    go_wp2_with (first
      | (go_at_call 13; with_reducible refine (hF1.out _).mono ?_; rintro e w' ⟨rfl, rfl⟩)
      | (go_at_call 9; with_reducible refine (hT.out _).mono ?_; rintro e w1 ⟨hb1, rfl⟩)
      | (go_at_call 14; with_reducible refine (hT2.out _).mono ?_; rintro e w2 ⟨hb2, rfl⟩)
      | (go_at_call 15; refine (hS.out _).mono ?_; rintro e w3 ⟨rfl, n3, rfl⟩)
      | (go_at_call 12; refine (known_any _).mono ?_; rintro e w4 ⟨rfl, hb4⟩))
    go_ret
    have k1 := bel_step ⟨hb1, hb1.size⟩ hb2
    have k2 := below_drewN k1.1 n3
    exact ⟨rfl, (bel_step ⟨k2, k1.2⟩ hb4).1⟩
  | ok ts =>
    have hT := Hid.intro (fun w => tokens_lies s1 (by omega) ts hsc w)
    have hT2 := Hid.intro (fun w => refTokens_lies s1 (by omega) ts hsc w)
    have hlen := scan_len _ _ _ hsc
    rw [bs_length] at hlen
    clear hsc
    go_enter Try.func4, Try.ntmps4
    go_wp2_with (first
      | (go_at_call 13; with_reducible refine (hF1.out _).mono ?_; rintro e w' ⟨rfl, rfl⟩)
      | (go_at_call 9; with_reducible refine (hT.out _).mono ?_; rintro e w1 ⟨hb1, a1, cap1, rfl, hl1⟩)
      | (go_at_call 14; with_reducible refine (hT2.out _).mono ?_; rintro e w2 ⟨hb2, a2, cap2, rfl, hl2⟩)
      | (go_at_call 15; refine (lawSame_eq _ _ _ _ _ _ (hl1.below hb2 (Nat.le_refl _)) hl2 (by omega)).mono ?_; rintro e w3 ⟨rfl, n3, rfl⟩)
      | (go_at_call 12; refine (known_any _).mono ?_; rintro e w4 ⟨rfl, hb4⟩))
    go_ret
    have k1 := bel_step ⟨hb1, hb1.size⟩ hb2
    have k2 := below_drewN k1.1 n3
    exact ⟨rfl, (bel_step ⟨k2, k1.2⟩ hb4).1⟩
end Go.Proofs.Ytaanfphknnijeaa

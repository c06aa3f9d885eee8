/- The document's Parse, whole; the walk of LineParses. -/
import Derived.Test.YtdmhdhmclcogoaaRefPL
import Derived.Test.YtdmhdhmclcogoaaRefPB
import Derived.Test.YtdmhdhmclcogoaaRefPC
namespace Go.Proofs.Ytdmhdhmclcogoaa
open Go.ChangeShapes Go.WideShapes Go.ChangeAt Go.RowKit
set_option linter.unusedVariables false
set_option maxRecDepth 100000

theorem lineT_one (n : Nat) (lab : List UInt8) (t : Tok) (hk : t.kind = 1) : lineT n lab [t] = .ok ⟨lab, t.text, []⟩ := by
  simp only [lineT]
  rw [if_pos hk]
  rfl
theorem lineT_no (n : Nat) (lab : List UInt8) (t : Tok) (r : List Tok) (hk : t.kind ≠ 1) : lineT n lab (t :: r) = .error t.place := by
  simp only [lineT]
  rw [if_neg hk]
theorem lineT_more (n : Nat) (lab : List UInt8) (t u : Tok) (r : List Tok) (hk : t.kind = 1) : lineT n lab (t :: u :: r) = lnR lab t.text (argsF n (u :: r) [] []) := by
  simp only [lineT]
  rw [if_pos hk]
  unfold argsT
  rw [if_neg (by simp)]
  cases argsF n (u :: r) [] [] <;> rfl
theorem cutT_no (t u : Tok) (r : List Tok) (h : ¬ (t.kind = 1 ∧ isS u 58 = true)) : cutT (t :: u :: r) = ([], t :: u :: r) := by
  simp only [cutT]
  rw [if_neg h]
theorem cutT_yes (t u : Tok) (r : List Tok) (h : t.kind = 1 ∧ isS u 58 = true) : cutT (t :: u :: r) = (t.text, r) := by
  simp only [cutT]
  rw [if_pos h]

theorem refParse_any (s : ByteArray) (hs : s.size ≤ 1100000) (w : World) :
    Calls Try.prog 13 #[.string s] w fun e w' => RPOut w.heap.size w (parseL (bs s)) e w' := by
  unfold parseL
  cases h : scan (bs s) 0 with
  | error p => exact refParse_bad s hs p h w
  | ok ts =>
    simp only
    rw [bs_length]
    unfold parseT
    match ts, h with
    | [], h => exact refParse_none s hs h w
    | [t], h =>
      by_cases hk : t.kind = 1
      · show Calls _ _ _ _ fun e w' => RPOut w.heap.size w (lineT s.size [] [t]) e w'
        rw [lineT_one _ _ _ hk]
        exact refParse_one s hs t h hk w
      · show Calls _ _ _ _ fun e w' => RPOut w.heap.size w (lineT s.size [] [t]) e w'
        rw [lineT_no _ _ _ _ hk]
        exact refParse_wrong s hs t [] h hk w
    | t :: u :: r, h =>
      by_cases hk : t.kind = 1
      · cases hu : isS u 58
        · rw [cutT_no t u r (fun x => by rw [hu] at x; cases x.2), lineT_more _ _ _ _ _ hk]
          exact refParse_loop s hs t u r h hk hu w
        · rw [cutT_yes t u r ⟨hk, hu⟩]
          match r, h with
          | [], h => exact refParse_lab s hs t u h hk hu w
          | [x], h =>
            by_cases hkx : x.kind = 1
            · rw [lineT_one _ _ _ hkx]
              exact refParse_labOp s hs t u x h hk hu hkx w
            · rw [lineT_no _ _ _ _ hkx]
              exact refParse_labWrong s hs t u x [] h hk hu hkx w
          | x :: y :: r, h =>
            by_cases hkx : x.kind = 1
            · rw [lineT_more _ _ _ _ _ hkx]
              exact refParse_labLoop s hs t u x y r h hk hu hkx w
            · rw [lineT_no _ _ _ _ hkx]
              exact refParse_labWrong s hs t u x (y :: r) h hk hu hkx w
      · rw [cutT_no t u r (fun x => hk x.1), lineT_no _ _ _ _ hk]
        exact refParse_wrong s hs t (u :: r) h hk w

theorem refParse_err (s : ByteArray) (hs : s.size ≤ 1100000) (p : Nat) (h : parseL (bs s) = .error p) (w : World) :
    Calls Try.prog 13 #[.string s] w fun e w' => Below w.heap.size w w' ∧ e = .returned (.tuple #[lineZ, .int .i64 (p : Int), .int .i64 20]) := by
  have := refParse_any s hs w
  rw [h] at this
  exact this

theorem refParse_line (s : ByteArray) (hs : s.size ≤ 1100000) (L : Ln) (h : parseL (bs s) = .ok L) (w : World) :
    Calls Try.prog 13 #[.string s] w fun e w' => Below w.heap.size w w' ∧ ∃ a c, e = .returned (.tuple #[.agg #[.string (str L.label), .string (str L.op), .slice a L.args.length c], .int .i64 0, .int .i64 0]) ∧ ArgsLie w' a L.args := by
  have := refParse_any s hs w
  rw [h] at this
  exact this

theorem lineParses_walk (s : ByteArray) (hs : s.size ≤ maxLen) (w : World) :
    Calls Try.prog 4 #[.string s] w fun e w' => e = .returned (.bool true) ∧ Below w.heap.size w w' := by
  unfold maxLen at hs
  have hf1 : ∀ w, Calls Try.prog 12 #[.string s, .int .i64 1000] w fun e w' => e = .returned (.string (fewS s 1000)) ∧ w' = w := fun w => few_big s 1000 (by omega) (by omega) w
  have z1 := fewS_size s 1000
  obtain ⟨s1, hs1⟩ : ∃ s1, s1 = fewS s 1000 := ⟨_, rfl⟩
  rw [← hs1] at hf1 z1
  clear hs1
  have hF1 := Hid.intro hf1
  clear hf1
  cases hp : parseL (bs s1) with
  | error p =>
    have hP1 := Hid.intro (fun w => parse_err s1 (by omega) p hp w)
    have hP2 := Hid.intro (fun w => refParse_err s1 (by omega) p hp w)
    have hS := Hid.intro (fun w => lineSame_eq ⟨#[]⟩ ⟨#[]⟩ none none 0 0 [] w (.inl rfl) (.inl rfl) (by simp) (fun xs hx => by cases hx))
    clear hp
    go_enter Try.func4, Try.ntmps4
    go_wp2_with (first
      | (go_at_call 12; with_reducible refine (hF1.out _).mono ?_; rintro e w' ⟨rfl, rfl⟩)
      | (go_at_call 8; with_reducible refine (hP1.out _).mono ?_; rintro e w1 ⟨hb1, rfl⟩)
      | (go_at_call 13; with_reducible refine (hP2.out _).mono ?_; rintro e w2 ⟨hb2, rfl⟩; obtain ⟨k0, k1, k2⟩ := lineBox_below hb2; replace k0 := cellA k0; replace k1 := cellA k1; replace k2 := cellA k2)
      | (go_at_call 9; refine (hS.out _).mono ?_; rintro e w3 ⟨rfl, hb3⟩)
      | (go_at_call 11; refine (known_any _).mono ?_; rintro e w4 ⟨rfl, hb4⟩))
    go_ret
    have k1 := bel_step ⟨hb1, hb1.size⟩ (one_below hb2)
    have k2 := bel_step k1 (one_below hb3)
    exact ⟨rfl, (bel_step k2 hb4).1⟩
  | ok L =>
    have hfew := parseL_few _ _ hp
    rw [bs_length] at hfew
    have hP1 := Hid.intro (fun w => parse_line s1 (by omega) L hp w)
    have hP2 := Hid.intro (fun w => refParse_line s1 (by omega) L hp w)
    obtain ⟨lab, op, acc⟩ := L
    simp only at hP1 hP2 hfew
    have hx : ∀ xs ∈ acc, xs.length ≤ 1100000 := fun xs hx => by have := hfew.2 xs hx; omega
    clear hp
    go_enter Try.func4, Try.ntmps4
    go_wp2_with (first
      | (go_at_call 12; with_reducible refine (hF1.out _).mono ?_; rintro e w' ⟨rfl, rfl⟩)
      | (go_at_call 8; with_reducible refine (hP1.out _).mono ?_; rintro e w1 ⟨hb1, a1, c1, vs, m, rfl, hA⟩; replace hA := Hid.intro hA)
      | (go_at_call 13; with_reducible refine (hP2.out _).mono ?_; rintro e w2 ⟨hb2, a2, c2, rfl, hl2⟩; replace hl2 := Hid.intro hl2; obtain ⟨k0, k1, k2⟩ := lineBox_below hb2; replace k0 := cellA k0; replace k1 := cellA k1; replace k2 := cellA k2)
      | (go_at_call 9; refine (lineSame_eq _ _ _ _ _ _ acc _ ((hA.out.lies.below (one_below hb2)).below (below_alloc w2 _)) (hl2.out.below (below_alloc w2 _)) (by omega) hx).mono ?_; rintro e w3 ⟨rfl, hb3⟩)
      | (go_at_call 11; refine (known_any _).mono ?_; rintro e w4 ⟨rfl, hb4⟩))
    go_ret
    have k1 := bel_step ⟨hb1, hb1.size⟩ (one_below hb2)
    have k2 := bel_step k1 (one_below hb3)
    exact ⟨rfl, (bel_step k2 hb4).1⟩
end Go.Proofs.Ytdmhdhmclcogoaa

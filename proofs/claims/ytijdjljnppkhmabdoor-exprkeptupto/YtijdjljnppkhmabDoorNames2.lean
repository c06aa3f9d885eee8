/- The document's Register and Legal, and Legal. -/
import Derived.Test.YtijdjljnppkhmabDoorNames
namespace Go.Proofs.YtijdjljnppkhmabDoor
open Go.ChangeShapes Go.WideShapes Go.ChangeAt Go.RowKit
set_option linter.unusedVariables false
set_option maxRecDepth 100000

theorem refRegister_any (s : ByteArray) (hs : s.size ≤ 4611686018427387904) (w : World) :
    Calls Tryd.prog 33 #[.string s] w fun e w' => e = .returned (.tuple #[.int .i64 (regN s), .bool (isZ s), .bool (isR s || isZ s)]) ∧ w' = w := by
  by_cases h2 : s.size = 2
  · have g0 := atI_get s 0 (by omega)
    have g1 := atI_get s 1 (by omega)
    have l1 := atI_lo (bs s) 1
    have m1 := atI_hi (bs s) 1
    obtain ⟨c0, hc0⟩ : ∃ c, c = atI (bs s) 0 := ⟨_, rfl⟩
    obtain ⟨c1, hc1⟩ : ∃ c, c = atI (bs s) 1 := ⟨_, rfl⟩
    have er : isR s = decide (c0 = 114 ∧ 48 ≤ c1 ∧ c1 ≤ 55) := by simp [isR, h2, hc0, hc1]
    have ez : isZ s = decide (c0 = 122 ∧ 48 ≤ c1 ∧ c1 ≤ 51) := by simp [isZ, h2, hc0, hc1]
    have en : regN s = if isR s || isZ s then c1 - 48 else 0 := by rw [hc1]; rfl
    rw [← hc0] at g0
    rw [← hc1] at g1 l1 m1
    rw [en, er, ez]
    clear er ez en hc0 hc1
    by_cases hr : c0 = 114 ∧ 48 ≤ c1 ∧ c1 ≤ 55
    · have e1 : decide (c0 = 114 ∧ 48 ≤ c1 ∧ c1 ≤ 55) = true := by simp; omega
      have e2 : decide (c0 = 122 ∧ 48 ≤ c1 ∧ c1 ≤ 51) = false := by simp; omega
      rw [e1, e2]
      simp only [Bool.true_or, if_true]
      obtain ⟨hr1, hr2, hr3⟩ := hr
      clear e1 e2
      subst hr1
      go_enter Tryd.func33, Tryd.ntmps33
      go_wp2
      all_goals first
        | omega
        | (go_ret3; exact ⟨rfl, rfl⟩)
    · have e1 : decide (c0 = 114 ∧ 48 ≤ c1 ∧ c1 ≤ 55) = false := by simp; omega
      by_cases hz : c0 = 122 ∧ 48 ≤ c1 ∧ c1 ≤ 51
      · have e2 : decide (c0 = 122 ∧ 48 ≤ c1 ∧ c1 ≤ 51) = true := by simp; omega
        rw [e1, e2]
        simp only [Bool.or_true, if_true]
        obtain ⟨hr1, hr2, hr3⟩ := hz
        clear e1 e2 hr
        subst hr1
        go_enter Tryd.func33, Tryd.ntmps33
        go_wp2
        all_goals first
          | omega
          | (go_ret3; exact ⟨rfl, rfl⟩)
      · have e2 : decide (c0 = 122 ∧ 48 ≤ c1 ∧ c1 ≤ 51) = false := by simp; omega
        rw [e1, e2]
        simp only [Bool.or_self, Bool.false_eq_true, if_false]
        clear e1 e2
        have hrH := Hid.intro hr
        have hzH := Hid.intro hz
        clear hr hz
        by_cases h1 : c0 = 114
        · have h1' : (c0 == 114) = true := by simp [h1]
          have h2' : (c0 == 122) = false := by simp; omega
          have h1H := Hid.intro h1
          clear h1
          go_enter Tryd.func33, Tryd.ntmps33
          go_wp2
          all_goals first
            | (exfalso; have := hrH.out; have := h1H.out; omega)
            | (go_ret3; exact ⟨rfl, rfl⟩)
        · have h1' : (c0 == 114) = false := by simp [h1]
          clear h1
          by_cases h3 : c0 = 122
          · have h3' : (c0 == 122) = true := by simp [h3]
            have h3H := Hid.intro h3
            clear h3
            go_enter Tryd.func33, Tryd.ntmps33
            go_wp2
            all_goals first
              | (exfalso; have := hzH.out; have := h3H.out; omega)
              | (go_ret3; exact ⟨rfl, rfl⟩)
          · have h3' : (c0 == 122) = false := by simp [h3]
            clear h3
            go_enter Tryd.func33, Tryd.ntmps33
            go_wp2
            go_ret3
            exact ⟨rfl, rfl⟩
  · have er : isR s = false := by simp [isR, h2]
    have ez : isZ s = false := by simp [isZ, h2]
    rw [reg_none s er ez, er, ez]
    have hn : ((s.size : Int) != 2) = true := by simp; omega
    clear er ez h2
    go_enter Tryd.func33, Tryd.ntmps33
    go_wp2
    go_ret3
    exact ⟨rfl, rfl⟩

/-- is it a name, and nothing else? -/
def nameOK (l : List UInt8) : Bool := decide (isLet (atI l 0) = true ∧ lenW inW l = l.length ∧ l.length ≤ 32)

theorem scan_text (r : List UInt8) (a : Nat) (ts : List Tok) (h : scan r a = .ok ts) : ∀ t ∈ ts, t.text.length ≤ r.length := by
  induction hn : r.length using Nat.strongRecOn generalizing r a ts with
  | _ n ih =>
    subst hn
    cases r with
    | nil => unfold scan at h; cases h; simp
    | cons b r =>
      unfold scan at h
      split at h
      · cases h; simp
      · split at h
        · intro t ht
          have := ih r.length (by simp) r _ ts h rfl t ht
          simp; omega
        · split at h
          · cases h
          · split at h
            · rename_i kind n k heq1 _ us heq2
              have hk := tokAt_some _ _ _ _ heq1
              have := ih (r.drop (k - 1)).length (by simp; omega) _ _ us heq2 rfl
              cases h
              intro t ht
              rw [List.mem_cons] at ht
              rcases ht with rfl | ht
              · simp only [List.length_take]
                omega
              · have := this t ht
                simp only [List.length_drop] at this
                simp
                omega
            · cases h

theorem name_of_scan (l : List UInt8) (t : Tok) (h : scan l 0 = .ok [t]) (hk : t.kind = 1) (ht : t.text = l) : nameOK l = true := by
  cases l with
  | nil => unfold scan at h; cases h
  | cons b r =>
    have h0 := h
    unfold scan at h
    split at h
    · cases h
    · split at h
      · have := scan_text r _ _ h t (by simp)
        rw [ht] at this
        simp at this
        omega
      · split at h
        · cases h
        · split at h
          · rename_i kind n k heq1 _ us heq2
            have hks := tokAt_some _ _ _ _ heq1
            cases h
            simp only at hk ht
            subst hk
            have hlen : k = (b :: r).length := by
              have := congrArg List.length ht
              rw [List.length_take] at this
              omega
            unfold tokAt at heq1
            split at heq1
            · rename_i hl
              split at heq1
              · simp at heq1
                simp only [nameOK, decide_eq_true_eq]
                exact ⟨hl, by omega, by omega⟩
              · cases heq1
            · split at heq1
              · split at heq1
                · cases heq1
                · simp at heq1
              · split at heq1
                · simp at heq1
                · cases heq1
          · cases h

theorem let_no (c : Int) (h : isLet c = true) : c ≠ 59 ∧ isBl c = false := by
  simp [isLet] at h
  refine ⟨by omega, ?_⟩
  simp [isBl]
  omega

theorem scan_of_name (l : List UInt8) (h : nameOK l = true) : scan l 0 = .ok [⟨1, l, 0, 0⟩] := by
  simp only [nameOK, decide_eq_true_eq] at h
  obtain ⟨h1, h2, h3⟩ := h
  have hpos : 0 < l.length := (lenW_more inW inW_zero l (inW_of_let _ h1)).2
  have hn := let_no _ h1
  have ht : tokAt (l.drop 0) = some (1, 0, l.length) := by
    rw [List.drop_zero]
    unfold tokAt
    rw [if_pos h1, if_pos (by omega), h2]
  have := scan_tok l 0 hpos hn.1 hn.2 1 0 l.length ht
  rw [List.drop_zero, scan_end l (0 + l.length) (by omega), List.take_length] at this
  exact this

def legB (s : ByteArray) : Bool := nameOK (bs s) && !(isR s || isZ s)

theorem own_any {w : World} {B n : Nat} {T : TypeId} {v : Value} {xs : List Value} (h : w.ownsRow B T 4 v n xs) : ∃ a cap, v = .slice a n cap := by
  obtain ⟨hl, ⟨hv, h0⟩ | ⟨g, cap, cur, hv, r⟩⟩ := h
  · exact ⟨none, 0, by rw [hv, h0]⟩
  · exact ⟨_, cap, hv⟩

theorem legal_any (s : ByteArray) (hs : s.size ≤ 1100000) (w : World) :
    Calls Tryd.prog 67 #[.string s] w fun e w' => e = .returned (.bool (legB s)) ∧ Below w.heap.size w w' := by
  have hs2 : s.size ≤ 4611686018427387904 := by omega
  cases hsc : scan (bs s) 0 with
  | error p =>
    have hl : legB s = false := by
      cases h : nameOK (bs s)
      · simp [legB, h]
      · rw [scan_of_name _ h] at hsc; cases hsc
    rw [hl]
    have hH := Hid.intro (tokens_bad s hs p hsc w)
    clear hsc hl
    go_enter Tryd.func67, Tryd.ntmps67
    go_wp2_with (go_at_call 77; refine (hH.out).mono ?_; rintro e w1 ⟨hb1, rfl⟩)
    go_ret
    exact ⟨rfl, hb1⟩
  | ok ts =>
    have hH := Hid.intro (tokens_ok s hs ts hsc w)
    by_cases h1 : ts.length = 1
    · obtain ⟨t, rfl⟩ : ∃ t, ts = [t] := by
        match ts, h1 with
        | [t], _ => exact ⟨t, rfl⟩
      have hH2 : Hid (Calls Tryd.prog 77 #[.string s] w fun e w' => Below w.heap.size w w' ∧ ∃ g cap, e = .returned (.tuple #[.slice (some ⟨g, 0, none⟩) 1 cap, .int .i64 0, .int .i64 0]) ∧ TokAt w' g 0 t) := by
        refine (hH.out).mono ?_
        rintro e w' ⟨hb, v, rfl, hown⟩
        obtain ⟨g, cap, rfl, _, hg⟩ := own_form (n := 0) hown
        exact ⟨hb, g, cap, rfl, tok_at hown 0 _ rfl⟩
      have hleg : legB s = ((t.kind == 1) && ((str t.text).toList == s.toList) && !(isR s || isZ s)) := by
        unfold legB
        congr 1
        rw [str_toList, Lib.toList_data, Bool.eq_iff_iff]
        simp only [Bool.and_eq_true, beq_iff_eq]
        constructor
        · intro h
          have h2 := scan_of_name _ h
          rw [hsc] at h2
          cases h2
          exact ⟨rfl, rfl⟩
        · rintro ⟨ha, hb⟩
          exact name_of_scan _ t hsc ha hb
      rw [hleg]
      clear hH hsc h1 hleg
      cases hk : (t.kind == 1)
      · go_enter Tryd.func67, Tryd.ntmps67
        go_wp2_with (first
          | (go_at_call 77; refine (hH2.out).mono ?_; rintro e w1 ⟨hb1, g, cap, rfl, ht⟩; obtain ⟨k0, k1, k2, k3⟩ := ht; simp only [Nat.zero_mul, Nat.zero_add] at k0 k1 k2 k3)
          | (go_at_call 78; refine (register_any _ hs2 _).mono ?_; rintro e w' ⟨rfl, rfl⟩))
        go_ret
        exact ⟨by simp, hb1⟩
      · cases hq : ((str t.text).toList == s.toList)
        · go_enter Tryd.func67, Tryd.ntmps67
          go_wp2_with (first
            | (go_at_call 77; refine (hH2.out).mono ?_; rintro e w1 ⟨hb1, g, cap, rfl, ht⟩; obtain ⟨k0, k1, k2, k3⟩ := ht; simp only [Nat.zero_mul, Nat.zero_add] at k0 k1 k2 k3)
            | (go_at_call 78; refine (register_any _ hs2 _).mono ?_; rintro e w' ⟨rfl, rfl⟩))
          go_ret
          exact ⟨by simp, hb1⟩
        · go_enter Tryd.func67, Tryd.ntmps67
          go_wp2_with (first
            | (go_at_call 77; refine (hH2.out).mono ?_; rintro e w1 ⟨hb1, g, cap, rfl, ht⟩; obtain ⟨k0, k1, k2, k3⟩ := ht; simp only [Nat.zero_mul, Nat.zero_add] at k0 k1 k2 k3)
            | (go_at_call 78; refine (register_any _ hs2 _).mono ?_; rintro e w' ⟨rfl, rfl⟩))
          go_ret
          exact ⟨by simp, hb1⟩
    · have hl : legB s = false := by
        cases h : nameOK (bs s)
        · simp [legB, h]
        · rw [scan_of_name _ h] at hsc; cases hsc; simp at h1
      rw [hl]
      obtain ⟨n, hn⟩ : ∃ n, n = ts.length := ⟨_, rfl⟩
      have hlen := scan_len _ _ _ hsc
      rw [bs_length, ← hn] at hlen
      have hH2 : Hid (Calls Tryd.prog 77 #[.string s] w fun e w' => Below w.heap.size w w' ∧ ∃ a cap, e = .returned (.tuple #[.slice a n cap, .int .i64 0, .int .i64 0])) := by
        refine (hH.out).mono ?_
        rintro e w' ⟨hb, v, rfl, hown⟩
        obtain ⟨a, cap, rfl⟩ := own_any hown
        exact ⟨hb, a, cap, by rw [hn]⟩
      have hne : ((n : Int) != 1) = true := by rw [← hn] at h1; simp; omega
      clear hH hsc hl h1 hn
      go_enter Tryd.func67, Tryd.ntmps67
      go_wp2_with (go_at_call 77; refine (hH2.out).mono ?_; rintro e w1 ⟨hb1, a, cap, rfl⟩)
      go_ret
      exact ⟨rfl, hb1⟩
end Go.Proofs.YtijdjljnppkhmabDoor

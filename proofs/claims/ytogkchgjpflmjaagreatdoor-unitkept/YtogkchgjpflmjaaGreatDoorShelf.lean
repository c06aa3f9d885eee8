/- The library's slices.SortFunc and slices.Equal at terms, slices.Contains at texts: the shelf's layings at this program's numbers. -/
import Derived.Test.YtogkchgjpflmjaaGreatDoorKnown
import Derived.Lib.Bytealg
import Derived.Handy
import Derived.Shelf.SlGeneric
import Derived.Shelf.SlSortCmp.WholeK
import Derived.Shelf.Slices.Turned
import Derived.Test.YtogkchgjpflmjaaGreatDoorProg
/- Register and Legal, and the document's. -/
namespace Go.Proofs.YtogkchgjpflmjaaGreatDoor
open Go.ChangeShapes Go.WideShapes Go.ChangeAt Go.RowKit
set_option linter.unusedVariables false
set_option maxRecDepth 100000
def isR (s : ByteArray) : Bool := decide (s.size = 2 ∧ atI (bs s) 0 = 114 ∧ 48 ≤ atI (bs s) 1 ∧ atI (bs s) 1 ≤ 55)
def isZ (s : ByteArray) : Bool := decide (s.size = 2 ∧ atI (bs s) 0 = 122 ∧ 48 ≤ atI (bs s) 1 ∧ atI (bs s) 1 ≤ 51)
def regN (s : ByteArray) : Int := if isR s || isZ s then atI (bs s) 1 - 48 else 0
theorem reg_none (s : ByteArray) (h1 : isR s = false) (h2 : isZ s = false) : regN s = 0 := by simp [regN, h1, h2]
theorem reg_r (s : ByteArray) (h1 : isR s = true) : regN s = atI (bs s) 1 - 48 ∧ isZ s = false := by
  refine ⟨by simp [regN, h1], ?_⟩
  simp [isR] at h1
  simp [isZ]
  omega
theorem reg_z (s : ByteArray) (h1 : isZ s = true) : regN s = atI (bs s) 1 - 48 ∧ isR s = false := by
  refine ⟨by simp [regN, h1], ?_⟩
  simp [isZ] at h1
  simp [isR]
  omega
theorem register_any (s : ByteArray) (hs : s.size ≤ 4611686018427387904) (w : World) :
    Calls Tryz.prog 104 #[.string s] w fun e w' => e = .returned (.tuple #[.int .i64 (regN s), .bool (isZ s), .bool (isR s || isZ s)]) ∧ w' = w := by
  by_cases h2 : s.size = 2
  · have g0 := atI_get s 0 (by omega)
    have g1 := atI_get s 1 (by omega)
    obtain ⟨c0, hc0⟩ : ∃ c, c = atI (bs s) 0 := ⟨_, rfl⟩
    obtain ⟨c1, hc1⟩ : ∃ c, c = atI (bs s) 1 := ⟨_, rfl⟩
    have er : isR s = decide (c0 = 114 ∧ 48 ≤ c1 ∧ c1 ≤ 55) := by simp [isR, h2, hc0, hc1]
    have ez : isZ s = decide (c0 = 122 ∧ 48 ≤ c1 ∧ c1 ≤ 51) := by simp [isZ, h2, hc0, hc1]
    have en : regN s = if isR s || isZ s then c1 - 48 else 0 := by rw [hc1]; rfl
    rw [← hc0] at g0
    rw [← hc1] at g1
    cases hd : isDig c1
    · have hnd : ¬ (48 ≤ c1 ∧ c1 ≤ 57) := by simpa [isDig] using hd
      have er' : isR s = false := by rw [er]; simp; omega
      have ez' : isZ s = false := by rw [ez]; simp; omega
      rw [en, er', ez']
      clear er ez en er' ez' hc0 hc1
      go_enter Tryz.func104, Tryz.ntmps104
      go_wp2_with (first
        | (go_at_call 126; refine (isDigit_any _ _).mono ?_; rintro e w' ⟨rfl, rfl⟩))
      go_ret3
      exact ⟨rfl, rfl⟩
    · have hx := isHex_of_dig _ hd
      obtain ⟨b0, b1⟩ : 48 ≤ c1 ∧ c1 ≤ 57 := by simpa [isDig] using hd
      have hv : digI c1 = c1 - 48 := by unfold digI; rw [if_pos ⟨b0, b1⟩]
      have hcall : ∀ w, Calls Tryz.prog 131 #[.int .u8 c1] w fun e w' => e = .returned (.int .u64 (c1 - 48)) ∧ w' = w := fun w => by rw [← hv]; exact digit_any c1 hx w
      have hH := Hid.intro hcall
      clear hcall hv
      rw [en, er, ez]
      clear er ez en hc0 hc1
      by_cases hr : c0 = 114
      · have hr' : (c0 == 114) = true := by simp [hr]
        by_cases hlt : c1 ≤ 55
        · have e1 : decide (c0 = 114 ∧ 48 ≤ c1 ∧ c1 ≤ 55) = true := by simp; omega
          have e2 : decide (c0 = 122 ∧ 48 ≤ c1 ∧ c1 ≤ 51) = false := by simp; omega
          rw [e1, e2]
          simp only [Bool.true_or, if_true]
          clear e1 e2 hr
          go_enter Tryz.func104, Tryz.ntmps104
          go_wp2_with (first
            | (go_at_call 126; refine (isDigit_any _ _).mono ?_; rintro e w' ⟨rfl, rfl⟩)
            | (go_at_call 131; refine (hH.out _).mono ?_; rintro e w' ⟨rfl, rfl⟩))
          all_goals first
            | omega
            | (go_ret3; exact ⟨rfl, rfl⟩)
        · have e1 : decide (c0 = 114 ∧ 48 ≤ c1 ∧ c1 ≤ 55) = false := by simp; omega
          have e2 : decide (c0 = 122 ∧ 48 ≤ c1 ∧ c1 ≤ 51) = false := by simp; omega
          rw [e1, e2]
          simp only [Bool.or_self, Bool.false_eq_true, if_false]
          clear e1 e2
          have hz' : (c0 == 122) = false := by simp; omega
          clear hr
          go_enter Tryz.func104, Tryz.ntmps104
          go_wp2_with (first
            | (go_at_call 126; refine (isDigit_any _ _).mono ?_; rintro e w' ⟨rfl, rfl⟩)
            | (go_at_call 131; refine (hH.out _).mono ?_; rintro e w' ⟨rfl, rfl⟩))
          all_goals first
            | omega
            | (go_ret3; exact ⟨rfl, rfl⟩)
      · have hr' : (c0 == 114) = false := by simp [hr]
        by_cases hz : c0 = 122
        · have hz' : (c0 == 122) = true := by simp [hz]
          by_cases hlt : c1 ≤ 51
          · have e1 : decide (c0 = 114 ∧ 48 ≤ c1 ∧ c1 ≤ 55) = false := by simp; omega
            have e2 : decide (c0 = 122 ∧ 48 ≤ c1 ∧ c1 ≤ 51) = true := by simp; omega
            rw [e1, e2]
            simp only [Bool.or_true, if_true]
            clear e1 e2 hr hz
            go_enter Tryz.func104, Tryz.ntmps104
            go_wp2_with (first
              | (go_at_call 126; refine (isDigit_any _ _).mono ?_; rintro e w' ⟨rfl, rfl⟩)
              | (go_at_call 131; refine (hH.out _).mono ?_; rintro e w' ⟨rfl, rfl⟩))
            all_goals first
              | omega
              | (go_ret3; exact ⟨rfl, rfl⟩)
          · have e1 : decide (c0 = 114 ∧ 48 ≤ c1 ∧ c1 ≤ 55) = false := by simp; omega
            have e2 : decide (c0 = 122 ∧ 48 ≤ c1 ∧ c1 ≤ 51) = false := by simp; omega
            rw [e1, e2]
            simp only [Bool.or_self, Bool.false_eq_true, if_false]
            clear e1 e2 hr hz
            go_enter Tryz.func104, Tryz.ntmps104
            go_wp2_with (first
              | (go_at_call 126; refine (isDigit_any _ _).mono ?_; rintro e w' ⟨rfl, rfl⟩)
              | (go_at_call 131; refine (hH.out _).mono ?_; rintro e w' ⟨rfl, rfl⟩))
            all_goals first
              | omega
              | (go_ret3; exact ⟨rfl, rfl⟩)
        · have hz' : (c0 == 122) = false := by simp [hz]
          have e1 : decide (c0 = 114 ∧ 48 ≤ c1 ∧ c1 ≤ 55) = false := by simp; omega
          have e2 : decide (c0 = 122 ∧ 48 ≤ c1 ∧ c1 ≤ 51) = false := by simp; omega
          rw [e1, e2]
          simp only [Bool.or_self, Bool.false_eq_true, if_false]
          clear e1 e2 hr hz
          go_enter Tryz.func104, Tryz.ntmps104
          go_wp2_with (first
            | (go_at_call 126; refine (isDigit_any _ _).mono ?_; rintro e w' ⟨rfl, rfl⟩)
            | (go_at_call 131; refine (hH.out _).mono ?_; rintro e w' ⟨rfl, rfl⟩))
          all_goals first
            | omega
            | (go_ret3; exact ⟨rfl, rfl⟩)
  · have er : isR s = false := by simp [isR, h2]
    have ez : isZ s = false := by simp [isZ, h2]
    rw [reg_none s er ez, er, ez]
    have hn : ((s.size : Int) != 2) = true := by simp; omega
    clear er ez h2
    go_enter Tryz.func104, Tryz.ntmps104
    go_wp2
    go_ret3
    exact ⟨rfl, rfl⟩
end Go.Proofs.YtogkchgjpflmjaaGreatDoor
/- The document's Register and Legal, and Legal. -/
namespace Go.Proofs.YtogkchgjpflmjaaGreatDoor
open Go.ChangeShapes Go.WideShapes Go.ChangeAt Go.RowKit
set_option linter.unusedVariables false
set_option maxRecDepth 100000
def nameOK (l : List UInt8) : Bool := decide (isLet (atI l 0) = true ∧ lenW inW l = l.length ∧ l.length ≤ 32)
theorem scan_text (r : List UInt8) (a : Nat) (ts : List Tok) (h : scan r a = .ok ts) : ∀ t ∈ ts, t.text.length ≤ r.length := by
  induction hn : r.length using Nat.strongRecOn generalizing r a ts with
  | _ n ih =>
    subst hn
    cases r with
    | nil => unfold scan at h; cases h; simp
    | cons b r =>
      unfold scan at h
      split at h
      · cases h; simp
      · split at h
        · intro t ht
          have := ih r.length (by simp) r _ ts h rfl t ht
          simp; omega
        · split at h
          · cases h
          · split at h
            · rename_i kind n k heq1 _ us heq2
              have hk := tokAt_some _ _ _ _ heq1
              have := ih (r.drop (k - 1)).length (by simp; omega) _ _ us heq2 rfl
              cases h
              intro t ht
              rw [List.mem_cons] at ht
              rcases ht with rfl | ht
              · simp only [List.length_take]
                omega
              · have := this t ht
                simp only [List.length_drop] at this
                simp
                omega
            · cases h
theorem name_of_scan (l : List UInt8) (t : Tok) (h : scan l 0 = .ok [t]) (hk : t.kind = 1) (ht : t.text = l) : nameOK l = true := by
  cases l with
  | nil => unfold scan at h; cases h
  | cons b r =>
    have h0 := h
    unfold scan at h
    split at h
    · cases h
    · split at h
      · have := scan_text r _ _ h t (by simp)
        rw [ht] at this
        simp at this
        omega
      · split at h
        · cases h
        · split at h
          · rename_i kind n k heq1 _ us heq2
            have hks := tokAt_some _ _ _ _ heq1
            cases h
            simp only at hk ht
            subst hk
            have hlen : k = (b :: r).length := by
              have := congrArg List.length ht
              rw [List.length_take] at this
              omega
            unfold tokAt at heq1
            split at heq1
            · rename_i hl
              split at heq1
              · simp at heq1
                simp only [nameOK, decide_eq_true_eq]
                exact ⟨hl, by omega, by omega⟩
              · cases heq1
            · split at heq1
              · split at heq1
                · cases heq1
                · simp at heq1
              · split at heq1
                · simp at heq1
                · cases heq1
          · cases h
theorem let_no (c : Int) (h : isLet c = true) : c ≠ 59 ∧ isBl c = false := by
  simp [isLet] at h
  refine ⟨by omega, ?_⟩
  simp [isBl]
  omega
theorem scan_of_name (l : List UInt8) (h : nameOK l = true) : scan l 0 = .ok [⟨1, l, 0, 0⟩] := by
  simp only [nameOK, decide_eq_true_eq] at h
  obtain ⟨h1, h2, h3⟩ := h
  have hpos : 0 < l.length := (lenW_more inW inW_zero l (inW_of_let _ h1)).2
  have hn := let_no _ h1
  have ht : tokAt (l.drop 0) = some (1, 0, l.length) := by
    rw [List.drop_zero]
    unfold tokAt
    rw [if_pos h1, if_pos (by omega), h2]
  have := scan_tok l 0 hpos hn.1 hn.2 1 0 l.length ht
  rw [List.drop_zero, scan_end l (0 + l.length) (by omega), List.take_length] at this
  exact this
def legB (s : ByteArray) : Bool := nameOK (bs s) && !(isR s || isZ s)
theorem own_any {w : World} {B n : Nat} {T : TypeId} {v : Value} {xs : List Value} (h : w.ownsRow B T 4 v n xs) : ∃ a cap, v = .slice a n cap := by
  obtain ⟨hl, ⟨hv, h0⟩ | ⟨g, cap, cur, hv, r⟩⟩ := h
  · exact ⟨none, 0, by rw [hv, h0]⟩
  · exact ⟨_, cap, hv⟩
theorem legal_any (s : ByteArray) (hs : s.size ≤ 1100000) (w : World) :
    Calls Tryz.prog 68 #[.string s] w fun e w' => e = .returned (.bool (legB s)) ∧ Below w.heap.size w w' := by
  have hs2 : s.size ≤ 4611686018427387904 := by omega
  cases hsc : scan (bs s) 0 with
  | error p =>
    have hl : legB s = false := by
      cases h : nameOK (bs s)
      · simp [legB, h]
      · rw [scan_of_name _ h] at hsc; cases hsc
    rw [hl]
    have hH := Hid.intro (tokens_bad s hs p hsc w)
    clear hsc hl
    go_enter Tryz.func68, Tryz.ntmps68
    go_wp2_with (go_at_call 101; refine (hH.out).mono ?_; rintro e w1 ⟨hb1, rfl⟩)
    go_ret
    exact ⟨rfl, hb1⟩
  | ok ts =>
    have hH := Hid.intro (tokens_ok s hs ts hsc w)
    by_cases h1 : ts.length = 1
    · obtain ⟨t, rfl⟩ : ∃ t, ts = [t] := by
        match ts, h1 with
        | [t], _ => exact ⟨t, rfl⟩
      have hH2 : Hid (Calls Tryz.prog 101 #[.string s] w fun e w' => Below w.heap.size w w' ∧ ∃ g cap, e = .returned (.tuple #[.slice (some ⟨g, 0, none⟩) 1 cap, .int .i64 0, .int .i64 0]) ∧ TokAt w' g 0 t) := by
        refine (hH.out).mono ?_
        rintro e w' ⟨hb, v, rfl, hown⟩
        obtain ⟨g, cap, rfl, _, hg⟩ := own_form (n := 0) hown
        exact ⟨hb, g, cap, rfl, tok_at hown 0 _ rfl⟩
      have hleg : legB s = ((t.kind == 1) && ((str t.text).toList == s.toList) && !(isR s || isZ s)) := by
        unfold legB
        congr 1
        rw [str_toList, Lib.toList_data, Bool.eq_iff_iff]
        simp only [Bool.and_eq_true, beq_iff_eq]
        constructor
        · intro h
          have h2 := scan_of_name _ h
          rw [hsc] at h2
          cases h2
          exact ⟨rfl, rfl⟩
        · rintro ⟨ha, hb⟩
          exact name_of_scan _ t hsc ha hb
      rw [hleg]
      clear hH hsc h1 hleg
      cases hk : (t.kind == 1)
      · go_enter Tryz.func68, Tryz.ntmps68
        go_wp2_with (first
          | (go_at_call 101; refine (hH2.out).mono ?_; rintro e w1 ⟨hb1, g, cap, rfl, ht⟩; obtain ⟨k0, k1, k2, k3⟩ := ht; simp only [Nat.zero_mul, Nat.zero_add] at k0 k1 k2 k3)
          | (go_at_call 104; refine (register_any _ hs2 _).mono ?_; rintro e w' ⟨rfl, rfl⟩))
        go_ret
        exact ⟨by simp, hb1⟩
      · cases hq : ((str t.text).toList == s.toList)
        · go_enter Tryz.func68, Tryz.ntmps68
          go_wp2_with (first
            | (go_at_call 101; refine (hH2.out).mono ?_; rintro e w1 ⟨hb1, g, cap, rfl, ht⟩; obtain ⟨k0, k1, k2, k3⟩ := ht; simp only [Nat.zero_mul, Nat.zero_add] at k0 k1 k2 k3)
            | (go_at_call 104; refine (register_any _ hs2 _).mono ?_; rintro e w' ⟨rfl, rfl⟩))
          go_ret
          exact ⟨by simp, hb1⟩
        · go_enter Tryz.func68, Tryz.ntmps68
          go_wp2_with (first
            | (go_at_call 101; refine (hH2.out).mono ?_; rintro e w1 ⟨hb1, g, cap, rfl, ht⟩; obtain ⟨k0, k1, k2, k3⟩ := ht; simp only [Nat.zero_mul, Nat.zero_add] at k0 k1 k2 k3)
            | (go_at_call 104; refine (register_any _ hs2 _).mono ?_; rintro e w' ⟨rfl, rfl⟩))
          go_ret
          exact ⟨by simp, hb1⟩
    · have hl : legB s = false := by
        cases h : nameOK (bs s)
        · simp [legB, h]
        · rw [scan_of_name _ h] at hsc; cases hsc; simp at h1
      rw [hl]
      obtain ⟨n, hn⟩ : ∃ n, n = ts.length := ⟨_, rfl⟩
      have hlen := scan_len _ _ _ hsc
      rw [bs_length, ← hn] at hlen
      have hH2 : Hid (Calls Tryz.prog 101 #[.string s] w fun e w' => Below w.heap.size w w' ∧ ∃ a cap, e = .returned (.tuple #[.slice a n cap, .int .i64 0, .int .i64 0])) := by
        refine (hH.out).mono ?_
        rintro e w' ⟨hb, v, rfl, hown⟩
        obtain ⟨a, cap, rfl⟩ := own_any hown
        exact ⟨hb, a, cap, by rw [hn]⟩
      have hne : ((n : Int) != 1) = true := by rw [← hn] at h1; simp; omega
      clear hH hsc hl h1 hn
      go_enter Tryz.func68, Tryz.ntmps68
      go_wp2_with (go_at_call 101; refine (hH2.out).mono ?_; rintro e w1 ⟨hb1, a, cap, rfl⟩)
      go_ret
      exact ⟨rfl, hb1⟩
end Go.Proofs.YtogkchgjpflmjaaGreatDoor
/- Lins as lists of terms: their coefficients, the one list that has given coefficients, sums and products. -/
namespace Go.Proofs.YtogkchgjpflmjaaGreatDoor
set_option linter.unusedVariables false
structure Tm where
  name : List UInt8
  coef : Int
deriving DecidableEq
def nlt (a b : List UInt8) : Bool := Op.bytesLess a b
theorem nlt_nil (a : List UInt8) : nlt a [] = false := by cases a <;> rfl
theorem nlt_cons (a b : UInt8) (x y : List UInt8) : nlt (a :: x) (b :: y) = (decide (a < b) || (a == b && nlt x y)) := rfl
theorem u8_lt_irrefl (a : UInt8) : ¬ a < a := by rw [UInt8.lt_iff_toNat_lt]; omega
theorem u8_trans {a b c : UInt8} (h : a < b) (h2 : b < c) : a < c := by rw [UInt8.lt_iff_toNat_lt] at *; omega
theorem u8_tri (a b : UInt8) : a < b ∨ a = b ∨ b < a := by
  rw [UInt8.lt_iff_toNat_lt, UInt8.lt_iff_toNat_lt, ← UInt8.toNat_inj]
  omega
theorem nlt_irrefl (a : List UInt8) : nlt a a = false := by
  induction a with
  | nil => rfl
  | cons a x ih => rw [nlt_cons, ih]; simp
theorem nlt_trans {a b c : List UInt8} (h : nlt a b = true) (h2 : nlt b c = true) : nlt a c = true := by
  induction a generalizing b c with
  | nil =>
    cases c with
    | nil => rw [nlt_nil] at h2; cases h2
    | cons c z => rfl
  | cons a x ih =>
    cases b with
    | nil => rw [nlt_nil] at h; cases h
    | cons b y =>
      cases c with
      | nil => rw [nlt_nil] at h2; cases h2
      | cons c z =>
        rw [nlt_cons] at *
        simp only [Bool.or_eq_true, decide_eq_true_eq, Bool.and_eq_true, beq_iff_eq] at *
        rcases h with h | ⟨h, h'⟩
        · rcases h2 with h2 | ⟨h2, h2'⟩
          · exact .inl (u8_trans h h2)
          · subst h2; exact .inl h
        · subst h
          rcases h2 with h2 | ⟨h2, h2'⟩
          · exact .inl h2
          · exact .inr ⟨h2, ih h' h2'⟩
theorem nlt_tri (a b : List UInt8) : nlt a b = true ∨ a = b ∨ nlt b a = true := by
  induction a generalizing b with
  | nil => cases b with
    | nil => exact .inr (.inl rfl)
    | cons => exact .inl rfl
  | cons a x ih => cases b with
    | nil => exact .inr (.inr rfl)
    | cons b y =>
      rw [nlt_cons, nlt_cons]
      rcases u8_tri a b with h | h | h
      · exact .inl (by simp [h])
      · subst h
        rcases ih y with h | h | h
        · exact .inl (by simp [h])
        · exact .inr (.inl (by rw [h]))
        · exact .inr (.inr (by simp [h]))
      · exact .inr (.inr (by simp [h]))
theorem nlt_asymm {a b : List UInt8} (h : nlt a b = true) : nlt b a = false := by
  cases h2 : nlt b a
  · rfl
  · have := nlt_trans h h2; rw [nlt_irrefl] at this; cases this
theorem nlt_ne {a b : List UInt8} (h : nlt a b = true) : a ≠ b := by
  intro e; subst e; rw [nlt_irrefl] at h; cases h
theorem compare_nlt (a b : List UInt8) : decide (Lib.compareBytes a b < 0) = nlt a b := by
  induction a generalizing b with
  | nil => cases b <;> rfl
  | cons a x ih => cases b with
    | nil => rfl
    | cons b y =>
      rw [nlt_cons, Lib.compareBytes]
      rcases u8_tri a b with h | h | h
      · simp [h]
      · subst h
        simp only [u8_lt_irrefl, if_false]
        rw [ih]
        simp
      · have h1 : ¬ a < b := fun e => u8_lt_irrefl _ (u8_trans e h)
        have h2 : ¬ a = b := fun e => by subst e; exact u8_lt_irrefl _ h
        simp [h, h1, h2]
def cfOf (n : List UInt8) : List Tm → Int
  | [] => 0
  | t :: r => (if t.name = n then t.coef else 0) + cfOf n r
theorem cfOf_perm (n : List UInt8) {a b : List Tm} (h : a.Perm b) : cfOf n a = cfOf n b := by
  induction h with
  | nil => rfl
  | cons x _ ih => simp [cfOf, ih]
  | swap x y l => simp [cfOf]; omega
  | trans _ _ h1 h2 => rw [h1, h2]
theorem cfOf_none (n : List UInt8) (l : List Tm) (h : ∀ t ∈ l, t.name ≠ n) : cfOf n l = 0 := by
  induction l with
  | nil => rfl
  | cons x l ih =>
    have h1 : x.name ≠ n := h x (by simp)
    simp [cfOf, h1]
    exact ih fun t ht => h t (by simp [ht])
structure Canon (l : List Tm) : Prop where
  rise : l.Pairwise (fun a b => nlt a.name b.name = true)
  some : ∀ t ∈ l, 0 < t.coef ∧ t.coef < 4294967296
theorem Canon.nil : Canon [] := ⟨List.Pairwise.nil, fun _ h => by cases h⟩
theorem Canon.tail {t : Tm} {l : List Tm} (h : Canon (t :: l)) : Canon l := ⟨(List.pairwise_cons.1 h.rise).2, fun x hx => h.some x (by simp [hx])⟩
theorem Canon.head {t : Tm} {l : List Tm} (h : Canon (t :: l)) : ∀ x ∈ l, nlt t.name x.name = true := (List.pairwise_cons.1 h.rise).1
theorem Canon.cf_head {t : Tm} {l : List Tm} (h : Canon (t :: l)) : cfOf t.name l = 0 :=
  cfOf_none _ _ fun x hx e => by have := h.head x hx; rw [e, nlt_irrefl] at this; cases this
theorem canon_first {x y : Tm} {a b : List Tm} (ha : Canon (x :: a)) (hb : Canon (y :: b)) (h : ∀ n, cfOf n (x :: a) % 4294967296 = cfOf n (y :: b) % 4294967296) : ¬ nlt x.name y.name = true := by
  intro hlt
  have h1 := h x.name
  have h2 : cfOf x.name (y :: b) = 0 := cfOf_none _ _ fun t ht e => by
    have : nlt x.name t.name = true := by
      rcases List.mem_cons.1 ht with rfl | ht
      · exact hlt
      · exact nlt_trans hlt (hb.head t ht)
    rw [e, nlt_irrefl] at this
    cases this
  have h3 := ha.cf_head
  have h4 := ha.some x (by simp)
  rw [h2] at h1
  simp only [cfOf, if_true] at h1
  rw [h3] at h1
  omega
theorem canon_unique : ∀ {a b : List Tm}, Canon a → Canon b → (∀ n, cfOf n a % 4294967296 = cfOf n b % 4294967296) → a = b
  | [], [], _, _, _ => rfl
  | [], y :: b, _, hb, h => by
    have h1 := h y.name
    have h3 := hb.cf_head
    have h4 := hb.some y (by simp)
    simp only [cfOf, if_true] at h1
    rw [h3] at h1
    omega
  | x :: a, [], ha, _, h => by
    have h1 := h x.name
    have h3 := ha.cf_head
    have h4 := ha.some x (by simp)
    simp only [cfOf, if_true] at h1
    rw [h3] at h1
    omega
  | x :: a, y :: b, ha, hb, h => by
    have he : x.name = y.name := by
      rcases nlt_tri x.name y.name with h1 | h1 | h1
      · exact absurd h1 (canon_first ha hb h)
      · exact h1
      · exact absurd h1 (canon_first hb ha fun n => (h n).symm)
    have hc : x.coef = y.coef := by
      have h1 := h x.name
      have h3 := ha.cf_head
      have h3' := hb.cf_head
      have h4 := ha.some x (by simp)
      have h4' := hb.some y (by simp)
      simp only [cfOf, if_true, he] at h1
      rw [← he, h3, he, h3'] at h1
      omega
    have hxy : x = y := by cases x; cases y; simp_all
    subst hxy
    have : a = b := canon_unique ha.tail hb.tail fun n => by
      have h1 := h n
      simp only [cfOf] at h1
      by_cases hn : x.name = n
      · rw [← hn, ha.cf_head, hb.cf_head]
      · rw [if_neg hn] at h1
        omega
    rw [this]
def emit (n : List UInt8) (c : Int) (l : List Tm) : List Tm := if c = 0 then l else ⟨n, c⟩ :: l
def gat (n : List UInt8) (c : Int) : List Tm → List Tm
  | [] => emit n c []
  | t :: r => if t.name = n then gat n ((c + t.coef) % 4294967296) r else emit n c (gat t.name ((0 + t.coef) % 4294967296) r)
def gather : List Tm → List Tm
  | [] => []
  | t :: r => gat t.name ((0 + t.coef) % 4294967296) r
theorem gather_gat (t : Tm) (r : List Tm) : gather (t :: r) = gat t.name 0 (t :: r) := by simp [gather, gat]
theorem gat_other (n : List UInt8) (c : Int) (t : Tm) (r : List Tm) (h : t.name ≠ n) : gat n c (t :: r) = emit n c (gather (t :: r)) := by rw [gat, if_neg h]; rfl
theorem gat_same (n : List UInt8) (c : Int) (t : Tm) (r : List Tm) (h : t.name = n) : gat n c (t :: r) = gat n ((c + t.coef) % 4294967296) r := by rw [gat, if_pos h]
def Sorted (l : List Tm) : Prop := l.Pairwise (fun a b => nlt b.name a.name = false)
theorem cf_emit (m n : List UInt8) (c : Int) (l : List Tm) : cfOf m (emit n c l) = (if n = m then c else 0) + cfOf m l := by
  unfold emit
  split
  · rename_i h; subst h; split <;> simp
  · rfl
theorem cf_gat (m n : List UInt8) (c : Int) (l : List Tm) : cfOf m (gat n c l) % 4294967296 = ((if n = m then c else 0) + cfOf m l) % 4294967296 := by
  induction l generalizing n c with
  | nil => rw [gat, cf_emit]
  | cons t r ih =>
    by_cases h : t.name = n
    · rw [gat_same n c t r h, ih]
      simp only [cfOf, h]
      split
      · omega
      · omega
    · rw [gat, if_neg h, cf_emit]
      have := ih t.name ((0 + t.coef) % 4294967296)
      simp only [cfOf]
      generalize cfOf m (gat t.name ((0 + t.coef) % 4294967296) r) = X at this ⊢
      generalize cfOf m r = Y at this ⊢
      skip
      split at this <;> split <;> rename_i h1 <;> (try simp only [h1] at *) <;> (try simp at *) <;> omega
theorem cf_gather (m : List UInt8) (l : List Tm) : cfOf m (gather l) % 4294967296 = cfOf m l % 4294967296 := by
  cases l with
  | nil => rfl
  | cons t r => rw [gather_gat, cf_gat]; simp
theorem canon_emit {n : List UInt8} {c : Int} {l : List Tm} (hc : 0 ≤ c ∧ c < 4294967296) (h : Canon l) (hn : ∀ t ∈ l, nlt n t.name = true) : Canon (emit n c l) := by
  unfold emit
  split
  · exact h
  · refine ⟨List.pairwise_cons.2 ⟨hn, h.rise⟩, fun t ht => ?_⟩
    rcases List.mem_cons.1 ht with rfl | ht
    · show 0 < c ∧ c < 4294967296
      omega
    · exact h.some t ht
theorem mem_emit {n : List UInt8} {c : Int} {l : List Tm} {t : Tm} (h : t ∈ emit n c l) : t.name = n ∨ t ∈ l := by
  unfold emit at h
  split at h
  · exact .inr h
  · rcases List.mem_cons.1 h with rfl | h
    · exact .inl rfl
    · exact .inr h
theorem mem_gat {n : List UInt8} {c : Int} {l : List Tm} {t : Tm} (h : t ∈ gat n c l) : t.name = n ∨ ∃ x ∈ l, x.name = t.name := by
  induction l generalizing n c with
  | nil => rw [gat] at h; rcases mem_emit h with h | h
           · exact .inl h
           · cases h
  | cons x r ih =>
    rw [gat] at h
    split at h
    · rcases ih h with h | ⟨y, hy, hn⟩
      · exact .inl h
      · exact .inr ⟨y, by simp [hy], hn⟩
    · rcases mem_emit h with h | h
      · exact .inl h
      · rcases ih h with h | ⟨y, hy, hn⟩
        · exact .inr ⟨x, by simp, h.symm⟩
        · exact .inr ⟨y, by simp [hy], hn⟩
theorem canon_gat {n : List UInt8} {c : Int} {l : List Tm} (hc : 0 ≤ c ∧ c < 4294967296) (h : Sorted l) (hn : ∀ t ∈ l, nlt t.name n = false) : Canon (gat n c l) := by
  induction l generalizing n c with
  | nil => rw [gat]; exact canon_emit hc Canon.nil (fun _ h => by cases h)
  | cons x r ih =>
    have hx := List.pairwise_cons.1 h
    rw [gat]
    split
    · exact ih (by omega) hx.2 fun t ht => hn t (by simp [ht])
    · rename_i hne
      have hlt : nlt n x.name = true := by
        rcases nlt_tri n x.name with h1 | h1 | h1
        · exact h1
        · exact absurd h1.symm hne
        · rw [hn x (by simp)] at h1; cases h1
      refine canon_emit hc (ih (by omega) hx.2 hx.1) fun t ht => ?_
      rcases mem_gat ht with h1 | ⟨y, hy, h1⟩
      · rw [h1]; exact hlt
      · rw [← h1]
        rcases nlt_tri x.name y.name with h2 | h2 | h2
        · exact nlt_trans hlt h2
        · rw [← h2]; exact hlt
        · rw [hx.1 y hy] at h2; cases h2
theorem canon_gather {l : List Tm} (h : Sorted l) : Canon (gather l) := by
  cases l with
  | nil => exact Canon.nil
  | cons t r =>
    have hx := List.pairwise_cons.1 h
    exact canon_gat (by omega) hx.2 hx.1
def leT (a b : Tm) : Bool := !nlt b.name a.name
theorem leT_trans (a b c : Tm) (h1 : leT a b = true) (h2 : leT b c = true) : leT a c = true := by
  simp only [leT, Bool.not_eq_true'] at *
  cases h : nlt c.name a.name
  · rfl
  · rcases nlt_tri b.name a.name with h3 | h3 | h3
    · rw [h1] at h3; cases h3
    · rw [← h3, h2] at h; cases h
    · rw [nlt_trans h h3] at h2; cases h2
theorem leT_total (a b : Tm) : (leT a b || leT b a) = true := by
  simp only [leT]
  cases h : nlt b.name a.name
  · rfl
  · rw [nlt_asymm h]; rfl
def norm (l : List Tm) : List Tm := gather (l.mergeSort leT)
theorem sorted_mergeSort (l : List Tm) : Sorted (l.mergeSort leT) := by
  have := List.pairwise_mergeSort (le := leT) (fun a b c => leT_trans a b c) (fun a b => leT_total a b) l
  exact this.imp fun h => by simpa [leT] using h
theorem canon_norm (l : List Tm) : Canon (norm l) := canon_gather (sorted_mergeSort l)
theorem cf_norm (n : List UInt8) (l : List Tm) : cfOf n (norm l) % 4294967296 = cfOf n l % 4294967296 := by
  rw [norm, cf_gather, cfOf_perm n (List.mergeSort_perm l leT)]
theorem norm_eq {a l : List Tm} (ha : Canon a) (h : ∀ n, cfOf n a % 4294967296 = cfOf n l % 4294967296) : norm l = a :=
  canon_unique (canon_norm l) ha fun n => by rw [cf_norm, h]
theorem gather_sorted {l l' : List Tm} (hp : l.Perm l') (hs : Sorted l') : gather l' = norm l :=
  (norm_eq (canon_gather hs) fun n => by rw [cf_gather, cfOf_perm n hp]).symm
def timesT (l : List Tm) (n : Int) : List Tm := (l.map fun t => ⟨t.name, t.coef * n % 4294967296⟩).filter fun t => decide (t.coef ≠ 0)
theorem timesT_nil (n : Int) : timesT [] n = [] := rfl
theorem timesT_cons (t : Tm) (l : List Tm) (n : Int) : timesT (t :: l) n = emit t.name (t.coef * n % 4294967296) (timesT l n) := by
  simp only [timesT, List.map_cons, List.filter_cons, emit]
  by_cases h : t.coef * n % 4294967296 = 0 <;> simp [h]
theorem timesT_append (a b : List Tm) (n : Int) : timesT (a ++ b) n = timesT a n ++ timesT b n := by simp [timesT]
theorem mem_timesT {l : List Tm} {n : Int} {t : Tm} (h : t ∈ timesT l n) : 0 < t.coef ∧ t.coef < 4294967296 ∧ ∃ x ∈ l, x.name = t.name := by
  simp only [timesT, List.mem_filter, List.mem_map] at h
  obtain ⟨⟨x, hx, rfl⟩, h⟩ := h
  simp only [ne_eq, decide_not, Bool.not_eq_true', decide_eq_false_iff_not] at *
  refine ⟨by omega, by omega, x, hx, rfl⟩
theorem canon_times {l : List Tm} (h : Canon l) (n : Int) : Canon (timesT l n) := by
  induction l with
  | nil => exact Canon.nil
  | cons t l ih =>
    rw [timesT_cons]
    refine canon_emit (by omega) (ih h.tail) fun x hx => ?_
    obtain ⟨_, _, y, hy, e⟩ := mem_timesT hx
    rw [← e]
    exact h.head y hy
theorem emit_len (n : List UInt8) (c : Int) (l : List Tm) : (emit n c l).length ≤ l.length + 1 := by
  unfold emit
  split <;> simp
theorem gat_len (n : List UInt8) (c : Int) (l : List Tm) : (gat n c l).length ≤ l.length + 1 := by
  induction l generalizing n c with
  | nil => exact emit_len _ _ _
  | cons t r ih =>
    rw [gat]
    split
    · have := ih n ((c + t.coef) % 4294967296)
      simp
      omega
    · have h1 := ih t.name ((0 + t.coef) % 4294967296)
      have h2 := emit_len n c (gat t.name ((0 + t.coef) % 4294967296) r)
      rw [List.length_cons]
      omega
theorem gather_len (l : List Tm) : (gather l).length ≤ l.length := by
  cases l with
  | nil => exact Nat.le_refl _
  | cons t r => exact gat_len _ _ _
theorem norm_len (l : List Tm) : (norm l).length ≤ l.length := by
  have := gather_len (l.mergeSort leT)
  rw [List.length_mergeSort] at this
  exact this
theorem times_len (l : List Tm) (n : Int) : (timesT l n).length ≤ l.length := by
  induction l with
  | nil => exact Nat.le_refl _
  | cons t l ih =>
    rw [timesT_cons]
    have := emit_len t.name (t.coef * n % 4294967296) (timesT l n)
    simp
    omega
end Go.Proofs.YtogkchgjpflmjaaGreatDoor
/- What an expression is, as a function on its tokens. -/
namespace Go.Proofs.YtogkchgjpflmjaaGreatDoor
set_option linter.unusedVariables false
structure Lin where
  terms : List Tm
  const : Int
def isS (t : Tok) (c : UInt8) : Bool := decide (t.kind = 3) && decide (t.text = [c])
def timesL (x : Lin) (n : Int) : Lin := ⟨timesT x.terms n, x.const * n % 4294967296⟩
def minusF : List Tok → Int → Int × List Tok
  | [], c => (c, [])
  | t :: r, c => if isS t 45 = true then minusF r ((-c) % 4294967296) else (c, t :: r)
def singleF (t : Tok) : Option Lin :=
  if t.kind = 2 then some ⟨[], t.num⟩ else if t.kind = 1 ∧ legB (str t.text) = true then some ⟨[⟨t.text, 1⟩], 0⟩ else none
abbrev PRes := Except Int (Lin × List Tok)
def closeF (c : Int) : PRes → PRes
  | .error e => .error e
  | .ok (x, []) => .error 20
  | .ok (x, u :: r) => if isS u 41 = true then .ok (timesL x c, r) else .error 20
def bareF (within : List Tok → PRes) (c : Int) : List Tok → PRes
  | [] => .error 20
  | t :: r => if isS t 40 = true then closeF c (within r) else
    match singleF t with
    | none => .error 20
    | some x => .ok (timesL x c, r)
def factorF (within : List Tok → PRes) (ts : List Tok) : PRes := bareF within (minusF ts 1).1 (minusF ts 1).2
def productF (x y : Lin) : Option Lin :=
  if y.terms.length = 0 then some (timesL x y.const) else if x.terms.length = 0 then some (timesL y x.const) else none
def partL (within : List Tok → PRes) : Nat → Lin → List Tok → PRes
  | 0, x, ts => .ok (x, ts)
  | f + 1, x, [] => .ok (x, [])
  | f + 1, x, t :: r => if isS t 42 = true then
      match factorF within r with
      | .error e => .error e
      | .ok (y, r') =>
        match productF x y with
        | none => .error 21
        | some z => partL within f z r'
    else .ok (x, t :: r)
def partF (within : List Tok → PRes) (ts : List Tok) : PRes :=
  match factorF within ts with
  | .error e => .error e
  | .ok (x, r) => partL within r.length x r
def sumL (within : List Tok → PRes) : Nat → List Tm → Int → List Tok → PRes
  | 0, acc, n, ts => .ok (⟨norm acc, n⟩, ts)
  | f + 1, acc, n, [] => .ok (⟨norm acc, n⟩, [])
  | f + 1, acc, n, t :: r =>
    if isS t 43 = true then
      match partF within r with
      | .error e => .error e
      | .ok (x, r') => sumL within f (acc ++ x.terms) ((n + x.const) % 4294967296) r'
    else if isS t 45 = true then
      match partF within r with
      | .error e => .error e
      | .ok (x, r') => sumL within f (acc ++ timesT x.terms 4294967295) ((n + x.const * 4294967295 % 4294967296) % 4294967296) r'
    else .ok (⟨norm acc, n⟩, t :: r)
def sumF (within : List Tok → PRes) (ts : List Tok) : PRes :=
  match partF within ts with
  | .error e => .error e
  | .ok (x, r) => sumL within r.length x.terms x.const r
def sumD : Nat → List Tok → PRes
  | 0, _ => .error 21
  | d + 1, ts => sumF (sumD d) ts
def parseF (ts : List Tok) : Except Int Lin :=
  match sumD 33 ts with
  | .error e => .error e
  | .ok (x, []) => .ok x
  | .ok (_, _ :: _) => .error 20
structure GoodL (x : Lin) : Prop where
  canon : Canon x.terms
  lo : 0 ≤ x.const
  hi : x.const < 4294967296
structure Fine (W : List Tok → PRes) : Prop where
  len : ∀ ts x r, W ts = .ok (x, r) → x.terms.length + r.length ≤ ts.length
  good : ∀ ts x r, W ts = .ok (x, r) → GoodL x
  err : ∀ ts e, W ts = .error e → e = 20 ∨ e = 21
theorem timesL_good {x : Lin} (h : Canon x.terms) (n : Int) : GoodL (timesL x n) := ⟨canon_times h n, by simp only [timesL]; omega, by simp only [timesL]; omega⟩
theorem minusF_len (ts : List Tok) (c : Int) : (minusF ts c).2.length ≤ ts.length := by
  induction ts generalizing c with
  | nil => simp [minusF]
  | cons t r ih =>
    rw [minusF]
    split
    · have := ih ((-c) % 4294967296); simp; omega
    · simp
theorem singleF_good {t : Tok} {x : Lin} (h : singleF t = some x) : Canon x.terms := by
  unfold singleF at h
  split at h
  · cases h; exact Canon.nil
  · split at h
    · cases h
      refine ⟨List.pairwise_singleton _ _, fun t ht => ?_⟩
      simp at ht
      subst ht
      show (0 : Int) < 1 ∧ (1 : Int) < 4294967296
      decide
    · cases h
theorem singleF_len {t : Tok} {x : Lin} (h : singleF t = some x) : x.terms.length ≤ 1 := by
  unfold singleF at h
  split at h
  · cases h; simp
  · split at h
    · cases h; simp
    · cases h
theorem closeF_len {c : Int} {R : PRes} {x : Lin} {r : List Tok} (h : closeF c R = .ok (x, r)) : ∃ y u, R = .ok (y, u :: r) ∧ isS u 41 = true ∧ x = timesL y c := by
  match R, h with
  | .ok (y, u :: r'), h =>
    rw [closeF] at h
    split at h
    · cases h; exact ⟨y, u, rfl, by assumption, rfl⟩
    · cases h
theorem closeF_err {c : Int} {R : PRes} {e : Int} (h : closeF c R = .error e) : e = 20 ∨ R = .error e := by
  match R, h with
  | .error e', h => rw [closeF] at h; cases h; exact .inr rfl
  | .ok (y, []), h => rw [closeF] at h; cases h; exact .inl rfl
  | .ok (y, u :: r'), h =>
    rw [closeF] at h
    split at h
    · cases h
    · cases h; exact .inl rfl
def Less (ts : List Tok) (x : Lin) (r : List Tok) : Prop := r.length < ts.length ∧ x.terms.length + r.length ≤ ts.length ∧ GoodL x
theorem bareF_fine {W : List Tok → PRes} (hW : Fine W) (c : Int) : (∀ ts x r, bareF W c ts = .ok (x, r) → Less ts x r) ∧ ∀ ts e, bareF W c ts = .error e → e = 20 ∨ e = 21 := by
  constructor
  · intro ts x r h
    cases ts with
    | nil => cases h
    | cons t ts =>
      rw [bareF] at h
      split at h
      · obtain ⟨y, u, h1, h2, rfl⟩ := closeF_len h
        have h3 := hW.len _ _ _ h1
        have h4 := times_len y.terms c
        simp at h3
        refine ⟨by simp; omega, ?_, timesL_good (hW.good _ _ _ h1).canon _⟩
        show (timesT y.terms c).length + _ ≤ _
        simp
        omega
      · split at h
        · cases h
        · rename_i x' hx
          cases h
          have h3 := singleF_len hx
          have h4 := times_len x'.terms c
          refine ⟨by simp, ?_, timesL_good (singleF_good hx) _⟩
          show (timesT x'.terms c).length + _ ≤ _
          simp
          omega
  · intro ts e h
    cases ts with
    | nil => cases h; exact .inl rfl
    | cons t ts =>
      rw [bareF] at h
      split at h
      · rcases closeF_err h with h | h
        · exact .inl h
        · exact hW.err _ _ h
      · split at h
        · cases h; exact .inl rfl
        · cases h
theorem factorF_fine {W : List Tok → PRes} (hW : Fine W) : (∀ ts x r, factorF W ts = .ok (x, r) → Less ts x r) ∧ ∀ ts e, factorF W ts = .error e → e = 20 ∨ e = 21 := by
  refine ⟨fun ts x r h => ?_, fun ts e h => (bareF_fine hW _).2 _ _ h⟩
  have h1 := (bareF_fine hW _).1 _ _ _ h
  have := minusF_len ts 1
  exact ⟨by have := h1.1; omega, by have := h1.2.1; omega, h1.2.2⟩
theorem productF_good {x y z : Lin} (hx : GoodL x) (hy : GoodL y) (h : productF x y = some z) : GoodL z ∧ (z.terms.length ≤ x.terms.length ∨ z.terms.length ≤ y.terms.length) := by
  unfold productF at h
  split at h
  · cases h; exact ⟨timesL_good hx.canon _, .inl (times_len _ _)⟩
  · split at h
    · cases h; exact ⟨timesL_good hy.canon _, .inr (times_len _ _)⟩
    · cases h
def Loop (N : Nat) (ts : List Tok) (R : PRes) : Prop := (∀ y r, R = .ok (y, r) → r.length ≤ ts.length ∧ y.terms.length + r.length ≤ N ∧ GoodL y) ∧ ∀ e, R = .error e → e = 20 ∨ e = 21
theorem partL_fine {W : List Tok → PRes} (hW : Fine W) (N : Nat) (f : Nat) : ∀ (x : Lin) (ts : List Tok), GoodL x → x.terms.length + ts.length ≤ N → Loop N ts (partL W f x ts) := by
  have hdone : ∀ (x : Lin) (ts : List Tok), GoodL x → x.terms.length + ts.length ≤ N → Loop N ts (.ok (x, ts)) := fun x ts hx hN => ⟨fun y r h => (by cases h; exact ⟨Nat.le_refl _, hN, hx⟩), fun e h => (by cases h)⟩
  induction f with
  | zero => intro x ts hx hN; rw [partL]; exact hdone x ts hx hN
  | succ f ih =>
    intro x ts hx hN
    cases ts with
    | nil => rw [partL]; exact hdone x [] hx hN
    | cons t ts =>
      rw [partL]
      by_cases hs : isS t 42 = true
      · rw [if_pos hs]
        simp only [List.length_cons] at hN
        cases hF : factorF W ts with
        | error e0 =>
          simp only
          exact ⟨fun y r h => (by cases h), fun e h => (by cases h; exact (factorF_fine hW).2 _ _ hF)⟩
        | ok p =>
          obtain ⟨y0, r0⟩ := p
          have h0 := (factorF_fine hW).1 _ _ _ hF
          have h01 := h0.1
          have h02 := h0.2.1
          simp only
          cases hP : productF x y0 with
          | none => simp only; exact ⟨fun y r h => (by cases h), fun e h => (by cases h; exact .inr rfl)⟩
          | some z =>
            simp only
            have hg := productF_good hx h0.2.2 hP
            have := ih z r0 hg.1 (by rcases hg.2 with h | h <;> omega)
            exact ⟨fun y r h => ⟨by have := (this.1 y r h).1; simp; omega, (this.1 y r h).2⟩, this.2⟩
      · rw [if_neg hs]
        exact hdone x (t :: ts) hx hN
theorem partF_fine {W : List Tok → PRes} (hW : Fine W) : (∀ ts x r, partF W ts = .ok (x, r) → Less ts x r) ∧ ∀ ts e, partF W ts = .error e → e = 20 ∨ e = 21 := by
  have hF := factorF_fine hW
  constructor
  · intro ts x r h
    unfold partF at h
    cases hh : factorF W ts with
    | error e => rw [hh] at h; cases h
    | ok p =>
      obtain ⟨y, r0⟩ := p
      rw [hh] at h
      have h0 := hF.1 _ _ _ hh
      have h1 := (partL_fine hW ts.length _ y r0 h0.2.2 h0.2.1).1 _ _ h
      exact ⟨Nat.lt_of_le_of_lt h1.1 h0.1, h1.2.1, h1.2.2⟩
  · intro ts e h
    unfold partF at h
    cases hh : factorF W ts with
    | error e => rw [hh] at h; cases h; exact hF.2 _ _ hh
    | ok p =>
      obtain ⟨y, r0⟩ := p
      rw [hh] at h
      have h0 := hF.1 _ _ _ hh
      exact (partL_fine hW ts.length _ y r0 h0.2.2 h0.2.1).2 _ h
theorem sumL_fine {W : List Tok → PRes} (hW : Fine W) (N : Nat) (f : Nat) : ∀ (acc : List Tm) (n : Int) (ts : List Tok), 0 ≤ n → n < 4294967296 → acc.length + ts.length ≤ N → Loop N ts (sumL W f acc n ts) := by
  have hP := partF_fine hW
  have hdone : ∀ (acc : List Tm) (n : Int) (ts : List Tok), 0 ≤ n → n < 4294967296 → acc.length + ts.length ≤ N → Loop N ts (.ok (⟨norm acc, n⟩, ts)) := fun acc n ts h1 h2 hN => ⟨fun y r h => (by
    cases h
    have := norm_len acc
    exact ⟨Nat.le_refl _, (by show (norm acc).length + _ ≤ _; omega), canon_norm _, h1, h2⟩), fun e h => (by cases h)⟩
  induction f with
  | zero => intro acc n ts h1 h2 hN; rw [sumL]; exact hdone acc n ts h1 h2 hN
  | succ f ih =>
    intro acc n ts h1 h2 hN
    cases ts with
    | nil => rw [sumL]; exact hdone acc n [] h1 h2 hN
    | cons t ts =>
      rw [sumL]
      simp only [List.length_cons] at hN
      by_cases hs : isS t 43 = true
      · rw [if_pos hs]
        cases hF : partF W ts with
        | error e0 =>
          simp only
          exact ⟨fun y r h => (by cases h), fun e h => (by cases h; exact hP.2 _ _ hF)⟩
        | ok p =>
          obtain ⟨y0, r0⟩ := p
          have h0 := hP.1 _ _ _ hF
          have h01 := h0.1
          have h02 := h0.2.1
          simp only
          have := ih (acc ++ y0.terms) ((n + y0.const) % 4294967296) r0 (by omega) (by omega) (by rw [List.length_append]; omega)
          exact ⟨fun y r h => ⟨by have := (this.1 y r h).1; simp; omega, (this.1 y r h).2⟩, this.2⟩
      · rw [if_neg hs]
        by_cases hs2 : isS t 45 = true
        · rw [if_pos hs2]
          cases hF : partF W ts with
          | error e0 =>
            simp only
            exact ⟨fun y r h => (by cases h), fun e h => (by cases h; exact hP.2 _ _ hF)⟩
          | ok p =>
            obtain ⟨y0, r0⟩ := p
            have h0 := hP.1 _ _ _ hF
            have h01 := h0.1
            have h02 := h0.2.1
            have h03 := times_len y0.terms 4294967295
            simp only
            have := ih (acc ++ timesT y0.terms 4294967295) ((n + y0.const * 4294967295 % 4294967296) % 4294967296) r0 (by omega) (by omega) (by rw [List.length_append]; omega)
            exact ⟨fun y r h => ⟨by have := (this.1 y r h).1; simp; omega, (this.1 y r h).2⟩, this.2⟩
        · rw [if_neg hs2]
          exact hdone acc n (t :: ts) h1 h2 (by simpa using hN)
theorem sumF_fine {W : List Tok → PRes} (hW : Fine W) : Fine (sumF W) := by
  have hF := partF_fine hW
  have key : ∀ ts, Loop ts.length ts (sumF W ts) := by
    intro ts
    unfold sumF
    cases hh : partF W ts with
    | error e => simp only; exact ⟨fun x r h => (by cases h), fun e' h => (by cases h; exact hF.2 _ _ hh)⟩
    | ok p =>
      obtain ⟨y, r0⟩ := p
      simp only
      have h0 := hF.1 _ _ _ hh
      have h01 := h0.1
      have := sumL_fine hW ts.length r0.length y.terms y.const r0 h0.2.2.lo h0.2.2.hi h0.2.1
      exact ⟨fun x r h => ⟨by have := (this.1 x r h).1; omega, (this.1 x r h).2⟩, this.2⟩
  exact ⟨fun ts x r h => ((key ts).1 x r h).2.1, fun ts x r h => ((key ts).1 x r h).2.2, fun ts e h => (key ts).2 e h⟩
theorem sumD_fine (d : Nat) : Fine (sumD d) := by
  induction d with
  | zero => exact ⟨fun _ _ _ h => (by cases h), fun _ _ _ h => (by cases h), fun _ _ h => (by cases h; exact .inr rfl)⟩
  | succ d ih => exact sumF_fine ih
end Go.Proofs.YtogkchgjpflmjaaGreatDoor
/- Terms in memory. -/
namespace Go.Proofs.YtogkchgjpflmjaaGreatDoor
open Go.ChangeShapes Go.WideShapes Go.ChangeAt Go.RowKit
set_option linter.unusedVariables false
set_option maxRecDepth 100000
def Tm.cells (t : Tm) : List Value := [.string (str t.name), .int .u32 t.coef]
def rowT (ts : List Tm) : List Value := ts.flatMap Tm.cells
theorem rowT_push (acc : List Tm) (t : Tm) : rowT (acc ++ [t]) = rowT acc ++ t.cells := by simp [rowT]
theorem rowT_append (a b : List Tm) : rowT (a ++ b) = rowT a ++ rowT b := by simp [rowT]
theorem rowT_length (ts : List Tm) : (rowT ts).length = ts.length * 2 := by
  induction ts with
  | nil => rfl
  | cons x ts ih =>
    have hx : rowT (x :: ts) = x.cells ++ rowT ts := by simp [rowT]
    have hl : x.cells.length = 2 := rfl
    rw [hx, List.length_append, ih, hl, List.length_cons]
    omega
theorem rowT_get (ts : List Tm) (i f : Nat) (t : Tm) (hi : ts[i]? = some t) (hf : f < 2) : (rowT ts)[i * 2 + f]? = t.cells[f]? := by
  induction ts generalizing i with
  | nil => simp at hi
  | cons x ts ih =>
    have hx : rowT (x :: ts) = x.cells ++ rowT ts := by simp [rowT]
    have hl : x.cells.length = 2 := rfl
    rw [hx]
    cases i with
    | zero =>
      simp at hi
      subst hi
      rw [Nat.zero_mul, Nat.zero_add, List.getElem?_append_left (by omega)]
    | succ i =>
      simp at hi
      rw [List.getElem?_append_right (by omega), hl, show (i + 1) * 2 + f - 2 = i * 2 + f by omega]
      exact ih i hi
theorem below_alloc (w : World) (o : Obj) : Below w.heap.size w (w.alloc o) := (Below.refl _ w).alloc (Nat.le_refl _) o
theorem grown_of_below {w w' : World} (h : Below w.heap.size w w') : w.grownBy w' none := ⟨h.os, h.tape, h.output, h.size, fun k hk _ => h.block k hk⟩
structure TmAt (w : World) (g o : Nat) (t : Tm) : Prop where
  name : w.cell? ⟨g, o, none⟩ = some (.string (str t.name))
  coef : w.cell? ⟨g, o + 1, none⟩ = some (.int .u32 t.coef)
theorem TmAt.below {w w' : World} {g o : Nat} {t : Tm} {B : Nat} (h : TmAt w g o t) (hb : Below B w w') (hg : g < B) : TmAt w' g o t :=
  ⟨by rw [hb.cell (p := ⟨g, o, none⟩) hg]; exact h.name, by rw [hb.cell (p := ⟨g, o + 1, none⟩) hg]; exact h.coef⟩
def TmLies (w : World) (a : Option Addr) (ts : List Tm) : Prop := ts = [] ∨ ∃ g o, a = some ⟨g, o, none⟩ ∧ g < w.heap.size ∧ ∀ i t, ts[i]? = some t → TmAt w g (o + i * 2) t
theorem TmLies.below {w w' : World} {a : Option Addr} {ts : List Tm} {B : Nat} (h : TmLies w a ts) (hb : Below B w w') (hB : w.heap.size ≤ B) : TmLies w' a ts := by
  rcases h with h | ⟨g, o, ha, hg, h⟩
  · exact .inl h
  · exact .inr ⟨g, o, ha, Nat.lt_of_lt_of_le hg hb.size, fun i t hi => (h i t hi).below hb (by omega)⟩
theorem TmLies.nil (w : World) (a : Option Addr) : TmLies w a [] := .inl rfl
theorem own_slice {w : World} {lo : Nat} {T : TypeId} {sz : Nat} {v : Value} {n : Nat} {xs : List Value} (h : w.ownsRow lo T sz v n xs) : ∃ a c, v = .slice a n c := by
  obtain ⟨hl, ⟨hv, h0⟩ | ⟨g, cap, cur, hv, r⟩⟩ := h
  · exact ⟨none, 0, by rw [hv, h0]⟩
  · exact ⟨_, cap, hv⟩
theorem own_tmLies {w : World} {B : Nat} {a : Option Addr} {c : Nat} {ts : List Tm} (h : w.ownsRow B 123 2 (.slice a ts.length c) ts.length (rowT ts)) : TmLies w a ts := by
  have h' := h
  obtain ⟨hl, ⟨hv, h0⟩ | ⟨g, cap, cur, hv, hbg, hg, r⟩⟩ := h
  · exact .inl (List.eq_nil_of_length_eq_zero h0)
  · injection hv with hv _ hv3
    subst hv
    refine .inr ⟨g, 0, rfl, (Array.getElem?_eq_some_iff.1 hg).1, fun i t hi => ?_⟩
    have hlt := (List.getElem?_eq_some_iff.1 hi).1
    have key : ∀ f, f < 2 → w.cell? ⟨g, i * 2 + f, none⟩ = t.cells[f]? := fun f hf => by rw [h'.cellAt _ (by rw [rowT_length] at hl; omega), rowT_get ts i f t hi hf]
    rw [Nat.zero_add]
    exact ⟨key 0 (by omega), key 1 (by omega)⟩
theorem own_weaken {w : World} {lo B : Nat} {T : TypeId} {sz : Nat} {v : Value} {n : Nat} {xs : List Value} (h : w.ownsRow lo T sz v n xs) (hB : B ≤ lo) : w.ownsRow B T sz v n xs := by
  refine ⟨h.1, ?_⟩
  rcases h.2 with hx | ⟨g, cap, cur, k1, k2, k3⟩
  · exact .inl hx
  · exact .inr ⟨g, cap, cur, k1, by omega, k3⟩
theorem own_type {w : World} {lo : Nat} {T : TypeId} {sz : Nat} {v : Value} {n : Nat} {xs : List Value} (h : w.ownsRow lo T sz v n xs) {g : Nat} (hg : v.ownBlock = some g) : ∃ cur, w.heap[g]? = some (.cells cur T (0, 0)) := by
  rcases h.2 with ⟨rfl, _⟩ | ⟨g', cap, cur, rfl, _, hgg, _⟩
  · simp [Value.ownBlock] at hg
  · simp [Value.ownBlock] at hg
    subst hg
    exact ⟨cur, hgg⟩
theorem own_low {w w' : World} {lo k : Nat} {T : TypeId} {sz : Nat} {v : Value} {n : Nat} {xs : List Value} (h : w.ownsRow lo T sz v n xs) (hg : w.grownBy w' (some k)) (hk : k < lo) : w'.ownsRow lo T sz v n xs :=
  h.kept hg (by
    cases hb : v.ownBlock with
    | none => exact .inl rfl
    | some g =>
      refine .inr fun e => ?_
      have := (h.lt g hb).1
      injection e with e
      omega)
structure Two (w : World) (g : Nat) (T : TypeId) (x y : Value) : Prop where
  heap : w.heap[g]? = some (.cells #[x, y] T (0, 0))
  c0 : w.cell? ⟨g, 0, none⟩ = some x
  c1 : w.cell? ⟨g, 1, none⟩ = some y
  f0 : w.frozen? ⟨g, 0, none⟩ = false
  f1 : w.frozen? ⟨g, 1, none⟩ = false
theorem two_of {w : World} {g : Nat} {T : TypeId} {x y : Value} (h : w.heap[g]? = some (.cells #[x, y] T (0, 0))) : Two w g T x y :=
  ⟨h, by rw [cell_of_row w g 0 _ T (0, 0) h]; rfl, by rw [cell_of_row w g 1 _ T (0, 0) h]; rfl, frozen_of_row w g 0 _ T h, frozen_of_row w g 1 _ T h⟩
theorem Two.alloc {w : World} {g : Nat} {T : TypeId} {x y : Value} (h : Two w g T x y) (o : Obj) : Two (w.alloc o) g T x y :=
  two_of (by rw [Below.heap_alloc w o g (Array.getElem?_eq_some_iff.1 h.heap).1]; exact h.heap)
theorem Two.a0 {w : World} {g : Nat} {T : TypeId} {x y : Value} (h : Two w g T x y) : ∀ o, (w.alloc o).cell? ⟨g, 0, none⟩ = some x := fun o => (h.alloc o).c0
theorem Two.a1 {w : World} {g : Nat} {T : TypeId} {x y : Value} (h : Two w g T x y) : ∀ o, (w.alloc o).cell? ⟨g, 1, none⟩ = some y := fun o => (h.alloc o).c1
theorem Two.b0 {w : World} {g : Nat} {T : TypeId} {x y : Value} (h : Two w g T x y) : ∀ o, (w.alloc o).frozen? ⟨g, 0, none⟩ = false := fun o => (h.alloc o).f0
theorem Two.b1 {w : World} {g : Nat} {T : TypeId} {x y : Value} (h : Two w g T x y) : ∀ o, (w.alloc o).frozen? ⟨g, 1, none⟩ = false := fun o => (h.alloc o).f1
theorem two_new (w : World) (T : TypeId) (x y : Value) : Two (w.alloc (.cells #[x, y] T)) w.heap.size T x y := two_of (heap_alloc_new w _)
theorem Two.grown {w w' : World} {g : Nat} {T : TypeId} {x y : Value} {k : Option Nat} (h : Two w g T x y) (hg : w.grownBy w' k) (hk : k ≠ some g) : Two w' g T x y :=
  two_of (by rw [hg.block g (Array.getElem?_eq_some_iff.1 h.heap).1 (fun e => hk e.symm)]; exact h.heap)
theorem Two.below {w w' : World} {g B : Nat} {T : TypeId} {x y : Value} (h : Two w g T x y) (hb : Below B w w') (hg : g < B) : Two w' g T x y := two_of (by rw [hb.block g hg]; exact h.heap)
theorem two_set {w : World} {g : Nat} {T : TypeId} {cur : Array Value} (h : w.heap[g]? = some (.cells cur T (0, 0))) (hc : cur.size = 2) (x y : Value) :
    Two ((w.setCell ⟨g, 0, none⟩ x).setCell ⟨g, 1, none⟩ y) g T x y ∧ w.grownBy ((w.setCell ⟨g, 0, none⟩ x).setCell ⟨g, 1, none⟩ y) (some g) := by
  have h1 := heap_setCell_same w g 0 cur T x h
  have h2 := heap_setCell_same _ g 1 _ T y h1
  refine ⟨two_of ?_, ?_⟩
  · rw [h2]
    obtain ⟨l⟩ := cur
    match l, hc with
    | [a, b], _ => rfl
  · refine ⟨rfl, rfl, rfl, by simp, fun k hk hne => ?_⟩
    have hk' : k ≠ g := fun e => hne (by rw [e])
    rw [heap_setCell_other _ _ _ _ hk', heap_setCell_other _ _ _ _ hk']
theorem cells_new2 (w : World) (o : Obj) (cs : Array Value) (T : TypeId) : ∀ j u, cs.toList[j]? = some u → ((w.alloc o).alloc (.cells cs T)).cell? ((⟨w.heap.size + 1, 0, none⟩ : Addr).add j) = some u := by
  intro j u h
  have := cells_new (w.alloc o) cs T j u h
  rwa [show (w.alloc o).heap.size = w.heap.size + 1 by simp] at this
theorem two_put {w : World} {g : Nat} {T : TypeId} {x y : Value} (h : Two w g T x y) (z : Value) : Two (w.setCell ⟨g, 0, none⟩ z) g T z y ∧ w.grownBy (w.setCell ⟨g, 0, none⟩ z) (some g) := by
  have h1 := heap_setCell_same w g 0 _ T z h.heap
  refine ⟨two_of h1, ⟨rfl, rfl, rfl, by simp, fun k hk hne => ?_⟩⟩
  have hk' : k ≠ g := fun e => hne (by rw [e])
  rw [heap_setCell_other _ _ _ _ hk']
theorem two_put1 {w : World} {g : Nat} {T : TypeId} {x y : Value} (h : Two w g T x y) (z : Value) : Two (w.setCell ⟨g, 1, none⟩ z) g T x z ∧ w.grownBy (w.setCell ⟨g, 1, none⟩ z) (some g) := by
  have h1 := heap_setCell_same w g 1 _ T z h.heap
  refine ⟨two_of h1, ⟨rfl, rfl, rfl, by simp, fun k hk hne => ?_⟩⟩
  have hk' : k ≠ g := fun e => hne (by rw [e])
  rw [heap_setCell_other _ _ _ _ hk']
theorem two_below {w w' : World} {T : TypeId} {x y : Value} (hb : Below (w.alloc (.cells #[x, y] T)).heap.size (w.alloc (.cells #[x, y] T)) w') : Two w' w.heap.size T x y := (two_new w T x y).below hb (by simp)
theorem one_below {w w1 : World} {o : Obj} (hb : Below (w.alloc o).heap.size (w.alloc o) w1) : Below w.heap.size w w1 := (below_alloc w o).trans (hb.mono (by simp))
theorem alloc_lt {w w1 : World} {o : Obj} (hb : Below (w.alloc o).heap.size (w.alloc o) w1) : w.heap.size < w1.heap.size := by
  have := hb.size
  simp at this
  omega
theorem own_new (w : World) (B : Nat) (hB : B ≤ w.heap.size) (cs : Array Value) (n : Nat) (T : TypeId) (sz : Nat) (hs : cs.size = n * sz) (hn : n ≤ 1100000) (h0 : n ≠ 0) : (w.alloc (.cells cs T)).ownsRow B T sz (.slice (some ⟨w.heap.size, 0, none⟩) n n) n cs.toList :=
  ⟨by simpa using hs, .inr ⟨w.heap.size, n, cs, rfl, hB, heap_alloc_new w _, Nat.le_refl _, by unfold maxLen; omega, hs, by rw [← hs, List.take_of_length_le (by simp)]⟩⟩
theorem grown_trans {a b c : World} {r : Option Nat} (h : a.grownBy b r) (k : b.grownBy c r) : a.grownBy c r :=
  ⟨k.os.trans h.os, k.tape.trans h.tape, k.output.trans h.output, Nat.le_trans h.size k.size, fun i hi hn => by rw [k.block i (Nat.lt_of_lt_of_le hi h.size) hn, h.block i hi hn]⟩
theorem grown_wide {a b : World} (h : a.grownBy b none) (r : Option Nat) : a.grownBy b r := ⟨h.os, h.tape, h.output, h.size, fun i hi _ => h.block i hi (by simp)⟩
theorem below_of_grown {a b : World} {k B : Nat} (h : a.grownBy b (some k)) (hk : B ≤ k) (hB : B ≤ a.heap.size) : Below B a b := (Below.refl B a).grown h hB (fun j hj => by cases hj; exact hk)
theorem Tryz.info123 : (Tryz.prog.info? 123).map (fun i => (i.zero, i.size, i.bytes)) = some (some (.agg #[.string ⟨#[]⟩, .int .u32 0]), 2, 24) := by kernel_rfl
abbrev linV (v : Value) (k : Int) : Value := .agg #[v, .int .u32 k]
end Go.Proofs.YtogkchgjpflmjaaGreatDoor
/- expr.Of, Named, Times. -/
namespace Go.Proofs.YtogkchgjpflmjaaGreatDoor
open Go.ChangeShapes Go.WideShapes Go.ChangeAt Go.RowKit
set_option linter.unusedVariables false
set_option maxRecDepth 100000
theorem of_any (n : Int) (w : World) :
    Calls Tryz.prog 248 #[.int .u32 n] w fun e w' => e = .returned (linV (.slice none 0 0) n) ∧ Below w.heap.size w w' := by
  go_enter Tryz.func248, Tryz.ntmps248
  go_wp2
  obtain ⟨hh, z0, z1, _, _⟩ := two_new w 89 (.slice none 0 0) (.int .u32 n)
  have hb := below_alloc w (.cells #[.slice none 0 0, .int .u32 n] 89)
  generalize w.alloc (.cells #[.slice none 0 0, .int .u32 n] 89) = w1 at *
  refine bodyPost_ret (by simp [results, Tryz.results248, go_sem, z0, z1]; try rfl) rfl ?_
  exact ⟨rfl, hb⟩
theorem named_any (s : ByteArray) (hs : s.size ≤ 1100000) (w : World) :
    Calls Tryz.prog 249 #[.string s] w fun e w' => Below w.heap.size w w' ∧ ∃ v, e = .returned (linV v 0) ∧ w'.ownsRow w.heap.size 123 2 v 1 [.string s, .int .u32 1] := by
  go_enter Tryz.func249, Tryz.ntmps249
  go_wp2_with (go_at_call 39; refine (clone_any _ _ (by omega)).mono ?_; rintro e w' ⟨rfl, hb⟩; have h2 := two_below hb; have k0 := h2.a0; have k1 := h2.a1; have k2 := h2.b0; have k3 := h2.b1; replace h2 := Hid.intro h2)
  have hlt := alloc_lt hb
  have hown := own_new w' (w.heap.size + 1) (by omega) #[.string s, .int .u32 1] 1 123 2 rfl (by omega) (by omega)
  obtain ⟨s1, s2⟩ := two_set (h2.out.alloc (.cells #[.string s, .int .u32 1] 123)).heap rfl (.slice (some ⟨w'.heap.size, 0, none⟩) 1 1) (.int .u32 0)
  have hb2 : Below w.heap.size w (((w'.alloc (.cells #[.string s, .int .u32 1] 123)).setCell ⟨w.heap.size, 0, none⟩ (.slice (some ⟨w'.heap.size, 0, none⟩) 1 1)).setCell ⟨w.heap.size, 1, none⟩ (.int .u32 0)) :=
    ((one_below hb).alloc (by omega) _).grown s2 (by simp; omega) (fun k hk => by cases hk; exact Nat.le_refl _)
  generalize (((w'.alloc (.cells #[.string s, .int .u32 1] 123)).setCell ⟨w.heap.size, 0, none⟩ (.slice (some ⟨w'.heap.size, 0, none⟩) 1 1)).setCell ⟨w.heap.size, 1, none⟩ (.int .u32 0)) = w3 at s1 s2 hb2 ⊢
  obtain ⟨_, z0, z1, _, _⟩ := s1
  refine bodyPost_ret (by simp [results, Tryz.results249, go_sem, z0, z1]; try rfl) rfl ?_
  exact ⟨hb2, _, rfl, own_weaken (own_low hown s2 (by omega)) (by omega)⟩
structure TSt (w : World) (ts : List Tm) (n k : Int) (i : Nat) (v : Value) (wr : World) : Prop where
  le : i ≤ ts.length
  res : Two wr (w.heap.size + 1) 89 (.slice none 0 0) (.int .u32 0)
  out : Two wr (w.heap.size + 1 + 1) 89 v (.int .u32 (k * n % 4294967296))
  own : wr.ownsRow (w.heap.size + 1 + 1 + 1) 123 2 v (timesT (ts.take i) n).length (rowT (timesT (ts.take i) n))
  bel : Below w.heap.size w wr
  size : w.heap.size + 1 + 1 + 1 ≤ wr.heap.size
theorem take_at {α : Type} (ts : List α) (i : Nat) (t : α) (h : ts[i]? = some t) : ts.take (i + 1) = ts.take i ++ [t] := by
  obtain ⟨hi, he⟩ := List.getElem?_eq_some_iff.1 h
  rw [List.take_add_one, h]
  rfl
theorem times_next {w : World} {ts : List Tm} {n k : Int} {i L c1 : Nat} {a1 : Option Addr} {wr : World} (h : TSt w ts n k i (.slice a1 L c1) wr) (t : Tm) (ht : ts[i]? = some t) :
    (t.coef * n % 4294967296 = 0 → ∀ o, TSt w ts n k (i + 1) (.slice a1 L c1) (wr.alloc o)) ∧
    (t.coef * n % 4294967296 ≠ 0 → ∀ o o2 v2 w3 w4, w3.ownsRow (w.heap.size + 1 + 1 + 1) 123 2 v2 (L + 1) (rowT (timesT (ts.take i) n) ++ [.string (str t.name), .int .u32 (t.coef * n % 4294967296)]) → ((wr.alloc o).alloc o2).grownBy w3 (Value.slice a1 L c1).ownBlock → w4 = w3.setCell ⟨w.heap.size + 1 + 1, 0, none⟩ v2 → TSt w ts n k (i + 1) v2 w4) := by
  have hi := (List.getElem?_eq_some_iff.1 ht).1
  have hsz := h.size
  have htk : timesT (ts.take (i + 1)) n = timesT (ts.take i) n ++ emit t.name (t.coef * n % 4294967296) [] := by
    rw [take_at ts i t ht, timesT_append, timesT_cons, timesT_nil]
  constructor
  · intro hz o
    refine ⟨by omega, h.res.alloc o, h.out.alloc o, ?_, h.bel.alloc (by omega) o, by simp; omega⟩
    rw [htk, emit, if_pos hz, List.append_nil]
    exact h.own.alloc o
  · intro hz o o2 v2 w3 w4 hown hg hw4
    subst hw4
    have hnb : (Value.slice a1 L c1).ownBlock ≠ some (w.heap.size + 1) := fun e => by have := (h.own.lt _ e).1; omega
    have hnb2 : (Value.slice a1 L c1).ownBlock ≠ some (w.heap.size + 1 + 1) := fun e => by have := (h.own.lt _ e).1; omega
    have hr := ((h.res.alloc o).alloc o2).grown hg hnb
    have ho := ((h.out.alloc o).alloc o2).grown hg hnb2
    obtain ⟨s1, s2⟩ := two_put ho v2
    have hs3 := hg.size
    simp at hs3
    refine ⟨by omega, hr.grown s2 (by simp), s1, ?_, ?_, ?_⟩
    · rw [htk, emit, if_neg hz, rowT_push, List.length_append]
      refine own_low ?_ s2 (by omega)
      have hL : (timesT (ts.take i) n).length = L := by
        have h1 := h.own.1
        have h2 := own_slice h.own
        obtain ⟨a', c', h2⟩ := h2
        injection h2 with _ h2 _
        exact h2.symm
      rw [hL]
      exact hown
    · refine Below.grown ?_ s2 (by omega) (fun j hj => by cases hj; omega)
      exact ((h.bel.alloc (by omega) o).alloc (by simp; omega) o2).grown hg (by simp; omega) (fun j hj => by have := (h.own.lt _ hj).1; omega)
    · have := s2.size
      omega
set_option maxHeartbeats 2000000 in
theorem times_any (a : Option Addr) (c : Nat) (ts : List Tm) (k n : Int) (hl : ts.length ≤ 4400000) (w : World) (hT : TmLies w a ts) :
    Calls Tryz.prog 236 #[linV (.slice a ts.length c) k, .int .u32 n] w fun e w' => Below w.heap.size w w' ∧ ∃ v, e = .returned (linV v (k * n % 4294967296)) ∧ w'.ownsRow w.heap.size 123 2 v (timesT ts n).length (rowT (timesT ts n)) := by
  obtain ⟨n0, hn0⟩ : ∃ n0, n0 = ts.length := ⟨_, rfl⟩
  rw [← hn0] at hl ⊢
  have hTH := Hid.intro hT
  have hnH := Hid.intro hn0
  clear hT hn0
  obtain ⟨i0, hi, hz0, hz1, hz2⟩ := info_parts Tryz.info123
  go_enter Tryz.func236, Tryz.ntmps236
  go_wp2
  go_loopw [16] (fun vi wr => ∃ (i : Nat) (v : Value), vi = .int .i64 (i : Int) ∧ Hid (TSt w ts n k i v wr)) (fun vi _ => n0 - (intOf vi).toNat)
  case atStart =>
    refine ⟨0, .slice none 0 0, rfl, ⟨Nat.zero_le _, ?_, ?_, World.ownsRow_nil _ _ _ _, ?_, by simp⟩⟩
    · have := (two_new (w.alloc (.cells #[.slice a n0 c, .int .u32 k] 89)) 89 (.slice none 0 0) (.int .u32 0)).alloc (.cells #[.slice none 0 0, .int .u32 (k * n % 4294967296)] 89)
      simpa using this
    · have := two_new ((w.alloc (.cells #[.slice a n0 c, .int .u32 k] 89)).alloc (.cells #[.slice none 0 0, .int .u32 0] 89)) 89 (.slice none 0 0) (.int .u32 (k * n % 4294967296))
      simpa using this
    · exact (((below_alloc w _).alloc (by simp) _).alloc (by simp; omega) _)
  case round =>
    obtain ⟨i, v, rfl, hS⟩ := hrel
    have hle := hS.out.le
    rw [← hnH.out] at hle
    obtain ⟨a1, c1, rfl⟩ := own_slice hS.out.own
    obtain ⟨L, hL⟩ : ∃ L, L = (timesT (ts.take i) n).length := ⟨_, rfl⟩
    have hown := hS.out.own
    rw [← hL] at hown hS
    have hLl : L ≤ 4400000 := by
      rw [hL]
      have := times_len (ts.take i) n
      rw [List.length_take] at this
      omega
    have hownH := Hid.intro hown
    have hLH := Hid.intro hL
    clear hown hL
    have hsz := hS.out.size
    by_cases hlt : i < n0
    · obtain ⟨t, ht⟩ : ∃ t, ts[i]? = some t := ⟨ts[i]'(by rw [← hnH.out]; exact hlt), List.getElem?_eq_getElem _⟩
      have htH := Hid.intro ht
      clear ht
      rcases hTH.out with hx | ⟨g, o, rfl, hg, hT⟩
      · rw [hx] at hnH; have := hnH.out; simp at this; omega
      have hgr : g < wr.heap.size := Nat.lt_of_lt_of_le hg hS.out.bel.size
      obtain ⟨q0, q1⟩ := (hT i t htH.out).below hS.out.bel hg
      clear hT
      have hnext := Hid.intro (times_next hS.out t htH.out)
      obtain ⟨oh, o0, o1, of0, of1⟩ := hS.out.out
      have ho := Hid.intro (two_of oh)
      have oa0 := ho.out.a0
      have ob0 := ho.out.b0
      clear oh
      by_cases hz : t.coef * n % 4294967296 = 0
      · have hz' : (t.coef * n % 4294967296 != 0) = false := by simp [hz]
        go_wp2
        all_goals first | omega | skip
        go_roundw
        case rel => exact ⟨i + 1, .slice a1 L c1, by go_num, Hid.intro (hnext.out.1 hz _)⟩
        case measure => simp [intOf]; omega
      · have hz' : (t.coef * n % 4294967296 != 0) = true := by simp [hz]
        go_wp2_with (at_builtin; go_must (refine wpList_append_own_wide _ rfl (.tmp 29) (.tmp 31) 86 rfl (w.heap.size + 1 + 1 + 1) 123 i0 (.agg #[.string ⟨#[]⟩, .int .u32 0]) 2 24 Tryz.underlying86 hi hz0 hz1 hz2 rfl (by decide) (.slice a1 L c1) L _ rfl ((hownH.out.alloc _).alloc _) ⟨wr.heap.size + 1, 0, none⟩ 1 1 [.string (str t.name), .int .u32 (t.coef * n % 4294967296)] rfl rfl (cells_new2 _ _ _ _) (by simp [Value.oneCell']) (by unfold maxLen; omega) (by omega) (by simp; omega) ?_; intro v2 w3 hown3 hgrow3 _; obtain ⟨a2, c2, rfl⟩ := own_slice hown3; obtain ⟨_, p0, p1, pf0, pf1⟩ := (((ho.out.alloc _).alloc _).grown hgrow3 (fun e => by have := (hownH.out.lt _ e).1; omega))))
        all_goals first | omega | skip
        go_roundw
        case rel => exact ⟨i + 1, .slice a2 (L + 1) c2, by go_num, Hid.intro (hnext.out.2 hz _ _ _ w3 _ hown3 hgrow3 rfl)⟩
        case measure => simp [intOf]; omega
    · obtain ⟨oh, o0, o1, of0, of1⟩ := hS.out.out
      obtain ⟨rh, r0, r1, rf0, rf1⟩ := hS.out.res
      have rhH := Hid.intro rh
      clear rh oh
      go_wp2
      all_goals first | omega | skip
      have hin : i = ts.length := by rw [← hnH.out]; omega
      obtain ⟨s1, s2⟩ := two_set rhH.out rfl (.slice a1 L c1) (.int .u32 (k * n % 4294967296))
      have hb2 : Below w.heap.size w ((wr.setCell ⟨w.heap.size + 1, 0, none⟩ (.slice a1 L c1)).setCell ⟨w.heap.size + 1, 1, none⟩ (.int .u32 (k * n % 4294967296))) := hS.out.bel.grown s2 (by omega) (fun j hj => by cases hj; omega)
      generalize ((wr.setCell ⟨w.heap.size + 1, 0, none⟩ (.slice a1 L c1)).setCell ⟨w.heap.size + 1, 1, none⟩ (.int .u32 (k * n % 4294967296))) = w3 at s1 s2 hb2 ⊢
      obtain ⟨_, z0, z1, _, _⟩ := s1
      refine bodyPost_ret (by simp [results, Tryz.results236, go_sem, z0, z1]; try rfl) rfl ?_
      refine ⟨hb2, _, rfl, ?_⟩
      have hown := own_weaken (own_low hS.out.own s2 (by omega)) (B := w.heap.size) (by omega)
      rw [hin, List.take_length] at hown
      exact hown
end Go.Proofs.YtogkchgjpflmjaaGreatDoor
namespace Go.Proofs
open Go.Shelf
def Tryz.laysSort_ren : Go.Shelf.Ren := ⟨fun | 6 => 241 | 15 => 109 | 14 => 246 | 28 => 142 | 29 => 143 | 20 => 250 | 21 => 251 | 22 => 252 | 23 => 253 | 24 => 254 | 25 => 255 | 26 => 256 | 27 => 257 | 46 => 259 | 47 => 161 | 48 => 162 | 49 => 260 | 50 => 261 | 57 => 262 | n => n, fun | 22 => 86 | 24 => 123 | 25 => 340 | 3 => 3 | 39 => 125 | 0 => 0 | 53 => 87 | 55 => 224 | 4 => 4 | 46 => 247 | 45 => 246 | 50 => 76 | 5 => 5 | 9 => 9 | 66 => 266 | 70 => 270 | 76 => 286 | 77 => 273 | n => n, fun | n => n⟩
theorem Tryz.laysSort : Go.Proofs.SlLaysF0.n6 Tryz.prog Tryz.laysSort_ren := {
  mixed := by kernel_rfl
  f6 := ⟨Tryz.f241.name, by decide, Tryz.func241.trans (congrArg some (by kernel_rfl))⟩
  f14 := ⟨Tryz.f246.name, by decide, Tryz.func246.trans (congrArg some (by kernel_rfl))⟩
  f15 := Tryz.func109.trans (congrArg some (by kernel_rfl))
  f20 := ⟨Tryz.f250.name, by decide, Tryz.func250.trans (congrArg some (by kernel_rfl))⟩
  f21 := ⟨Tryz.f251.name, by decide, Tryz.func251.trans (congrArg some (by kernel_rfl))⟩
  f22 := ⟨Tryz.f252.name, by decide, Tryz.func252.trans (congrArg some (by kernel_rfl))⟩
  f23 := ⟨Tryz.f253.name, by decide, Tryz.func253.trans (congrArg some (by kernel_rfl))⟩
  f24 := ⟨Tryz.f254.name, by decide, Tryz.func254.trans (congrArg some (by kernel_rfl))⟩
  f25 := ⟨Tryz.f255.name, by decide, Tryz.func255.trans (congrArg some (by kernel_rfl))⟩
  f26 := ⟨Tryz.f256.name, by decide, Tryz.func256.trans (congrArg some (by kernel_rfl))⟩
  f27 := ⟨Tryz.f257.name, by decide, Tryz.func257.trans (congrArg some (by kernel_rfl))⟩
  f28 := Tryz.func142.trans (congrArg some (by kernel_rfl))
  f29 := Tryz.func143.trans (congrArg some (by kernel_rfl))
  f46 := ⟨Tryz.f259.name, by decide, Tryz.func259.trans (congrArg some (by kernel_rfl))⟩
  f47 := Tryz.func161.trans (congrArg some (by kernel_rfl))
  f48 := Tryz.func162.trans (congrArg some (by kernel_rfl))
  f49 := ⟨Tryz.f260.name, by decide, Tryz.func260.trans (congrArg some (by kernel_rfl))⟩
  f50 := ⟨Tryz.f261.name, by decide, Tryz.func261.trans (congrArg some (by kernel_rfl))⟩
  f57 := ⟨Tryz.f262.name, by decide, Tryz.func262.trans (congrArg some (by kernel_rfl))⟩
  t0 := Tryz.underlying0
  a0 := Tryz.isAgg0
  z0 := Tryz.sizeOf0
  v0 := Tryz.zeroValue0
  t3 := Tryz.underlying3
  a3 := Tryz.isAgg3
  z3 := Tryz.sizeOf3
  v3 := Tryz.zeroValue3
  t4 := Tryz.underlying4
  a4 := Tryz.isAgg4
  z4 := Tryz.sizeOf4
  v4 := Tryz.zeroValue4
  t5 := Tryz.underlying5
  a5 := Tryz.isAgg5
  z5 := Tryz.sizeOf5
  v5 := Tryz.zeroValue5
  t9 := Tryz.underlying9
  a9 := Tryz.isAgg9
  z9 := Tryz.sizeOf9
  v9 := Tryz.zeroValue9
  t22 := Tryz.underlying86
  a22 := Tryz.isAgg86
  z22 := Tryz.sizeOf86
  v22 := Tryz.zeroValue86
  t25 := Tryz.underlying340
  a25 := Tryz.isAgg340
  z25 := Tryz.sizeOf340
  v25 := Tryz.zeroValue340
  t39 := Tryz.underlying125
  a39 := Tryz.isAgg125
  z39 := Tryz.sizeOf125
  v39 := Tryz.zeroValue125
  t45 := Tryz.underlying246
  a45 := Tryz.isAgg246
  z45 := Tryz.sizeOf246
  v45 := Tryz.zeroValue246
  t46 := Tryz.underlying247
  a46 := Tryz.isAgg247
  z46 := Tryz.sizeOf247
  v46 := Tryz.zeroValue247
  t50 := Tryz.underlying76
  a50 := Tryz.isAgg76
  z50 := Tryz.sizeOf76
  v50 := Tryz.zeroValue76
  t53 := Tryz.underlying87
  a53 := Tryz.isAgg87
  z53 := Tryz.sizeOf87
  v53 := Tryz.zeroValue87
  t55 := Tryz.underlying224
  a55 := Tryz.isAgg224
  z55 := Tryz.sizeOf224
  v55 := Tryz.zeroValue224
  t66 := Tryz.underlying266
  a66 := Tryz.isAgg266
  z66 := Tryz.sizeOf266
  v66 := Tryz.zeroValue266
  t70 := Tryz.underlying270
  a70 := Tryz.isAgg270
  z70 := Tryz.sizeOf270
  v70 := Tryz.zeroValue270
  t76 := Tryz.underlying286
  a76 := Tryz.isAgg286
  z76 := Tryz.sizeOf286
  v76 := Tryz.zeroValue286
  t77 := Tryz.underlying273
  a77 := Tryz.isAgg273
  z77 := Tryz.sizeOf273
  v77 := Tryz.zeroValue273 }
def Tryz.laysContains_ren : Go.Shelf.Ren := ⟨fun | 110 => 238 | 109 => 244 | n => n, fun | 31 => 24 | 9 => 9 | 4 => 4 | 3 => 3 | 0 => 0 | n => n, fun | n => n⟩
theorem Tryz.laysContains : Go.Proofs.Lays.n110 Tryz.prog Tryz.laysContains_ren := {
  mixed := by kernel_rfl
  f109 := Tryz.func244.trans (congrArg some (by kernel_rfl))
  f110 := Tryz.func238.trans (congrArg some (by kernel_rfl))
  t0 := Tryz.underlying0
  a0 := Tryz.isAgg0
  z0 := Tryz.sizeOf0
  v0 := Tryz.zeroValue0
  t3 := Tryz.underlying3
  a3 := Tryz.isAgg3
  z3 := Tryz.sizeOf3
  v3 := Tryz.zeroValue3
  t4 := Tryz.underlying4
  a4 := Tryz.isAgg4
  z4 := Tryz.sizeOf4
  v4 := Tryz.zeroValue4
  t9 := Tryz.underlying9
  a9 := Tryz.isAgg9
  z9 := Tryz.sizeOf9
  v9 := Tryz.zeroValue9
  t31 := Tryz.underlying24
  a31 := Tryz.isAgg24
  z31 := Tryz.sizeOf24
  v31 := Tryz.zeroValue24 }
end Go.Proofs

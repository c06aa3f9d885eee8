/- Terms in memory. -/
import Derived.Test.YtmndccbeddaphaaGreatDoorKnown
import Derived.Lib.Bytealg
import Derived.Handy
/- Register and Legal, and the document's. -/
namespace Go.Proofs.YtmndccbeddaphaaGreatDoor
open Go.ChangeShapes Go.WideShapes Go.ChangeAt Go.RowKit
set_option linter.unusedVariables false
set_option maxRecDepth 100000

def isR (s : ByteArray) : Bool := decide (s.size = 2 ∧ atI (bs s) 0 = 114 ∧ 48 ≤ atI (bs s) 1 ∧ atI (bs s) 1 ≤ 55)
def isZ (s : ByteArray) : Bool := decide (s.size = 2 ∧ atI (bs s) 0 = 122 ∧ 48 ≤ atI (bs s) 1 ∧ atI (bs s) 1 ≤ 51)
def regN (s : ByteArray) : Int := if isR s || isZ s then atI (bs s) 1 - 48 else 0

theorem reg_none (s : ByteArray) (h1 : isR s = false) (h2 : isZ s = false) : regN s = 0 := by simp [regN, h1, h2]
theorem register_any (s : ByteArray) (hs : s.size ≤ 4611686018427387904) (w : World) :
    Calls Tryz.prog 128 #[.string s] w fun e w' => e = .returned (.tuple #[.int .i64 (regN s), .bool (isZ s), .bool (isR s || isZ s)]) ∧ w' = w := by
  by_cases h2 : s.size = 2
  · have g0 := atI_get s 0 (by omega)
    have g1 := atI_get s 1 (by omega)
    obtain ⟨c0, hc0⟩ : ∃ c, c = atI (bs s) 0 := ⟨_, rfl⟩
    obtain ⟨c1, hc1⟩ : ∃ c, c = atI (bs s) 1 := ⟨_, rfl⟩
    have er : isR s = decide (c0 = 114 ∧ 48 ≤ c1 ∧ c1 ≤ 55) := by simp [isR, h2, hc0, hc1]
    have ez : isZ s = decide (c0 = 122 ∧ 48 ≤ c1 ∧ c1 ≤ 51) := by simp [isZ, h2, hc0, hc1]
    have en : regN s = if isR s || isZ s then c1 - 48 else 0 := by rw [hc1]; rfl
    rw [← hc0] at g0
    rw [← hc1] at g1
    cases hd : isDig c1
    · have hnd : ¬ (48 ≤ c1 ∧ c1 ≤ 57) := by simpa [isDig] using hd
      have er' : isR s = false := by rw [er]; simp; omega
      have ez' : isZ s = false := by rw [ez]; simp; omega
      rw [en, er', ez']
      clear er ez en er' ez' hc0 hc1
      go_enter Tryz.func128, Tryz.ntmps128
      go_wp2_with (first
        | (go_at_call 151; refine (isDigit_any _ _).mono ?_; rintro e w' ⟨rfl, rfl⟩))
      go_ret3
      exact ⟨rfl, rfl⟩
    · have hx := isHex_of_dig _ hd
      obtain ⟨b0, b1⟩ : 48 ≤ c1 ∧ c1 ≤ 57 := by simpa [isDig] using hd
      have hv : digI c1 = c1 - 48 := by unfold digI; rw [if_pos ⟨b0, b1⟩]
      have hcall : ∀ w, Calls Tryz.prog 156 #[.int .u8 c1] w fun e w' => e = .returned (.int .u64 (c1 - 48)) ∧ w' = w := fun w => by rw [← hv]; exact digit_any c1 hx w
      have hH := Hid.intro hcall
      clear hcall hv
      rw [en, er, ez]
      clear er ez en hc0 hc1
      by_cases hr : c0 = 114
      · have hr' : (c0 == 114) = true := by simp [hr]
        by_cases hlt : c1 ≤ 55
        · have e1 : decide (c0 = 114 ∧ 48 ≤ c1 ∧ c1 ≤ 55) = true := by simp; omega
          have e2 : decide (c0 = 122 ∧ 48 ≤ c1 ∧ c1 ≤ 51) = false := by simp; omega
          rw [e1, e2]
          simp only [Bool.true_or, if_true]
          clear e1 e2 hr
          go_enter Tryz.func128, Tryz.ntmps128
          go_wp2_with (first
            | (go_at_call 151; refine (isDigit_any _ _).mono ?_; rintro e w' ⟨rfl, rfl⟩)
            | (go_at_call 156; refine (hH.out _).mono ?_; rintro e w' ⟨rfl, rfl⟩))
          all_goals first
            | omega
            | (go_ret3; exact ⟨rfl, rfl⟩)
        · have e1 : decide (c0 = 114 ∧ 48 ≤ c1 ∧ c1 ≤ 55) = false := by simp; omega
          have e2 : decide (c0 = 122 ∧ 48 ≤ c1 ∧ c1 ≤ 51) = false := by simp; omega
          rw [e1, e2]
          simp only [Bool.or_self, Bool.false_eq_true, if_false]
          clear e1 e2
          have hz' : (c0 == 122) = false := by simp; omega
          clear hr
          go_enter Tryz.func128, Tryz.ntmps128
          go_wp2_with (first
            | (go_at_call 151; refine (isDigit_any _ _).mono ?_; rintro e w' ⟨rfl, rfl⟩)
            | (go_at_call 156; refine (hH.out _).mono ?_; rintro e w' ⟨rfl, rfl⟩))
          all_goals first
            | omega
            | (go_ret3; exact ⟨rfl, rfl⟩)
      · have hr' : (c0 == 114) = false := by simp [hr]
        by_cases hz : c0 = 122
        · have hz' : (c0 == 122) = true := by simp [hz]
          by_cases hlt : c1 ≤ 51
          · have e1 : decide (c0 = 114 ∧ 48 ≤ c1 ∧ c1 ≤ 55) = false := by simp; omega
            have e2 : decide (c0 = 122 ∧ 48 ≤ c1 ∧ c1 ≤ 51) = true := by simp; omega
            rw [e1, e2]
            simp only [Bool.or_true, if_true]
            clear e1 e2 hr hz
            go_enter Tryz.func128, Tryz.ntmps128
            go_wp2_with (first
              | (go_at_call 151; refine (isDigit_any _ _).mono ?_; rintro e w' ⟨rfl, rfl⟩)
              | (go_at_call 156; refine (hH.out _).mono ?_; rintro e w' ⟨rfl, rfl⟩))
            all_goals first
              | omega
              | (go_ret3; exact ⟨rfl, rfl⟩)
          · have e1 : decide (c0 = 114 ∧ 48 ≤ c1 ∧ c1 ≤ 55) = false := by simp; omega
            have e2 : decide (c0 = 122 ∧ 48 ≤ c1 ∧ c1 ≤ 51) = false := by simp; omega
            rw [e1, e2]
            simp only [Bool.or_self, Bool.false_eq_true, if_false]
            clear e1 e2 hr hz
            go_enter Tryz.func128, Tryz.ntmps128
            go_wp2_with (first
              | (go_at_call 151; refine (isDigit_any _ _).mono ?_; rintro e w' ⟨rfl, rfl⟩)
              | (go_at_call 156; refine (hH.out _).mono ?_; rintro e w' ⟨rfl, rfl⟩))
            all_goals first
              | omega
              | (go_ret3; exact ⟨rfl, rfl⟩)
        · have hz' : (c0 == 122) = false := by simp [hz]
          have e1 : decide (c0 = 114 ∧ 48 ≤ c1 ∧ c1 ≤ 55) = false := by simp; omega
          have e2 : decide (c0 = 122 ∧ 48 ≤ c1 ∧ c1 ≤ 51) = false := by simp; omega
          rw [e1, e2]
          simp only [Bool.or_self, Bool.false_eq_true, if_false]
          clear e1 e2 hr hz
          go_enter Tryz.func128, Tryz.ntmps128
          go_wp2_with (first
            | (go_at_call 151; refine (isDigit_any _ _).mono ?_; rintro e w' ⟨rfl, rfl⟩)
            | (go_at_call 156; refine (hH.out _).mono ?_; rintro e w' ⟨rfl, rfl⟩))
          all_goals first
            | omega
            | (go_ret3; exact ⟨rfl, rfl⟩)
  · have er : isR s = false := by simp [isR, h2]
    have ez : isZ s = false := by simp [isZ, h2]
    rw [reg_none s er ez, er, ez]
    have hn : ((s.size : Int) != 2) = true := by simp; omega
    clear er ez h2
    go_enter Tryz.func128, Tryz.ntmps128
    go_wp2
    go_ret3
    exact ⟨rfl, rfl⟩
end Go.Proofs.YtmndccbeddaphaaGreatDoor
/- The document's Register and Legal, and Legal. -/
namespace Go.Proofs.YtmndccbeddaphaaGreatDoor
open Go.ChangeShapes Go.WideShapes Go.ChangeAt Go.RowKit
set_option linter.unusedVariables false
set_option maxRecDepth 100000

/-- is it a name, and nothing else? -/
def nameOK (l : List UInt8) : Bool := decide (isLet (atI l 0) = true ∧ lenW inW l = l.length ∧ l.length ≤ 32)

theorem scan_text (r : List UInt8) (a : Nat) (ts : List Tok) (h : scan r a = .ok ts) : ∀ t ∈ ts, t.text.length ≤ r.length := by
  induction hn : r.length using Nat.strongRecOn generalizing r a ts with
  | _ n ih =>
    subst hn
    cases r with
    | nil => unfold scan at h; cases h; simp
    | cons b r =>
      unfold scan at h
      split at h
      · cases h; simp
      · split at h
        · intro t ht
          have := ih r.length (by simp) r _ ts h rfl t ht
          simp; omega
        · split at h
          · cases h
          · split at h
            · rename_i kind n k heq1 _ us heq2
              have hk := tokAt_some _ _ _ _ heq1
              have := ih (r.drop (k - 1)).length (by simp; omega) _ _ us heq2 rfl
              cases h
              intro t ht
              rw [List.mem_cons] at ht
              rcases ht with rfl | ht
              · simp only [List.length_take]
                omega
              · have := this t ht
                simp only [List.length_drop] at this
                simp
                omega
            · cases h

theorem name_of_scan (l : List UInt8) (t : Tok) (h : scan l 0 = .ok [t]) (hk : t.kind = 1) (ht : t.text = l) : nameOK l = true := by
  cases l with
  | nil => unfold scan at h; cases h
  | cons b r =>
    have h0 := h
    unfold scan at h
    split at h
    · cases h
    · split at h
      · have := scan_text r _ _ h t (by simp)
        rw [ht] at this
        simp at this
        omega
      · split at h
        · cases h
        · split at h
          · rename_i kind n k heq1 _ us heq2
            have hks := tokAt_some _ _ _ _ heq1
            cases h
            simp only at hk ht
            subst hk
            have hlen : k = (b :: r).length := by
              have := congrArg List.length ht
              rw [List.length_take] at this
              omega
            unfold tokAt at heq1
            split at heq1
            · rename_i hl
              split at heq1
              · simp at heq1
                simp only [nameOK, decide_eq_true_eq]
                exact ⟨hl, by omega, by omega⟩
              · cases heq1
            · split at heq1
              · split at heq1
                · cases heq1
                · simp at heq1
              · split at heq1
                · simp at heq1
                · cases heq1
          · cases h

theorem let_no (c : Int) (h : isLet c = true) : c ≠ 59 ∧ isBl c = false := by
  simp [isLet] at h
  refine ⟨by omega, ?_⟩
  simp [isBl]
  omega

theorem scan_of_name (l : List UInt8) (h : nameOK l = true) : scan l 0 = .ok [⟨1, l, 0, 0⟩] := by
  simp only [nameOK, decide_eq_true_eq] at h
  obtain ⟨h1, h2, h3⟩ := h
  have hpos : 0 < l.length := (lenW_more inW inW_zero l (inW_of_let _ h1)).2
  have hn := let_no _ h1
  have ht : tokAt (l.drop 0) = some (1, 0, l.length) := by
    rw [List.drop_zero]
    unfold tokAt
    rw [if_pos h1, if_pos (by omega), h2]
  have := scan_tok l 0 hpos hn.1 hn.2 1 0 l.length ht
  rw [List.drop_zero, scan_end l (0 + l.length) (by omega), List.take_length] at this
  exact this

def legB (s : ByteArray) : Bool := nameOK (bs s) && !(isR s || isZ s)

theorem own_any {w : World} {B n : Nat} {T : TypeId} {v : Value} {xs : List Value} (h : w.ownsRow B T 4 v n xs) : ∃ a cap, v = .slice a n cap := by
  obtain ⟨hl, ⟨hv, h0⟩ | ⟨g, cap, cur, hv, r⟩⟩ := h
  · exact ⟨none, 0, by rw [hv, h0]⟩
  · exact ⟨_, cap, hv⟩

theorem legal_any (s : ByteArray) (hs : s.size ≤ 1100000) (w : World) :
    Calls Tryz.prog 102 #[.string s] w fun e w' => e = .returned (.bool (legB s)) ∧ Below w.heap.size w w' := by
  have hs2 : s.size ≤ 4611686018427387904 := by omega
  cases hsc : scan (bs s) 0 with
  | error p =>
    have hl : legB s = false := by
      cases h : nameOK (bs s)
      · simp [legB, h]
      · rw [scan_of_name _ h] at hsc; cases hsc
    rw [hl]
    have hH := Hid.intro (tokens_bad s hs p hsc w)
    clear hsc hl
    go_enter Tryz.func102, Tryz.ntmps102
    go_wp2_with (go_at_call 127; refine (hH.out).mono ?_; rintro e w1 ⟨hb1, rfl⟩)
    go_ret
    exact ⟨rfl, hb1⟩
  | ok ts =>
    have hH := Hid.intro (tokens_ok s hs ts hsc w)
    by_cases h1 : ts.length = 1
    · obtain ⟨t, rfl⟩ : ∃ t, ts = [t] := by
        match ts, h1 with
        | [t], _ => exact ⟨t, rfl⟩
      have hH2 : Hid (Calls Tryz.prog 127 #[.string s] w fun e w' => Below w.heap.size w w' ∧ ∃ g cap, e = .returned (.tuple #[.slice (some ⟨g, 0, none⟩) 1 cap, .int .i64 0, .int .i64 0]) ∧ TokAt w' g 0 t) := by
        refine (hH.out).mono ?_
        rintro e w' ⟨hb, v, rfl, hown⟩
        obtain ⟨g, cap, rfl, _, hg⟩ := own_form (n := 0) hown
        exact ⟨hb, g, cap, rfl, tok_at hown 0 _ rfl⟩
      have hleg : legB s = ((t.kind == 1) && ((str t.text).toList == s.toList) && !(isR s || isZ s)) := by
        unfold legB
        congr 1
        rw [str_toList, Lib.toList_data, Bool.eq_iff_iff]
        simp only [Bool.and_eq_true, beq_iff_eq]
        constructor
        · intro h
          have h2 := scan_of_name _ h
          rw [hsc] at h2
          cases h2
          exact ⟨rfl, rfl⟩
        · rintro ⟨ha, hb⟩
          exact name_of_scan _ t hsc ha hb
      rw [hleg]
      clear hH hsc h1 hleg
      cases hk : (t.kind == 1)
      · go_enter Tryz.func102, Tryz.ntmps102
        go_wp2_with (first
          | (go_at_call 127; refine (hH2.out).mono ?_; rintro e w1 ⟨hb1, g, cap, rfl, ht⟩; obtain ⟨k0, k1, k2, k3⟩ := ht; simp only [Nat.zero_mul, Nat.zero_add] at k0 k1 k2 k3)
          | (go_at_call 128; refine (register_any _ hs2 _).mono ?_; rintro e w' ⟨rfl, rfl⟩))
        go_ret
        exact ⟨by simp, hb1⟩
      · cases hq : ((str t.text).toList == s.toList)
        · go_enter Tryz.func102, Tryz.ntmps102
          go_wp2_with (first
            | (go_at_call 127; refine (hH2.out).mono ?_; rintro e w1 ⟨hb1, g, cap, rfl, ht⟩; obtain ⟨k0, k1, k2, k3⟩ := ht; simp only [Nat.zero_mul, Nat.zero_add] at k0 k1 k2 k3)
            | (go_at_call 128; refine (register_any _ hs2 _).mono ?_; rintro e w' ⟨rfl, rfl⟩))
          go_ret
          exact ⟨by simp, hb1⟩
        · go_enter Tryz.func102, Tryz.ntmps102
          go_wp2_with (first
            | (go_at_call 127; refine (hH2.out).mono ?_; rintro e w1 ⟨hb1, g, cap, rfl, ht⟩; obtain ⟨k0, k1, k2, k3⟩ := ht; simp only [Nat.zero_mul, Nat.zero_add] at k0 k1 k2 k3)
            | (go_at_call 128; refine (register_any _ hs2 _).mono ?_; rintro e w' ⟨rfl, rfl⟩))
          go_ret
          exact ⟨by simp, hb1⟩
    · have hl : legB s = false := by
        cases h : nameOK (bs s)
        · simp [legB, h]
        · rw [scan_of_name _ h] at hsc; cases hsc; simp at h1
      rw [hl]
      obtain ⟨n, hn⟩ : ∃ n, n = ts.length := ⟨_, rfl⟩
      have hlen := scan_len _ _ _ hsc
      rw [bs_length, ← hn] at hlen
      have hH2 : Hid (Calls Tryz.prog 127 #[.string s] w fun e w' => Below w.heap.size w w' ∧ ∃ a cap, e = .returned (.tuple #[.slice a n cap, .int .i64 0, .int .i64 0])) := by
        refine (hH.out).mono ?_
        rintro e w' ⟨hb, v, rfl, hown⟩
        obtain ⟨a, cap, rfl⟩ := own_any hown
        exact ⟨hb, a, cap, by rw [hn]⟩
      have hne : ((n : Int) != 1) = true := by rw [← hn] at h1; simp; omega
      clear hH hsc hl h1 hn
      go_enter Tryz.func102, Tryz.ntmps102
      go_wp2_with (go_at_call 127; refine (hH2.out).mono ?_; rintro e w1 ⟨hb1, a, cap, rfl⟩)
      go_ret
      exact ⟨rfl, hb1⟩
end Go.Proofs.YtmndccbeddaphaaGreatDoor
/- Lins as lists of terms: their coefficients, the one list that has given coefficients, sums and products. -/
namespace Go.Proofs.YtmndccbeddaphaaGreatDoor
set_option linter.unusedVariables false

/-- a name so many times -/
structure Tm where
  name : List UInt8
  coef : Int
deriving DecidableEq

/-- the order of names -/
def nlt (a b : List UInt8) : Bool := Op.bytesLess a b

theorem nlt_nil (a : List UInt8) : nlt a [] = false := by cases a <;> rfl
theorem nlt_cons (a b : UInt8) (x y : List UInt8) : nlt (a :: x) (b :: y) = (decide (a < b) || (a == b && nlt x y)) := rfl

theorem u8_trans {a b c : UInt8} (h : a < b) (h2 : b < c) : a < c := by rw [UInt8.lt_iff_toNat_lt] at *; omega
theorem u8_tri (a b : UInt8) : a < b ∨ a = b ∨ b < a := by
  rw [UInt8.lt_iff_toNat_lt, UInt8.lt_iff_toNat_lt, ← UInt8.toNat_inj]
  omega

theorem nlt_irrefl (a : List UInt8) : nlt a a = false := by
  induction a with
  | nil => rfl
  | cons a x ih => rw [nlt_cons, ih]; simp

theorem nlt_trans {a b c : List UInt8} (h : nlt a b = true) (h2 : nlt b c = true) : nlt a c = true := by
  induction a generalizing b c with
  | nil =>
    cases c with
    | nil => rw [nlt_nil] at h2; cases h2
    | cons c z => rfl
  | cons a x ih =>
    cases b with
    | nil => rw [nlt_nil] at h; cases h
    | cons b y =>
      cases c with
      | nil => rw [nlt_nil] at h2; cases h2
      | cons c z =>
        rw [nlt_cons] at *
        simp only [Bool.or_eq_true, decide_eq_true_eq, Bool.and_eq_true, beq_iff_eq] at *
        rcases h with h | ⟨h, h'⟩
        · rcases h2 with h2 | ⟨h2, h2'⟩
          · exact .inl (u8_trans h h2)
          · subst h2; exact .inl h
        · subst h
          rcases h2 with h2 | ⟨h2, h2'⟩
          · exact .inl h2
          · exact .inr ⟨h2, ih h' h2'⟩

theorem nlt_tri (a b : List UInt8) : nlt a b = true ∨ a = b ∨ nlt b a = true := by
  induction a generalizing b with
  | nil => cases b with
    | nil => exact .inr (.inl rfl)
    | cons => exact .inl rfl
  | cons a x ih => cases b with
    | nil => exact .inr (.inr rfl)
    | cons b y =>
      rw [nlt_cons, nlt_cons]
      rcases u8_tri a b with h | h | h
      · exact .inl (by simp [h])
      · subst h
        rcases ih y with h | h | h
        · exact .inl (by simp [h])
        · exact .inr (.inl (by rw [h]))
        · exact .inr (.inr (by simp [h]))
      · exact .inr (.inr (by simp [h]))

theorem nlt_asymm {a b : List UInt8} (h : nlt a b = true) : nlt b a = false := by
  cases h2 : nlt b a
  · rfl
  · have := nlt_trans h h2; rw [nlt_irrefl] at this; cases this

theorem nlt_ne {a b : List UInt8} (h : nlt a b = true) : a ≠ b := by
  intro e; subst e; rw [nlt_irrefl] at h; cases h

/-! ### gathering -/

/-- names in order, each as often as one likes -/
def Sorted (l : List Tm) : Prop := l.Pairwise (fun a b => nlt b.name a.name = false)

/-! ### the one list -/

/-! ### Times -/

/-! ### Add -/

end Go.Proofs.YtmndccbeddaphaaGreatDoor
/- What an expression is, as a function on its tokens. -/
namespace Go.Proofs.YtmndccbeddaphaaGreatDoor
set_option linter.unusedVariables false

/-- terms and a number -/
structure Lin where
  terms : List Tm
  const : Int

/-! ### what comes out is right, and there is less left -/

end Go.Proofs.YtmndccbeddaphaaGreatDoor
namespace Go.Proofs.YtmndccbeddaphaaGreatDoor
open Go.ChangeShapes Go.WideShapes Go.ChangeAt Go.RowKit
set_option linter.unusedVariables false
set_option maxRecDepth 100000

def Tm.cells (t : Tm) : List Value := [.string (str t.name), .int .u32 t.coef]
def rowT (ts : List Tm) : List Value := ts.flatMap Tm.cells

theorem below_alloc (w : World) (o : Obj) : Below w.heap.size w (w.alloc o) := (Below.refl _ w).alloc (Nat.le_refl _) o
theorem grown_of_below {w w' : World} (h : Below w.heap.size w w') : w.grownBy w' none := ⟨h.os, h.tape, h.output, h.size, fun k hk _ => h.block k hk⟩

/-- a term lies from cell o of block g on -/
structure TmAt (w : World) (g o : Nat) (t : Tm) : Prop where
  name : w.cell? ⟨g, o, none⟩ = some (.string (str t.name))
  coef : w.cell? ⟨g, o + 1, none⟩ = some (.int .u32 t.coef)

theorem TmAt.below {w w' : World} {g o : Nat} {t : Tm} {B : Nat} (h : TmAt w g o t) (hb : Below B w w') (hg : g < B) : TmAt w' g o t :=
  ⟨by rw [hb.cell (p := ⟨g, o, none⟩) hg]; exact h.name, by rw [hb.cell (p := ⟨g, o + 1, none⟩) hg]; exact h.coef⟩

/-- the terms ts lie from a on -/
def TmLies (w : World) (a : Option Addr) (ts : List Tm) : Prop := ts = [] ∨ ∃ g o, a = some ⟨g, o, none⟩ ∧ g < w.heap.size ∧ ∀ i t, ts[i]? = some t → TmAt w g (o + i * 2) t

theorem TmLies.below {w w' : World} {a : Option Addr} {ts : List Tm} {B : Nat} (h : TmLies w a ts) (hb : Below B w w') (hB : w.heap.size ≤ B) : TmLies w' a ts := by
  rcases h with h | ⟨g, o, ha, hg, h⟩
  · exact .inl h
  · exact .inr ⟨g, o, ha, Nat.lt_of_lt_of_le hg hb.size, fun i t hi => (h i t hi).below hb (by omega)⟩

theorem own_slice {w : World} {lo : Nat} {T : TypeId} {sz : Nat} {v : Value} {n : Nat} {xs : List Value} (h : w.ownsRow lo T sz v n xs) : ∃ a c, v = .slice a n c := by
  obtain ⟨hl, ⟨hv, h0⟩ | ⟨g, cap, cur, hv, r⟩⟩ := h
  · exact ⟨none, 0, by rw [hv, h0]⟩
  · exact ⟨_, cap, hv⟩

theorem own_weaken {w : World} {lo B : Nat} {T : TypeId} {sz : Nat} {v : Value} {n : Nat} {xs : List Value} (h : w.ownsRow lo T sz v n xs) (hB : B ≤ lo) : w.ownsRow B T sz v n xs := by
  refine ⟨h.1, ?_⟩
  rcases h.2 with hx | ⟨g, cap, cur, k1, k2, k3⟩
  · exact .inl hx
  · exact .inr ⟨g, cap, cur, k1, by omega, k3⟩

/-- what is owned above k stays, whatever is done to block k -/
theorem own_low {w w' : World} {lo k : Nat} {T : TypeId} {sz : Nat} {v : Value} {n : Nat} {xs : List Value} (h : w.ownsRow lo T sz v n xs) (hg : w.grownBy w' (some k)) (hk : k < lo) : w'.ownsRow lo T sz v n xs :=
  h.kept hg (by
    cases hb : v.ownBlock with
    | none => exact .inl rfl
    | some g =>
      refine .inr fun e => ?_
      have := (h.lt g hb).1
      injection e with e
      omega)

/-- two cells of a struct, in a block of their own -/
structure Two (w : World) (g : Nat) (T : TypeId) (x y : Value) : Prop where
  heap : w.heap[g]? = some (.cells #[x, y] T (0, 0))
  c0 : w.cell? ⟨g, 0, none⟩ = some x
  c1 : w.cell? ⟨g, 1, none⟩ = some y
  f0 : w.frozen? ⟨g, 0, none⟩ = false
  f1 : w.frozen? ⟨g, 1, none⟩ = false

theorem two_of {w : World} {g : Nat} {T : TypeId} {x y : Value} (h : w.heap[g]? = some (.cells #[x, y] T (0, 0))) : Two w g T x y :=
  ⟨h, by rw [cell_of_row w g 0 _ T (0, 0) h]; rfl, by rw [cell_of_row w g 1 _ T (0, 0) h]; rfl, frozen_of_row w g 0 _ T h, frozen_of_row w g 1 _ T h⟩

theorem Two.alloc {w : World} {g : Nat} {T : TypeId} {x y : Value} (h : Two w g T x y) (o : Obj) : Two (w.alloc o) g T x y :=
  two_of (by rw [Below.heap_alloc w o g (Array.getElem?_eq_some_iff.1 h.heap).1]; exact h.heap)

theorem two_new (w : World) (T : TypeId) (x y : Value) : Two (w.alloc (.cells #[x, y] T)) w.heap.size T x y := two_of (heap_alloc_new w _)

theorem Two.below {w w' : World} {g B : Nat} {T : TypeId} {x y : Value} (h : Two w g T x y) (hb : Below B w w') (hg : g < B) : Two w' g T x y := two_of (by rw [hb.block g hg]; exact h.heap)

theorem grown_trans {a b c : World} {r : Option Nat} (h : a.grownBy b r) (k : b.grownBy c r) : a.grownBy c r :=
  ⟨k.os.trans h.os, k.tape.trans h.tape, k.output.trans h.output, Nat.le_trans h.size k.size, fun i hi hn => by rw [k.block i (Nat.lt_of_lt_of_le hi h.size) hn, h.block i hi hn]⟩

theorem below_of_grown {a b : World} {k B : Nat} (h : a.grownBy b (some k)) (hk : B ≤ k) (hB : B ≤ a.heap.size) : Below B a b := (Below.refl B a).grown h hB (fun j hj => by cases hj; exact hk)

/-- a Lin's value -/
abbrev linV (v : Value) (k : Int) : Value := .agg #[v, .int .u32 k]
end Go.Proofs.YtmndccbeddaphaaGreatDoor

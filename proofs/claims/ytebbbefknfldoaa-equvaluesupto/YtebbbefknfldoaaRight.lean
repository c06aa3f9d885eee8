/- expr.Right. -/
import Derived.Test.YtebbbefknfldoaaConcat
import Derived.Deep.SlicePairs
import Derived.ChangeArms
import Derived.Test.YtebbbefknfldoaaLinM
import Derived.Test.YtebbbefknfldoaaRBk
import Derived.Laws.Cover1
/- How a Lin that came in is opened: its terms lie in memory; what the bound on its bulk gives. -/
namespace Go.Proofs.Ytebbbefknfldoaa
open Go.ChangeShapes Go.WideShapes Go.ChangeAt Go.RowKit
set_option linter.unusedVariables false
set_option maxRecDepth 100000
theorem cells23 : Try.prog.cellsOf 27 = 1 := by kernel_rfl
theorem bulk_pos {H : Type} (d : DataW H) : 1 ≤ Rows.uptoBulk d := by
  cases d with
  | lit l => cases l <;> simp [Rows.uptoBulk]
  | nil => simp [Rows.uptoBulk]
  | ptr d => simp [Rows.uptoBulk]
  | slice elems spare => simp [Rows.uptoBulk]
  | agg parts => simp [Rows.uptoBulk]
  | iface t d => simp [Rows.uptoBulk]
  | map entries => simp [Rows.uptoBulk]
  | held h => simp [Rows.uptoBulk]
theorem bulk_all {H : Type} (l : List (DataW H)) : l.length ≤ Rows.uptoBulkAll l := by
  induction l with
  | nil => simp [Rows.uptoBulkAll]
  | cons x r ih =>
    have := bulk_pos x
    simp only [Rows.uptoBulkAll, List.length_cons]
    omega
theorem bulk_mem {H : Type} (l : List (DataW H)) (d : DataW H) (h : d ∈ l) : Rows.uptoBulk d ≤ Rows.uptoBulkAll l := by
  induction l with
  | nil => cases h
  | cons x r ih =>
    simp only [Rows.uptoBulkAll]
    rcases List.mem_cons.1 h with rfl | h
    · omega
    · have := ih h
      omega
def nameV : Value → List UInt8
  | .string s => s.data.toList
  | _ => []
structure LinIn (W : World) (v : Value) (N : Nat) (a : Option Addr) (c : Nat) (ts : List Tm) (k : Int) : Prop where
  is : v = linV (.slice a ts.length c) k
  held : Held W a c ts
  lo : 0 ≤ k
  hi : k < 4294967296
  few : ts.length ≤ N
  each : ∀ t ∈ ts, 0 ≤ t.coef ∧ t.coef < 4294967296 ∧ t.name.length ≤ N
  cap : ts.length ≤ c
  most : c ≤ maxLen
end Go.Proofs.Ytebbbefknfldoaa
/- The document's Legal. -/
namespace Go.Proofs.Ytebbbefknfldoaa
open Go.ChangeShapes Go.WideShapes Go.ChangeAt Go.RowKit
set_option linter.unusedVariables false
set_option maxRecDepth 100000
theorem lenW_grow (p : Int → Bool) (hp : p 0 = false) (r : List UInt8) (k : Nat) (h : k ≤ lenW p r) (hc : p (atI r k) = true) : k + 1 ≤ lenW p r := by
  apply Decidable.byContradiction
  intro hn
  have e : lenW p r = k := by omega
  have := lenW_end p hp r
  rw [e, hc] at this
  cases this
theorem lenW_here (p : Int → Bool) (hp : p 0 = false) (r : List UInt8) (k : Nat) (h : k ≤ lenW p r) (hc : p (atI r k) = false) : lenW p r = k := by
  apply Decidable.byContradiction
  intro hn
  have := lenW_in p r k (by omega)
  rw [hc] at this
  cases this
set_option maxHeartbeats 1000000 in
theorem refLegal_any (s : ByteArray) (hs : s.size ≤ 1100000) (w : World) :
    Calls Try.prog 32 #[.string s] w fun e w' => e = .returned (.bool (legB s)) ∧ w' = w := by
  have hs2 : s.size ≤ 4611686018427387904 := by omega
  by_cases h1 : s.size < 1
  · have hl : legB s = false := by
      have : nameOK (bs s) = false := by
        cases h : nameOK (bs s)
        · rfl
        · simp only [nameOK, decide_eq_true_eq] at h
          have := (lenW_more inW inW_zero (bs s) (inW_of_let _ h.1)).2
          rw [bs_length] at this
          omega
      simp [legB, this]
    rw [hl]
    clear hl
    go_enter Try.func32, Try.ntmps32
    go_wp2
    all_goals first
      | omega
      | (go_ret; exact ⟨rfl, rfl⟩)
  · by_cases h32 : 32 < s.size
    · have hl : legB s = false := by
        have : nameOK (bs s) = false := by
          simp only [nameOK, decide_eq_false_iff_not]
          rw [bs_length]
          omega
        simp [legB, this]
      rw [hl]
      clear hl
      go_enter Try.func32, Try.ntmps32
      go_wp2
      all_goals first
        | omega
        | (go_ret; exact ⟨rfl, rfl⟩)
    · have hpos : 0 < s.size := by omega
      have hg0 := atI_get s 0 hpos
      have hle1 : ¬ ((s.size : Int) < 1) := by omega
      have hle2 : ¬ ((32 : Int) < (s.size : Int)) := by omega
      cases hlet : isLet (atI (bs s) 0)
      · have hl : legB s = false := by
          have : nameOK (bs s) = false := by
            simp only [nameOK, decide_eq_false_iff_not]
            rw [hlet]
            simp
          simp [legB, this]
        rw [hl]
        clear hl
        go_enter Try.func32, Try.ntmps32
        go_wp2_with (first
          | (go_at_call 50; refine (refLetter_any _ _).mono ?_; rintro e w' ⟨rfl, rfl⟩))
        all_goals first
          | omega
          | (go_ret; exact ⟨rfl, rfl⟩)
      · have hlH := Hid.intro hlet
        go_enter Try.func32, Try.ntmps32
        go_wp2_with (first
          | (go_at_call 50; refine (refLetter_any _ _).mono ?_; rintro e w' ⟨rfl, rfl⟩))
        all_goals first
          | omega
          | skip
        go_loop [3] (fun vi => ∃ k : Nat, k ≤ s.size ∧ vi = .int .i64 k ∧ Hid (k ≤ lenW inW (bs s))) (fun vi => s.size - (intOf vi).toNat)
        case atStart => exact ⟨0, by omega, rfl, Nat.zero_le _⟩
        case round =>
          obtain ⟨k, hk, rfl, hkl⟩ := hrel
          by_cases hlt : k < s.size
          · have hg := atI_get s k hlt
            cases hl : isLet (atI (bs s) k)
            · cases hd : isDig (atI (bs s) k)
              · have hw : lenW inW (bs s) = k := lenW_here inW inW_zero _ _ hkl.out (by simp [inW, hl, hd])
                have hlg : legB s = false := by
                  have : nameOK (bs s) = false := by
                    simp only [nameOK, decide_eq_false_iff_not]
                    rw [hw, bs_length]
                    omega
                  simp [legB, this]
                have hlgH := Hid.intro hlg
                clear hlg hw
                go_wp2_with (first
                  | (go_at_call 50; refine (refLetter_any _ _).mono ?_; rintro e w' ⟨rfl, rfl⟩)
                  | (go_at_call 51; refine (refDigit_any _ _).mono ?_; rintro e w' ⟨rfl, rfl⟩))
                all_goals first
                  | omega
                  | (go_ret; exact ⟨by rw [hlgH.out]; rfl, rfl⟩)
              · have hw := Hid.intro (lenW_grow inW inW_zero _ _ hkl.out (by simp [inW, hl, hd]))
                go_wp2_with (first
                  | (go_at_call 50; refine (refLetter_any _ _).mono ?_; rintro e w' ⟨rfl, rfl⟩)
                  | (go_at_call 51; refine (refDigit_any _ _).mono ?_; rintro e w' ⟨rfl, rfl⟩))
                all_goals first
                  | omega
                  | skip
                go_round
                case rel => exact ⟨k + 1, by omega, by go_num, hw⟩
                case measure => simp [intOf]; omega
            · have hw := Hid.intro (lenW_grow inW inW_zero _ _ hkl.out (by simp [inW, hl]))
              go_wp2_with (first
                | (go_at_call 50; refine (refLetter_any _ _).mono ?_; rintro e w' ⟨rfl, rfl⟩)
                | (go_at_call 51; refine (refDigit_any _ _).mono ?_; rintro e w' ⟨rfl, rfl⟩))
              all_goals first
                | omega
                | skip
              go_round
              case rel => exact ⟨k + 1, by omega, by go_num, hw⟩
              case measure => simp [intOf]; omega
          · have e : k = s.size := by omega
            subst e
            have hw : lenW inW (bs s) = (bs s).length := by
              have := lenW_le inW (bs s)
              rw [bs_length] at this ⊢
              have := hkl.out
              omega
            have hlg : legB s = !(isR s || isZ s) := by
              have : nameOK (bs s) = true := by
                simp only [nameOK, decide_eq_true_eq]
                refine ⟨hlH.out, hw, ?_⟩
                rw [bs_length]
                omega
              simp [legB, this]
            have hlgH := Hid.intro hlg
            clear hlg hw
            go_wp2_with (first
              | (go_at_call 52; refine (refRegister_any _ hs2 _).mono ?_; rintro e w' ⟨rfl, rfl⟩))
            all_goals first
              | omega
              | (go_ret; exact ⟨by rw [hlgH.out, Bool.not_or]; rfl, rfl⟩)
end Go.Proofs.Ytebbbefknfldoaa
namespace Go.Proofs.Ytebbbefknfldoaa
open Go.ChangeShapes Go.WideShapes Go.ChangeAt Go.RowKit
set_option linter.unusedVariables false
set_option maxRecDepth 100000
def okT (prev : Option (List UInt8)) (t : Tm) : Bool := decide (t.coef ≠ 0) && (legB (str t.name) && (match prev with | none => true | some p => nlt p t.name))
def rightF (prev : Option (List UInt8)) : List Tm → Bool
  | [] => true
  | t :: r => okT prev t && rightF (some t.name) r
def prevOf (ts : List Tm) : Nat → Option (List UInt8)
  | 0 => none
  | k + 1 => (ts[k]?).map (·.name)
def rightAt (ts : List Tm) (i : Nat) : Bool := rightF (prevOf ts i) (ts.drop i)
theorem rightAt_step (ts : List Tm) (i : Nat) (t : Tm) (ht : ts[i]? = some t) : rightAt ts i = (okT (prevOf ts i) t && rightAt ts (i + 1)) := by
  unfold rightAt
  rw [drop_at ts i t ht, rightF]
  congr 1
  simp [prevOf, ht]
theorem rightAt_end (ts : List Tm) : rightAt ts ts.length = true := by
  unfold rightAt
  rw [List.drop_length]
  rfl
theorem leq_nlt (p t : List UInt8) : (Op.bytesLess t p || t == p) = !nlt p t := by
  have h0 : Op.bytesLess t p = nlt t p := rfl
  rw [h0]
  rcases nlt_tri p t with h | h | h
  · rw [h, nlt_asymm h]
    have := nlt_ne h
    simp
    exact fun e => this e.symm
  · subst h
    rw [nlt_irrefl]
    simp
  · rw [h, nlt_asymm h]
    rfl
theorem str_size (l : List UInt8) : (str l).size = l.length := by simp [str, ByteArray.size]
end Go.Proofs.Ytebbbefknfldoaa

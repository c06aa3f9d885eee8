/- errors.As at this program's own errors: a number (api.Errno), a refusal of unit's. -/
import Derived.Test.YtmndccbeddaphaaGreatDoorNames
import Derived.Test.YtmndccbeddaphaaGreatDoorNum2
import Derived.Handy
import Derived.WalkKit
import Derived.LaidEql
import Derived.Stop.Asserts
import Derived.RowKitTokens
/- The document's Register and Legal, and Legal. -/
namespace Go.Proofs.YtmndccbeddaphaaGreatDoor
open Go.ChangeShapes Go.WideShapes Go.ChangeAt Go.RowKit
set_option linter.unusedVariables false
set_option maxRecDepth 100000
def nameOK (l : List UInt8) : Bool := decide (isLet (atI l 0) = true ∧ lenW inW l = l.length ∧ l.length ≤ 32)
theorem scan_text (r : List UInt8) (a : Nat) (ts : List Tok) (h : scan r a = .ok ts) : ∀ t ∈ ts, t.text.length ≤ r.length := by
  induction hn : r.length using Nat.strongRecOn generalizing r a ts with
  | _ n ih =>
    subst hn
    cases r with
    | nil => unfold scan at h; cases h; simp
    | cons b r =>
      unfold scan at h
      split at h
      · cases h; simp
      · split at h
        · intro t ht
          have := ih r.length (by simp) r _ ts h rfl t ht
          simp; omega
        · split at h
          · cases h
          · split at h
            · rename_i kind n k heq1 _ us heq2
              have hk := tokAt_some _ _ _ _ heq1
              have := ih (r.drop (k - 1)).length (by simp; omega) _ _ us heq2 rfl
              cases h
              intro t ht
              rw [List.mem_cons] at ht
              rcases ht with rfl | ht
              · simp only [List.length_take]
                omega
              · have := this t ht
                simp only [List.length_drop] at this
                simp
                omega
            · cases h
theorem name_of_scan (l : List UInt8) (t : Tok) (h : scan l 0 = .ok [t]) (hk : t.kind = 1) (ht : t.text = l) : nameOK l = true := by
  cases l with
  | nil => unfold scan at h; cases h
  | cons b r =>
    have h0 := h
    unfold scan at h
    split at h
    · cases h
    · split at h
      · have := scan_text r _ _ h t (by simp)
        rw [ht] at this
        simp at this
        omega
      · split at h
        · cases h
        · split at h
          · rename_i kind n k heq1 _ us heq2
            have hks := tokAt_some _ _ _ _ heq1
            cases h
            simp only at hk ht
            subst hk
            have hlen : k = (b :: r).length := by
              have := congrArg List.length ht
              rw [List.length_take] at this
              omega
            unfold tokAt at heq1
            split at heq1
            · rename_i hl
              split at heq1
              · simp at heq1
                simp only [nameOK, decide_eq_true_eq]
                exact ⟨hl, by omega, by omega⟩
              · cases heq1
            · split at heq1
              · split at heq1
                · cases heq1
                · simp at heq1
              · split at heq1
                · simp at heq1
                · cases heq1
          · cases h
theorem let_no (c : Int) (h : isLet c = true) : c ≠ 59 ∧ isBl c = false := by
  simp [isLet] at h
  refine ⟨by omega, ?_⟩
  simp [isBl]
  omega
theorem scan_of_name (l : List UInt8) (h : nameOK l = true) : scan l 0 = .ok [⟨1, l, 0, 0⟩] := by
  simp only [nameOK, decide_eq_true_eq] at h
  obtain ⟨h1, h2, h3⟩ := h
  have hpos : 0 < l.length := (lenW_more inW inW_zero l (inW_of_let _ h1)).2
  have hn := let_no _ h1
  have ht : tokAt (l.drop 0) = some (1, 0, l.length) := by
    rw [List.drop_zero]
    unfold tokAt
    rw [if_pos h1, if_pos (by omega), h2]
  have := scan_tok l 0 hpos hn.1 hn.2 1 0 l.length ht
  rw [List.drop_zero, scan_end l (0 + l.length) (by omega), List.take_length] at this
  exact this
def legB (s : ByteArray) : Bool := nameOK (bs s) && !(isR s || isZ s)
theorem own_any {w : World} {B n : Nat} {T : TypeId} {v : Value} {xs : List Value} (h : w.ownsRow B T 4 v n xs) : ∃ a cap, v = .slice a n cap := by
  obtain ⟨hl, ⟨hv, h0⟩ | ⟨g, cap, cur, hv, r⟩⟩ := h
  · exact ⟨none, 0, by rw [hv, h0]⟩
  · exact ⟨_, cap, hv⟩
theorem legal_any (s : ByteArray) (hs : s.size ≤ 1100000) (w : World) :
    Calls Tryz.prog 102 #[.string s] w fun e w' => e = .returned (.bool (legB s)) ∧ Below w.heap.size w w' := by
  have hs2 : s.size ≤ 4611686018427387904 := by omega
  cases hsc : scan (bs s) 0 with
  | error p =>
    have hl : legB s = false := by
      cases h : nameOK (bs s)
      · simp [legB, h]
      · rw [scan_of_name _ h] at hsc; cases hsc
    rw [hl]
    have hH := Hid.intro (tokens_bad s hs p hsc w)
    clear hsc hl
    go_enter Tryz.func102, Tryz.ntmps102
    go_wp2_with (go_at_call 127; refine (hH.out).mono ?_; rintro e w1 ⟨hb1, rfl⟩)
    go_ret
    exact ⟨rfl, hb1⟩
  | ok ts =>
    have hH := Hid.intro (tokens_ok s hs ts hsc w)
    by_cases h1 : ts.length = 1
    · obtain ⟨t, rfl⟩ : ∃ t, ts = [t] := by
        match ts, h1 with
        | [t], _ => exact ⟨t, rfl⟩
      have hH2 : Hid (Calls Tryz.prog 127 #[.string s] w fun e w' => Below w.heap.size w w' ∧ ∃ g cap, e = .returned (.tuple #[.slice (some ⟨g, 0, none⟩) 1 cap, .int .i64 0, .int .i64 0]) ∧ TokAt w' g 0 t) := by
        refine (hH.out).mono ?_
        rintro e w' ⟨hb, v, rfl, hown⟩
        obtain ⟨g, cap, rfl, _, hg⟩ := own_form (n := 0) hown
        exact ⟨hb, g, cap, rfl, tok_at hown 0 _ rfl⟩
      have hleg : legB s = ((t.kind == 1) && ((str t.text).toList == s.toList) && !(isR s || isZ s)) := by
        unfold legB
        congr 1
        rw [str_toList, Lib.toList_data, Bool.eq_iff_iff]
        simp only [Bool.and_eq_true, beq_iff_eq]
        constructor
        · intro h
          have h2 := scan_of_name _ h
          rw [hsc] at h2
          cases h2
          exact ⟨rfl, rfl⟩
        · rintro ⟨ha, hb⟩
          exact name_of_scan _ t hsc ha hb
      rw [hleg]
      clear hH hsc h1 hleg
      cases hk : (t.kind == 1)
      · go_enter Tryz.func102, Tryz.ntmps102
        go_wp2_with (first
          | (go_at_call 127; refine (hH2.out).mono ?_; rintro e w1 ⟨hb1, g, cap, rfl, ht⟩; obtain ⟨k0, k1, k2, k3⟩ := ht; simp only [Nat.zero_mul, Nat.zero_add] at k0 k1 k2 k3)
          | (go_at_call 128; refine (register_any _ hs2 _).mono ?_; rintro e w' ⟨rfl, rfl⟩))
        go_ret
        exact ⟨by simp, hb1⟩
      · cases hq : ((str t.text).toList == s.toList)
        · go_enter Tryz.func102, Tryz.ntmps102
          go_wp2_with (first
            | (go_at_call 127; refine (hH2.out).mono ?_; rintro e w1 ⟨hb1, g, cap, rfl, ht⟩; obtain ⟨k0, k1, k2, k3⟩ := ht; simp only [Nat.zero_mul, Nat.zero_add] at k0 k1 k2 k3)
            | (go_at_call 128; refine (register_any _ hs2 _).mono ?_; rintro e w' ⟨rfl, rfl⟩))
          go_ret
          exact ⟨by simp, hb1⟩
        · go_enter Tryz.func102, Tryz.ntmps102
          go_wp2_with (first
            | (go_at_call 127; refine (hH2.out).mono ?_; rintro e w1 ⟨hb1, g, cap, rfl, ht⟩; obtain ⟨k0, k1, k2, k3⟩ := ht; simp only [Nat.zero_mul, Nat.zero_add] at k0 k1 k2 k3)
            | (go_at_call 128; refine (register_any _ hs2 _).mono ?_; rintro e w' ⟨rfl, rfl⟩))
          go_ret
          exact ⟨by simp, hb1⟩
    · have hl : legB s = false := by
        cases h : nameOK (bs s)
        · simp [legB, h]
        · rw [scan_of_name _ h] at hsc; cases hsc; simp at h1
      rw [hl]
      obtain ⟨n, hn⟩ : ∃ n, n = ts.length := ⟨_, rfl⟩
      have hlen := scan_len _ _ _ hsc
      rw [bs_length, ← hn] at hlen
      have hH2 : Hid (Calls Tryz.prog 127 #[.string s] w fun e w' => Below w.heap.size w w' ∧ ∃ a cap, e = .returned (.tuple #[.slice a n cap, .int .i64 0, .int .i64 0])) := by
        refine (hH.out).mono ?_
        rintro e w' ⟨hb, v, rfl, hown⟩
        obtain ⟨a, cap, rfl⟩ := own_any hown
        exact ⟨hb, a, cap, by rw [hn]⟩
      have hne : ((n : Int) != 1) = true := by rw [← hn] at h1; simp; omega
      clear hH hsc hl h1 hn
      go_enter Tryz.func102, Tryz.ntmps102
      go_wp2_with (go_at_call 127; refine (hH2.out).mono ?_; rintro e w1 ⟨hb1, a, cap, rfl⟩)
      go_ret
      exact ⟨rfl, hb1⟩
end Go.Proofs.YtmndccbeddaphaaGreatDoor
/- What an expression is, as a function on its tokens. -/
namespace Go.Proofs.YtmndccbeddaphaaGreatDoor
set_option linter.unusedVariables false
structure Lin where
  terms : List Tm
  const : Int
end Go.Proofs.YtmndccbeddaphaaGreatDoor
/- Terms in memory. -/
namespace Go.Proofs.YtmndccbeddaphaaGreatDoor
open Go.ChangeShapes Go.WideShapes Go.ChangeAt Go.RowKit
set_option linter.unusedVariables false
set_option maxRecDepth 100000
def Tm.cells (t : Tm) : List Value := [.string (str t.name), .int .u32 t.coef]
def rowT (ts : List Tm) : List Value := ts.flatMap Tm.cells
theorem below_alloc (w : World) (o : Obj) : Below w.heap.size w (w.alloc o) := (Below.refl _ w).alloc (Nat.le_refl _) o
theorem grown_of_below {w w' : World} (h : Below w.heap.size w w') : w.grownBy w' none := ⟨h.os, h.tape, h.output, h.size, fun k hk _ => h.block k hk⟩
structure TmAt (w : World) (g o : Nat) (t : Tm) : Prop where
  name : w.cell? ⟨g, o, none⟩ = some (.string (str t.name))
  coef : w.cell? ⟨g, o + 1, none⟩ = some (.int .u32 t.coef)
theorem TmAt.below {w w' : World} {g o : Nat} {t : Tm} {B : Nat} (h : TmAt w g o t) (hb : Below B w w') (hg : g < B) : TmAt w' g o t :=
  ⟨by rw [hb.cell (p := ⟨g, o, none⟩) hg]; exact h.name, by rw [hb.cell (p := ⟨g, o + 1, none⟩) hg]; exact h.coef⟩
def TmLies (w : World) (a : Option Addr) (ts : List Tm) : Prop := ts = [] ∨ ∃ g o, a = some ⟨g, o, none⟩ ∧ g < w.heap.size ∧ ∀ i t, ts[i]? = some t → TmAt w g (o + i * 2) t
theorem TmLies.below {w w' : World} {a : Option Addr} {ts : List Tm} {B : Nat} (h : TmLies w a ts) (hb : Below B w w') (hB : w.heap.size ≤ B) : TmLies w' a ts := by
  rcases h with h | ⟨g, o, ha, hg, h⟩
  · exact .inl h
  · exact .inr ⟨g, o, ha, Nat.lt_of_lt_of_le hg hb.size, fun i t hi => (h i t hi).below hb (by omega)⟩
theorem own_slice {w : World} {lo : Nat} {T : TypeId} {sz : Nat} {v : Value} {n : Nat} {xs : List Value} (h : w.ownsRow lo T sz v n xs) : ∃ a c, v = .slice a n c := by
  obtain ⟨hl, ⟨hv, h0⟩ | ⟨g, cap, cur, hv, r⟩⟩ := h
  · exact ⟨none, 0, by rw [hv, h0]⟩
  · exact ⟨_, cap, hv⟩
theorem own_weaken {w : World} {lo B : Nat} {T : TypeId} {sz : Nat} {v : Value} {n : Nat} {xs : List Value} (h : w.ownsRow lo T sz v n xs) (hB : B ≤ lo) : w.ownsRow B T sz v n xs := by
  refine ⟨h.1, ?_⟩
  rcases h.2 with hx | ⟨g, cap, cur, k1, k2, k3⟩
  · exact .inl hx
  · exact .inr ⟨g, cap, cur, k1, by omega, k3⟩
theorem own_low {w w' : World} {lo k : Nat} {T : TypeId} {sz : Nat} {v : Value} {n : Nat} {xs : List Value} (h : w.ownsRow lo T sz v n xs) (hg : w.grownBy w' (some k)) (hk : k < lo) : w'.ownsRow lo T sz v n xs :=
  h.kept hg (by
    cases hb : v.ownBlock with
    | none => exact .inl rfl
    | some g =>
      refine .inr fun e => ?_
      have := (h.lt g hb).1
      injection e with e
      omega)
structure Two (w : World) (g : Nat) (T : TypeId) (x y : Value) : Prop where
  heap : w.heap[g]? = some (.cells #[x, y] T (0, 0))
  c0 : w.cell? ⟨g, 0, none⟩ = some x
  c1 : w.cell? ⟨g, 1, none⟩ = some y
  f0 : w.frozen? ⟨g, 0, none⟩ = false
  f1 : w.frozen? ⟨g, 1, none⟩ = false
theorem two_of {w : World} {g : Nat} {T : TypeId} {x y : Value} (h : w.heap[g]? = some (.cells #[x, y] T (0, 0))) : Two w g T x y :=
  ⟨h, by rw [cell_of_row w g 0 _ T (0, 0) h]; rfl, by rw [cell_of_row w g 1 _ T (0, 0) h]; rfl, frozen_of_row w g 0 _ T h, frozen_of_row w g 1 _ T h⟩
theorem Two.alloc {w : World} {g : Nat} {T : TypeId} {x y : Value} (h : Two w g T x y) (o : Obj) : Two (w.alloc o) g T x y :=
  two_of (by rw [Below.heap_alloc w o g (Array.getElem?_eq_some_iff.1 h.heap).1]; exact h.heap)
theorem two_new (w : World) (T : TypeId) (x y : Value) : Two (w.alloc (.cells #[x, y] T)) w.heap.size T x y := two_of (heap_alloc_new w _)
theorem Two.below {w w' : World} {g B : Nat} {T : TypeId} {x y : Value} (h : Two w g T x y) (hb : Below B w w') (hg : g < B) : Two w' g T x y := two_of (by rw [hb.block g hg]; exact h.heap)
theorem grown_trans {a b c : World} {r : Option Nat} (h : a.grownBy b r) (k : b.grownBy c r) : a.grownBy c r :=
  ⟨k.os.trans h.os, k.tape.trans h.tape, k.output.trans h.output, Nat.le_trans h.size k.size, fun i hi hn => by rw [k.block i (Nat.lt_of_lt_of_le hi h.size) hn, h.block i hi hn]⟩
theorem below_of_grown {a b : World} {k B : Nat} (h : a.grownBy b (some k)) (hk : B ≤ k) (hB : B ≤ a.heap.size) : Below B a b := (Below.refl B a).grown h hB (fun j hj => by cases hj; exact hk)
abbrev linV (v : Value) (k : Int) : Value := .agg #[v, .int .u32 k]
end Go.Proofs.YtmndccbeddaphaaGreatDoor
/- expr.Of, Named, Times. -/
namespace Go.Proofs.YtmndccbeddaphaaGreatDoor
open Go.ChangeShapes Go.WideShapes Go.ChangeAt Go.RowKit
set_option linter.unusedVariables false
set_option maxRecDepth 100000
theorem take_at {α : Type} (ts : List α) (i : Nat) (t : α) (h : ts[i]? = some t) : ts.take (i + 1) = ts.take i ++ [t] := by
  obtain ⟨hi, he⟩ := List.getElem?_eq_some_iff.1 h
  rw [List.take_add_one, h]
  rfl
end Go.Proofs.YtmndccbeddaphaaGreatDoor
namespace Go.Proofs.YtmndccbeddaphaaGreatDoor
open Go.RowKit Go.Extern.Stop Go.Stop Go.Extern
set_option linter.unusedVariables false
set_option maxRecDepth 100000
theorem typeOf36 (v : Value) (w : World) : (ReflectliteType.typeOf #[.iface 23 v]).run Tryz.prog w = .ok (.iface 167 (.agg #[.pointer (some ⟨6, 23, none⟩)])) w := by kernel_rfl
end Go.Proofs.YtmndccbeddaphaaGreatDoor

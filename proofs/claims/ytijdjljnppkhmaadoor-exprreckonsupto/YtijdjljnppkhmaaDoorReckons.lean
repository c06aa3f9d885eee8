/- PROVED, where what comes in is of bulk at most 1048576: of any two Lins and any number, Right says what the document says, and where both are right Add, Times, Same, Text and Of answer as the document does: chapter 4, P4.2 to P4.5 (spandrellaw4.ExprReckons returns true). Conditions: that bound, and the listed tables as the program's text lays them. -/
import Derived.Test.YtijdjljnppkhmaaDoorTextT
import Derived.Test.YtijdjljnppkhmaaDoorQuietB
import Derived.Deep.QuietTactic
import Derived.BigQuiet
import Derived.WalkSmall
import Derived.WalkSpells
import Derived.Deep.RegionLaw
import Derived.Deep.DeepCutAuto
import Derived.Test.YtijdjljnppkhmaaDoorRefAdd
import Derived.Test.YtijdjljnppkhmaaDoorRefRight
import Derived.Test.YtijdjljnppkhmaaDoorRight
import Derived.Test.YtijdjljnppkhmaaDoorKnownE
import Derived.Test.YtijdjljnppkhmaaDoorNumbersW
import Derived.Test.YtijdjljnppkhmaaDoorGroupsM
import Derived.Deep.RegionWith
import Derived.Deep.RegionHeld3
import Derived.BigRegion
import Derived.Test.YtijdjljnppkhmaaDoorNumbers
import Derived.Test.YtijdjljnppkhmaaDoorLinF
import Derived.ShutString
import Derived.ChangeOld
import Derived.JoinedCond
/- The document's number and Text. -/
namespace Go.Proofs.YtijdjljnppkhmaaDoor
open Go.ChangeShapes Go.WideShapes Go.ChangeAt Go.RowKit
set_option linter.unusedVariables false
set_option maxRecDepth 100000

theorem str_add (a b : List UInt8) : str a ++ str b = str (a ++ b) := by
  apply ByteArray.ext
  simp [str]
theorem strT_size (a : List UInt8) : (str a).size = a.length := by simp [str, ByteArray.size]

theorem str_list2 (l : List UInt8) : (str l).toList = l := by
  rw [Lib.toList_data]
  rfl
/-- one byte as a text -/
theorem conv_one (w : World) (x : Int) (h0 : 0 ≤ x) (h1 : x < 256) : (convert 60 9 (.slice (some ⟨w.heap.size, 0, none⟩) 1 1)).run Tryd.prog (w.alloc (.cells #[.int .u8 x] 5)) = .ok (.string (str [UInt8.ofNat x.toNat])) (w.alloc (.cells #[.int .u8 x] 5)) := by
  refine run_convert_bytes_back (P := Tryd.prog) _ 60 9 5 ⟨w.heap.size, 0, none⟩ 1 [UInt8.ofNat x.toNat] Tryd.underlying60 Tryd.underlying5 Tryd.underlying9 (fun j hj => ?_)
  simp at hj
  subst hj
  have := cells_new w #[.int .u8 x] 5 0 (.int .u8 x) rfl
  rw [this]
  simp
  omega

/-- what is still to be written ahead of s -/
def numD (m : Nat) (s : List UInt8) : List UInt8 := if m = 0 ∧ s ≠ [] then s else Lib.decDigits m ++ s
theorem numD_step (m : Nat) (s : List UInt8) (h : m ≠ 0 ∨ s = []) : numD (m / 10) (UInt8.ofNat (48 + m % 10) :: s) = numD m s := by
  unfold numD
  rw [if_neg (show ¬ (m = 0 ∧ s ≠ []) by rcases h with h | h <;> simp [h])]
  conv => rhs; rw [Lib.decDigits]
  by_cases hm : m < 10
  · rw [if_pos ⟨by omega, by simp⟩, dif_pos hm, show m % 10 = m by omega]
    rfl
  · rw [if_neg (by omega), dif_neg hm]
    simp

set_option maxHeartbeats 2000000 in
theorem number_any (n : Int) (h0 : 0 ≤ n) (h1 : n < 4294967296) (w : World) :
    Calls Tryd.prog 45 #[.int .u32 n] w fun e w' => Below w.heap.size w w' ∧ e = .returned (.string (str (Lib.decDigits n.toNat))) := by
  obtain ⟨k, rfl⟩ : ∃ k : Nat, n = (k : Int) := ⟨n.toNat, by omega⟩
  have hk : k < 4294967296 := by omega
  clear h0 h1
  go_enter Tryd.func45, Tryd.ntmps45
  go_wp2
  go_loopw [0, 3] (fun vn vs wr => ∃ (m : Nat) (s : List UInt8), m < 4294967296 ∧ s.length + m ≤ 4294967296 ∧ vn = .int .u32 (m : Int) ∧ vs = .string (str s) ∧ Hid (Below w.heap.size w wr) ∧ Hid (numD m s = Lib.decDigits k)) (fun vn vs _ => (intOf vn).toNat + (match vs with | .string b => (if b.data.toList.isEmpty then 1 else 0) | _ => 0))
  case atStart => exact ⟨k, [], hk, by simp; omega, rfl, rfl, Below.refl _ _, by show _ = _; simp [numD]⟩
  case round =>
    obtain ⟨m, s, hm, hl, rfl, rfl, hb, hD⟩ := hrel
    have hsz := strT_size s
    have m0 : (0 : Int) ≤ (m : Int) := by omega
    have hb2 := Hid.intro (fun o => hb.out.alloc (o := o) hb.out.size)
    by_cases hm0 : m ≠ 0
    · have m1 : (0 : Int) < (m : Int) := by omega
      have hc := conv_one wr (48 + (m : Int) % 10) (by omega) (by omega)
      obtain ⟨B, hB⟩ : ∃ B, B = UInt8.ofNat (48 + (m : Int) % 10).toNat := ⟨_, rfl⟩
      have hBs := strT_size [B]
      rw [← hB] at hc
      have hBH := Hid.intro hB
      have hlH := Hid.intro hl
      clear hB
      have hl2 : (s.length : Int) + m ≤ 4294967296 := by omega
      go_wp2
      all_goals first | omega | (simp; omega) | skip
      go_roundw
      case rel =>
        refine ⟨m / 10, B :: s, by omega, by simp; omega, by go_num, by rw [str_add]; rfl, hb2.out _, ?_⟩
        show _ = _
        rw [← hD.out, ← numD_step m s (.inl hm0), hBH.out, show (48 + (m : Int) % 10).toNat = 48 + m % 10 by omega]
      case measure => simp [intOf, str]; omega
    · obtain rfl : 0 = m := by omega
      by_cases hs : s = []
      · subst hs
        have he : (str []).toList.isEmpty = true := by simp [str_list2]
        have hc := conv_one wr 48 (by omega) (by omega)
        have hBs := strT_size [UInt8.ofNat (Int.toNat 48)]
        go_wp2
        all_goals first | omega | (simp; omega) | skip
        go_roundw
        case rel =>
          refine ⟨0, [UInt8.ofNat (48 + 0 % 10)], by omega, by simp, by go_num, by rw [str_add]; rfl, hb2.out _, ?_⟩
          show _ = _
          rw [← hD.out, ← numD_step 0 [] (.inr rfl)]
        case measure => simp [intOf, str]
      · have he : (str s).toList.isEmpty = false := by rw [str_list2]; simp [hs]
        go_wp2
        all_goals first | omega | skip
        go_ret
        refine ⟨hb.out, ?_⟩
        have := hD.out
        rw [numD, if_pos ⟨rfl, hs⟩] at this
        rw [this]
        simp

/-- a term, without the sign behind it -/
def termB (t : Tm) : List UInt8 := (if t.coef = 1 then [] else Lib.decDigits t.coef.toNat ++ [42]) ++ t.name
def joinS (ts : List Tm) : List UInt8 := (termsS ts).dropLast
theorem termS_B (t : Tm) : termS t = termB t ++ [43] := by simp [termS, termB]
theorem joinS_push (ts : List Tm) (t : Tm) : joinS (ts ++ [t]) = termsS ts ++ termB t := by
  rw [joinS, termsS_push, termS_B, ← List.append_assoc, List.dropLast_concat]
theorem termsS_join (ts : List Tm) (h : ts ≠ []) : termsS ts = joinS ts ++ [43] := by
  obtain ⟨l, t, rfl⟩ : ∃ l t, ts = l ++ [t] := ⟨ts.dropLast, ts.getLast h, (List.dropLast_concat_getLast h).symm⟩
  rw [joinS_push, termsS_push, termS_B, List.append_assoc]
theorem joinS_len (ts : List Tm) (h : ∀ t ∈ ts, OkT t) : (joinS ts).length ≤ ts.length * 44 := by
  have := termsS_len ts h
  rw [joinS, List.length_dropLast]
  omega
theorem number_held (n : Int) (h0 : 0 ≤ n) (h1 : n < 4294967296) (D : List UInt8) (hD : D = Lib.decDigits n.toNat) (w : World) :
    Calls Tryd.prog 45 #[.int .u32 n] w fun e w' => e = .returned (.string (str D)) ∧ Below w.heap.size w w' :=
  (number_any n h0 h1 w).mono fun e w' ⟨h, he⟩ => ⟨by rw [he, hD], h⟩

set_option maxHeartbeats 2000000 in
theorem refText_any (a : Option Addr) (c : Nat) (ts : List Tm) (k : Int) (w : World) (hT : TmLies w a ts) (hm : ts.length ≤ 1100000) (hN : ∀ t ∈ ts, OkT t) (h0 : 0 ≤ k) (h1 : k < 4294967296) :
    Calls Tryd.prog 29 #[linV (.slice a ts.length c) k] w fun e w' => Below w.heap.size w w' ∧ e = .returned (.string (str (textF ts k))) := by
  obtain ⟨n0, hn0⟩ : ∃ n0, n0 = ts.length := ⟨_, rfl⟩
  rw [← hn0] at hm ⊢
  have hTH := Hid.intro hT
  have hnH := Hid.intro hn0
  have hNH := Hid.intro hN
  clear hT hn0 hN
  obtain ⟨DK, hDK⟩ : ∃ D, D = Lib.decDigits k.toNat := ⟨_, rfl⟩
  have hcK := Hid.intro (number_held k h0 h1 DK hDK)
  have hDKl : DK.length ≤ 10 := by rw [hDK]; exact dec_len k h1
  have hDKs := strT_size DK
  have hDKH := Hid.intro hDK
  clear hDK
  go_enter Tryd.func29, Tryd.ntmps29
  go_wp2
  have hX : Hid (Two (w.alloc (.cells #[.slice a n0 c, .int .u32 k] 25)) w.heap.size 25 (.slice a n0 c) (.int .u32 k)) := two_new w 25 _ _
  have hB0 := Hid.intro (below_alloc w (.cells #[.slice a n0 c, .int .u32 k] 25))
  generalize (w.alloc (.cells #[.slice a n0 c, .int .u32 k] 25)) = w0 at *
  go_loopw [3, 4] (fun vs vi wr => ∃ (i : Nat) (s : List UInt8), i ≤ n0 ∧ s.length ≤ i * 44 ∧ vs = .string (str s) ∧ vi = .int .i64 (i : Int) ∧ Hid (s = joinS (ts.take i)) ∧ Hid (Below w.heap.size w wr) ∧ Hid (Two wr w.heap.size 25 (.slice a n0 c) (.int .u32 k))) (fun _ vi _ => n0 - (intOf vi).toNat)
  case atStart => exact ⟨0, [], Nat.zero_le _, by simp, rfl, rfl, rfl, hB0, hX⟩
  case round =>
    obtain ⟨i, s, hi, hl, rfl, rfl, hS, hb, hX⟩ := hrel
    obtain ⟨_, x0, x1, _, _⟩ := hX.out
    have hxl := hX.out.lt'
    have hsz := strT_size s
    have u0 : ∀ p : BelowOf wr, p.to.cell? ⟨w.heap.size, 0, none⟩ = some (.slice a n0 c) := fun p => p.cell hxl x0
    have u1 : ∀ p : BelowOf wr, p.to.cell? ⟨w.heap.size, 1, none⟩ = some (.int .u32 k) := fun p => p.cell hxl x1
    by_cases hlt : i < n0
    · obtain ⟨t, ht⟩ : ∃ t, ts[i]? = some t := ⟨ts[i]'(by rw [← hnH.out]; exact hlt), List.getElem?_eq_getElem _⟩
      have hok := hNH.out t (List.mem_of_getElem? ht)
      have htk : Hid (ts.take (i + 1) = ts.take i ++ [t]) := take_at ts i t ht
      obtain ⟨g, o, rfl, hg, hTx⟩ : ∃ g o, a = some ⟨g, o, none⟩ ∧ g < w.heap.size ∧ TmAt w g (o + i * 2) t := by
        rcases hTH.out with h | ⟨gx, ox, e1, e2, e3⟩
        · rw [h] at ht; simp at ht
        · exact ⟨gx, ox, e1, e2, e3 i t ht⟩
      obtain ⟨q0, q1⟩ := hTx.below hb.out hg
      have hgr : g < wr.heap.size := Nat.lt_of_lt_of_le hg hb.out.size
      have v0 : ∀ p : BelowOf wr, p.to.cell? ⟨g, o + i * 2, none⟩ = some (.string (str t.name)) := fun p => p.cell hgr q0
      have v1 : ∀ p : BelowOf wr, p.to.cell? ⟨g, o + i * 2 + 1, none⟩ = some (.int .u32 t.coef) := fun p => p.cell hgr q1
      obtain ⟨D, hD⟩ : ∃ D, D = Lib.decDigits t.coef.toNat := ⟨_, rfl⟩
      have hcT := Hid.intro (number_held t.coef hok.lo hok.hi D hD)
      have hDl : D.length ≤ 10 := by rw [hD]; exact dec_len t.coef hok.hi
      have hDs := strT_size D
      have hDH := Hid.intro hD
      have hNs := strT_size t.name
      have hNl := hok.short
      clear ht hTx hD hok hg
      have i1 : (0 : Int) ≤ (i : Int) := by omega
      have i2 : (i : Int) < (n0 : Int) := by omega
      have hcnt := Hid.intro (fun p : BelowOf wr => hb.out.trans (p.h.mono hb.out.size))
      by_cases hz : t.coef = 1
      · have hz' : (t.coef != 1) = false := by simp [hz]
        by_cases hi0 : i = 0
        · have hS2 : Hid (s ++ t.name = joinS (ts.take (i + 1))) := by
            show _ = _
            rw [htk.out, joinS_push, hS.out, hi0, termB, if_pos hz]
            simp [joinS, termsS]
          have i3 : ¬ ((0 : Int) < (i : Int)) := by omega
          have i4 : decide ((0 : Int) < (i : Int)) = false := by simp; omega
          have i5 : decide (0 < i) = false := by simp; omega
          have i6 : ¬ (0 < i) := by omega
          clear hz
          replace hi0 := Hid.intro hi0
          go_wp2
          all_goals first | omega | skip
          go_roundw
          case rel => exact ⟨i + 1, s ++ t.name, by omega, by simp; omega, by rw [str_add], by go_num, hS2, hb, hX⟩
          case measure => simp [intOf]; omega
        · have i3 : (0 : Int) < (i : Int) := by omega
          have hS2 : Hid (s ++ [43] ++ t.name = joinS (ts.take (i + 1))) := by
            show _ = _
            rw [htk.out, joinS_push, termsS_join _ (by intro h; have := congrArg List.length h; rw [List.length_take, ← hnH.out] at this; simp at this; omega), ← hS.out, termB, if_pos hz, List.nil_append]
          clear hz
          go_wp2
          all_goals first | omega | skip
          go_roundw
          case rel => exact ⟨i + 1, s ++ [43] ++ t.name, by omega, by simp; omega, by rw [← str_add, ← str_add]; rfl, by go_num, hS2, hb, hX⟩
          case measure => simp [intOf]; omega
      · have hz' : (t.coef != 1) = true := by simp [hz]
        by_cases hi0 : i = 0
        · have hS2 : Hid (s ++ D ++ [42] ++ t.name = joinS (ts.take (i + 1))) := by
            show _ = _
            rw [htk.out, joinS_push, hS.out, hi0, termB, if_neg hz, hDH.out]
            simp [joinS, termsS]
          have i3 : ¬ ((0 : Int) < (i : Int)) := by omega
          have i4 : decide ((0 : Int) < (i : Int)) = false := by simp; omega
          have i5 : decide (0 < i) = false := by simp; omega
          have i6 : ¬ (0 < i) := by omega
          clear hz
          replace hi0 := Hid.intro hi0
          go_wp2_with (go_at_call 45; (with_reducible refine (hcT.out _).mono ?_); rintro e w1 ⟨rfl, hb1⟩; have hb2 := Hid.intro (hb.out.trans (hb1.mono hb.out.size)); have hX2 := Hid.intro (hX.out.below hb1 hxl); have z0 := hX2.out.c0; have z1 := hX2.out.c1; obtain ⟨r0, r1⟩ := TmAt.below ⟨q0, q1⟩ hb1 hgr; clear hb1)
          all_goals first | omega | skip
          go_roundw
          case rel => exact ⟨i + 1, s ++ D ++ [42] ++ t.name, by omega, by simp; omega, by rw [← str_add, ← str_add, ← str_add]; rfl, by go_num, hS2, hb2, hX2⟩
          case measure => simp [intOf]; omega
        · have i3 : (0 : Int) < (i : Int) := by omega
          have hS2 : Hid (s ++ [43] ++ D ++ [42] ++ t.name = joinS (ts.take (i + 1))) := by
            show _ = _
            rw [htk.out, joinS_push, termsS_join _ (by intro h; have := congrArg List.length h; rw [List.length_take, ← hnH.out] at this; simp at this; omega), ← hS.out, termB, if_neg hz, hDH.out]
            simp
          clear hz
          go_wp2_with (go_at_call 45; (with_reducible refine (hcT.out _).mono ?_); rintro e w1 ⟨rfl, hb1⟩; have hb2 := Hid.intro (hb.out.trans (hb1.mono hb.out.size)); have hX2 := Hid.intro (hX.out.below hb1 hxl); have z0 := hX2.out.c0; have z1 := hX2.out.c1; obtain ⟨r0, r1⟩ := TmAt.below ⟨q0, q1⟩ hb1 hgr; clear hb1)
          all_goals first | omega | skip
          go_roundw
          case rel => exact ⟨i + 1, s ++ [43] ++ D ++ [42] ++ t.name, by omega, by simp; omega, by rw [← str_add, ← str_add, ← str_add, ← str_add]; rfl, by go_num, hS2, hb2, hX2⟩
          case measure => simp [intOf]; omega
    · obtain rfl : n0 = i := by omega
      have hS' : Hid (s = joinS ts) := by show _ = _; rw [hS.out, hnH.out, List.take_length]
      by_cases hn : n0 = 0
      · have hR : Hid (DK = textF ts k) := by
          show _ = _
          have h0' : ts = [] := List.eq_nil_of_length_eq_zero (by rw [← hnH.out]; exact hn)
          rw [textF, if_pos (.inr (by rw [h0']; rfl)), h0', hDKH.out]
          simp [termsS]
        have hn' : ((n0 : Int) == 0) = true := by simp [hn]
        go_wp2_with (go_at_call 45; (with_reducible refine (hcK.out _).mono ?_); rintro e w1 ⟨rfl, hb1⟩; have hb2 := Hid.intro (hb.out.trans (hb1.mono hb.out.size)); clear hb1)
        all_goals first | omega | skip
        go_ret
        exact ⟨hb2.out, by rw [hR.out]; rfl⟩
      · have hn' : ((n0 : Int) == 0) = false := by simp [hn]
        have hne : ts ≠ [] := fun h => hn (by rw [hnH.out, h]; rfl)
        by_cases hk : k = 0
        · have hk' : (k != 0) = false := by simp [hk]
          have hR : Hid (s = textF ts k) := by
            show _ = _
            rw [textF, if_neg (by rintro (h | h); exact h hk; exact hn (by rw [hnH.out]; exact h)), hS'.out, joinS]
          clear hk
          go_wp2
          all_goals first | omega | skip
          go_ret
          exact ⟨hb.out, by rw [hR.out]; rfl⟩
        · have hk' : (k != 0) = true := by simp [hk]
          have hR : Hid (s ++ [43] ++ DK = textF ts k) := by
            show _ = _
            rw [textF, if_pos (.inl hk), termsS_join ts hne, ← hS'.out, hDKH.out]
          clear hk
          go_wp2_with (go_at_call 45; (with_reducible refine (hcK.out _).mono ?_); rintro e w1 ⟨rfl, hb1⟩; have hb2 := Hid.intro (hb.out.trans (hb1.mono hb.out.size)); clear hb1)
          all_goals first | omega | skip
          go_ret
          exact ⟨hb2.out, by rw [← hR.out, ← str_add, ← str_add]; rfl⟩
end Go.Proofs.YtijdjljnppkhmaaDoor
/- ExprReckons: the walk. -/
namespace Go.Proofs.YtijdjljnppkhmaaDoor
open Go.ChangeShapes Go.WideShapes Go.ChangeAt Go.RowKit
set_option linter.unusedVariables false
set_option maxRecDepth 100000

/-- the two of them at their blocks -/
structure S2 (W : World) (g1 g2 : Nat) (a1 a2 : Option Addr) (m1 m2 c1 c2 : Nat) (xs ys : List Tm) (k1 k2 : Int) : Prop where
  q1 : Two W g1 25 (.slice a1 m1 c1) (.int .u32 k1)
  q2 : Two W g2 25 (.slice a2 m2 c2) (.int .u32 k2)
  h1 : Held W a1 c1 xs
  h2 : Held W a2 c2 ys
  P : Pow W
theorem S2.below {W W' : World} {g1 g2 : Nat} {a1 a2 : Option Addr} {m1 m2 c1 c2 : Nat} {xs ys : List Tm} {k1 k2 : Int} (h : S2 W g1 g2 a1 a2 m1 m2 c1 c2 xs ys k1 k2) (hb : Below W.heap.size W W') : S2 W' g1 g2 a1 a2 m1 m2 c1 c2 xs ys k1 k2 :=
  ⟨h.q1.below hb h.q1.lt, h.q2.below hb h.q2.lt, h.h1.below hb (Nat.le_refl _), h.h2.below hb (Nat.le_refl _), h.P.below hb⟩

theorem addR_held (a1 a2 : Option Addr) (c1 c2 : Nat) (xs ys : List Tm) (k1 k2 : Int) (n1 n2 : Nat) (w : World) (h1 : n1 = xs.length) (h2 : n2 = ys.length) (hx : Held w a1 c1 xs) (hy : Held w a2 c2 ys) (hl1 : xs.length ≤ 1100000) (hl2 : ys.length ≤ 1100000) :
    Calls Tryd.prog 24 #[linV (.slice a1 n1 c1) k1, linV (.slice a2 n2 c2) k2] w fun e w' => Below w.heap.size w w' ∧ ∃ a c m, e = .returned (linV (.slice a m c) ((k1 + k2) % 4294967296)) ∧ m = (addT xs ys).length ∧ Held w' a c (addT xs ys) := by
  subst h1 h2
  refine (add_any a1 a2 c1 c2 xs ys k1 k2 w hx hy (by omega) (by omega)).mono ?_
  rintro e w' ⟨hb, v, rfl, ho⟩
  obtain ⟨a, c, rfl⟩ := own_slice ho
  exact ⟨hb, a, c, _, rfl, rfl, own_held ho⟩
theorem addQ_held (a1 a2 : Option Addr) (c1 c2 : Nat) (xs ys : List Tm) (k1 k2 : Int) (n1 n2 : Nat) (w : World) (h1 : n1 = xs.length) (h2 : n2 = ys.length) (hx : Held w a1 c1 xs) (hy : Held w a2 c2 ys) (hl1 : xs.length ≤ 1100000) (hl2 : ys.length ≤ 1100000) (hm : mrg xs ys = addT xs ys) :
    Calls Tryd.prog 25 #[linV (.slice a1 n1 c1) k1, linV (.slice a2 n2 c2) k2] w fun e w' => Below w.heap.size w w' ∧ ∃ a c m, e = .returned (linV (.slice a m c) ((k1 + k2) % 4294967296)) ∧ m = (addT xs ys).length ∧ Held w' a c (addT xs ys) := by
  subst h1 h2
  refine (refAdd_any a1 a2 c1 c2 xs ys k1 k2 w hx.lies hy.lies (by omega) (by omega)).mono ?_
  rintro e w' ⟨hb, v, rfl, ho⟩
  rw [hm] at ho
  obtain ⟨a, c, rfl⟩ := own_slice ho
  exact ⟨hb, a, c, _, rfl, rfl, own_held ho⟩
theorem timesR_held (a1 : Option Addr) (c1 : Nat) (xs : List Tm) (k1 n : Int) (n1 : Nat) (w : World) (h1 : n1 = xs.length) (hx : Held w a1 c1 xs) (hl1 : xs.length ≤ 1100000) :
    Calls Tryd.prog 26 #[linV (.slice a1 n1 c1) k1, .int .u32 n] w fun e w' => Below w.heap.size w w' ∧ ∃ a c m, e = .returned (linV (.slice a m c) (k1 * n % 4294967296)) ∧ m = (timesT xs n).length ∧ Held w' a c (timesT xs n) := by
  subst h1
  refine (times_any a1 c1 xs k1 n (by omega) w hx.lies).mono ?_
  rintro e w' ⟨hb, v, rfl, ho⟩
  obtain ⟨a, c, rfl⟩ := own_slice ho
  exact ⟨hb, a, c, _, rfl, rfl, own_held ho⟩
theorem timesQ_held (a1 : Option Addr) (c1 : Nat) (xs : List Tm) (k1 n : Int) (n1 : Nat) (w : World) (h1 : n1 = xs.length) (hx : Held w a1 c1 xs) (hl1 : xs.length ≤ 1100000) :
    Calls Tryd.prog 27 #[linV (.slice a1 n1 c1) k1, .int .u32 n] w fun e w' => Below w.heap.size w w' ∧ ∃ a c m, e = .returned (linV (.slice a m c) (k1 * n % 4294967296)) ∧ m = (timesT xs n).length ∧ Held w' a c (timesT xs n) := by
  subst h1
  refine (refTimes_any a1 c1 xs k1 n (by omega) w hx.lies).mono ?_
  rintro e w' ⟨hb, v, rfl, ho⟩
  obtain ⟨a, c, rfl⟩ := own_slice ho
  exact ⟨hb, a, c, _, rfl, rfl, own_held ho⟩
theorem sameQ_held (a1 a2 : Option Addr) (c1 c2 : Nat) (xs ys : List Tm) (k1 k2 : Int) (n1 n2 : Nat) (w : World) (h1 : n1 = xs.length) (h2 : n2 = ys.length) (hx : Held w a1 c1 xs) (hy : Held w a2 c2 ys) (hl1 : xs.length ≤ 9000000) (hl2 : ys.length ≤ 9000000) (b : Bool) (hs : sameL xs ys k1 k2 = b) :
    Calls Tryd.prog 20 #[linV (.slice a1 n1 c1) k1, linV (.slice a2 n2 c2) k2] w fun e w' => Below w.heap.size w w' ∧ e = .returned (.bool b) := by
  subst h1 h2
  refine (refSame_any a1 a2 c1 c2 xs ys k1 k2 w hx.lies hy.lies hl1 hl2).mono ?_
  rintro e w' ⟨he, hb⟩
  rw [hs] at he
  exact ⟨hb, he⟩
theorem sameR_held (a1 a2 : Option Addr) (c1 c2 : Nat) (xs ys : List Tm) (k1 k2 : Int) (n1 n2 : Nat) (w : World) (h1 : n1 = xs.length) (h2 : n2 = ys.length) (hx : Held w a1 c1 xs) (hy : Held w a2 c2 ys) (hl1 : xs.length ≤ 9000000) (hl2 : ys.length ≤ 9000000) (b : Bool) (hs : sameL xs ys k1 k2 = b) :
    Calls Tryd.prog 28 #[linV (.slice a1 n1 c1) k1, linV (.slice a2 n2 c2) k2] w fun e w' => Below w.heap.size w w' ∧ e = .returned (.bool b) := by
  subst h1 h2
  refine (same_any a1 a2 c1 c2 xs ys k1 k2 w hx.lies hy.lies hl1 hl2).mono ?_
  rintro e w' ⟨he, hb⟩
  rw [hs] at he
  exact ⟨hb, he⟩
theorem addR_len {xs ys : List Tm} (h1 : xs.length ≤ 1100000) (h2 : ys.length ≤ 1100000) : (addT xs ys).length ≤ 9000000 := by
  have := norm_len (xs ++ ys)
  rw [List.length_append] at this
  unfold addT
  omega
theorem timesR_len {xs : List Tm} (h1 : xs.length ≤ 1100000) (n : Int) : (timesT xs n).length ≤ 9000000 := by
  have := times_len xs n
  omega
theorem nothing_held (w : World) : Held w none 0 [] := ⟨.inl rfl, fun _ => ⟨rfl, rfl⟩⟩

theorem leg_short {s : List UInt8} (h : legB (str s) = true) : s.length ≤ 32 := by
  simp only [legB, nameOK, Bool.and_eq_true, decide_eq_true_eq] at h
  have := h.1.2.2
  simpa [bs, str] using this

set_option maxHeartbeats 4000000 in
theorem reckons_no1 (a1 a2 : Option Addr) (c1 c2 : Nat) (xs ys : List Tm) (k1 k2 n : Int) (w : World) (h1 : Held w a1 c1 xs) (h2 : Held w a2 c2 ys) (hP : Pow w)
    (hl1 : xs.length ≤ 1100000) (hl2 : ys.length ≤ 1100000) (hn1 : ∀ t ∈ xs, t.name.length ≤ 1100000) (hn2 : ∀ t ∈ ys, t.name.length ≤ 1100000) (hk1 : 0 ≤ k1 ∧ k1 < 4294967296) (hk2 : 0 ≤ k2 ∧ k2 < 4294967296)
    (hf1 : ∀ t ∈ xs, 0 ≤ t.coef ∧ t.coef < 4294967296) (hf2 : ∀ t ∈ ys, 0 ≤ t.coef ∧ t.coef < 4294967296)
    (r2 : Bool) (hr1 : rightF none xs = false) (hr2 : rightF none ys = r2) :
    Calls Tryd.prog 5 #[linV (.slice a1 xs.length c1) k1, linV (.slice a2 ys.length c2) k2, .int .u32 n] w fun e w' => Below w.heap.size w w' ∧ e = .returned (.bool true) := by
  obtain ⟨m1, hm1⟩ : ∃ m, m = xs.length := ⟨_, rfl⟩
  obtain ⟨m2, hm2⟩ : ∃ m, m = ys.length := ⟨_, rfl⟩
  have hR1 := Hid.intro (fun w' (h : Held w' a1 c1 xs) => right_any a1 c1 xs k1 w' h.lies (by omega) hn1)
  have hR2 := Hid.intro (fun w' (h : Held w' a2 c2 ys) => right_any a2 c2 ys k2 w' h.lies (by omega) hn2)
  have hQ1 := Hid.intro (fun w' (h : Held w' a1 c1 xs) => refRight_any a1 c1 xs k1 w' h.lies (by omega) hn1)
  have hQ2 := Hid.intro (fun w' (h : Held w' a2 c2 ys) => refRight_any a2 c2 ys k2 w' h.lies (by omega) hn2)
  rw [hr1, ← hm1] at hR1 hQ1
  rw [hr2, ← hm2] at hR2 hQ2
  rw [← hm1, ← hm2]
  have hM1 := Hid.intro hm1
  have hM2 := Hid.intro hm2
  have hI := Hid.intro (And.intro h1 (And.intro h2 hP))
  clear hm1 hm2 hr1 hr2 hn1 hn2 h1 h2 hP hf1 hf2
  go_enter Tryd.func5, Tryd.ntmps5
  go_wp2_with fail
  have q1 := (two_new w 25 (.slice a1 m1 c1) (.int .u32 k1)).alloc (.cells #[.slice a2 m2 c2, .int .u32 k2] 25)
  have q2 := two_new (w.alloc (.cells #[.slice a1 m1 c1, .int .u32 k1] 25)) 25 (.slice a2 m2 c2) (.int .u32 k2)
  rw [show (w.alloc (.cells #[.slice a1 m1 c1, .int .u32 k1] 25)).heap.size = w.heap.size + 1 by simp] at q2
  have hb0 : Below w.heap.size w ((w.alloc (.cells #[.slice a1 m1 c1, .int .u32 k1] 25)).alloc (.cells #[.slice a2 m2 c2, .int .u32 k2] 25)) := (below_alloc w _).alloc (by simp) _
  have hP0 := hI.out.2.2.below hb0
  obtain ⟨g2, hg2⟩ : ∃ g, g = w.heap.size + 1 := ⟨_, rfl⟩
  rw [← hg2] at q2 ⊢
  have hB := Hid.intro (S2.mk q1 q2 (hI.out.1.below hb0 (Nat.le_refl _)) (hI.out.2.1.below hb0 (Nat.le_refl _)) hP0)
  have hbw := Hid.intro hb0
  clear q1 q2 hP0 hb0 hg2 hI
  generalize ((w.alloc (.cells #[.slice a1 m1 c1, .int .u32 k1] 25)).alloc (.cells #[.slice a2 m2 c2, .int .u32 k2] 25)) = w0 at *
  have u0 : ∀ p : BelowOf w0, p.to.cell? ⟨w.heap.size, 0, none⟩ = some (.slice a1 m1 c1) := fun p => p.cell hB.out.q1.lt hB.out.q1.c0
  have u1 : ∀ p : BelowOf w0, p.to.cell? ⟨w.heap.size, 1, none⟩ = some (.int .u32 k1) := fun p => p.cell hB.out.q1.lt hB.out.q1.c1
  have u2 : ∀ p : BelowOf w0, p.to.cell? ⟨g2, 0, none⟩ = some (.slice a2 m2 c2) := fun p => p.cell hB.out.q2.lt hB.out.q2.c0
  have u3 : ∀ p : BelowOf w0, p.to.cell? ⟨g2, 1, none⟩ = some (.int .u32 k2) := fun p => p.cell hB.out.q2.lt hB.out.q2.c1
  have cR1 := Hid.intro (fun p : BelowOf w0 => hR1.out p.to (hB.out.below p.h).h1)
  have cR2 := Hid.intro (fun p : BelowOf w0 => hR2.out p.to (hB.out.below p.h).h2)
  have cQ1 := Hid.intro (fun p : BelowOf w0 => hQ1.out p.to (hB.out.below p.h).h1)
  have cQ2 := Hid.intro (fun p : BelowOf w0 => hQ2.out p.to (hB.out.below p.h).h2)
  refine wp_region_quiet_below (by kernel_rfl) (by kernel_rfl) ?_
  repeat (first | (with_reducible refine wpQuiet_skip (by with_unfolding_all rfl) ?_; simp only [Act.put, List.setIfInBounds_toArray, List.set_cons_zero, List.set_cons_succ]) | (with_reducible refine wpQuiet_step (fun K hK => ?_); go_simp; first | (with_reducible refine hK _ ?_; clear hK K) | (apply Exists.intro; refine ⟨fun _ => ?_, hK _ ?_⟩; (first | (go_at_call 22; with_reducible refine below_calls (cR1.out _)) | (go_at_call 22; with_reducible refine below_calls (cR2.out _)) | (go_at_call 23; with_reducible refine below_calls (cQ1.out _)) | (go_at_call 23; with_reducible refine below_calls (cQ2.out _))); clear hK K)))
  with_reducible refine wpQuiet_nil ?_
  intro _ hw'
  obtain ⟨pq, hw''⟩ := hw'
  subst hw''
  have hBa := Hid.intro (hB.out.below pq.h)
  have hbwa := Hid.intro (hbw.out.trans (pq.h.mono hbw.out.size))
  clear u0 u1 u2 u3 cR1 cR2 cQ1 cQ2 hB hbw
  obtain ⟨wx, hwx⟩ : ∃ wx, wx = pq.to := ⟨_, rfl⟩
  rw [← hwx] at hBa hbwa ⊢
  clear hwx
  obtain ⟨_, x0, x1, _, _⟩ := hBa.out.q1
  obtain ⟨_, y0, y1, _, _⟩ := hBa.out.q2
  go_wp2_with (first
    | (go_at_call 23; (with_reducible refine (hQ1.out _ hBa.out.h1).mono ?_); rintro e wb ⟨rfl, hbb⟩; have hBb := Hid.intro (hBa.out.below hbb); have hbwb := Hid.intro (hbwa.out.trans (hbb.mono hbwa.out.size)); obtain ⟨_, v0, v1, _, _⟩ := hBb.out.q2)
    | (go_at_call 23; (with_reducible refine (hQ2.out _ hBb.out.h2).mono ?_); rintro e wc ⟨rfl, hbc⟩; have hBc := Hid.intro (hBb.out.below hbc); have hbwc := Hid.intro (hbwb.out.trans (hbc.mono hbwb.out.size)))
    | (go_at_call 14; (with_reducible refine (known_any _ hBb.out.P).mono ?_); rintro e wk ⟨hbk, rfl⟩; have hbwk := Hid.intro (chain' hbwb.out hbk)))
  all_goals go_ret
  all_goals exact ⟨hbwk.out, rfl⟩

set_option maxHeartbeats 4000000 in
theorem reckons_no2 (a1 a2 : Option Addr) (c1 c2 : Nat) (xs ys : List Tm) (k1 k2 n : Int) (w : World) (h1 : Held w a1 c1 xs) (h2 : Held w a2 c2 ys) (hP : Pow w)
    (hl1 : xs.length ≤ 1100000) (hl2 : ys.length ≤ 1100000) (hn1 : ∀ t ∈ xs, t.name.length ≤ 1100000) (hn2 : ∀ t ∈ ys, t.name.length ≤ 1100000) (hk1 : 0 ≤ k1 ∧ k1 < 4294967296) (hk2 : 0 ≤ k2 ∧ k2 < 4294967296)
    (hf1 : ∀ t ∈ xs, 0 ≤ t.coef ∧ t.coef < 4294967296) (hf2 : ∀ t ∈ ys, 0 ≤ t.coef ∧ t.coef < 4294967296)
    (hr1 : rightF none xs = true) (hr2 : rightF none ys = false) :
    Calls Tryd.prog 5 #[linV (.slice a1 xs.length c1) k1, linV (.slice a2 ys.length c2) k2, .int .u32 n] w fun e w' => Below w.heap.size w w' ∧ e = .returned (.bool true) := by
  obtain ⟨m1, hm1⟩ : ∃ m, m = xs.length := ⟨_, rfl⟩
  obtain ⟨m2, hm2⟩ : ∃ m, m = ys.length := ⟨_, rfl⟩
  have hR1 := Hid.intro (fun w' (h : Held w' a1 c1 xs) => right_any a1 c1 xs k1 w' h.lies (by omega) hn1)
  have hR2 := Hid.intro (fun w' (h : Held w' a2 c2 ys) => right_any a2 c2 ys k2 w' h.lies (by omega) hn2)
  have hQ1 := Hid.intro (fun w' (h : Held w' a1 c1 xs) => refRight_any a1 c1 xs k1 w' h.lies (by omega) hn1)
  have hQ2 := Hid.intro (fun w' (h : Held w' a2 c2 ys) => refRight_any a2 c2 ys k2 w' h.lies (by omega) hn2)
  rw [hr1, ← hm1] at hR1 hQ1
  rw [hr2, ← hm2] at hR2 hQ2
  rw [← hm1, ← hm2]
  have hM1 := Hid.intro hm1
  have hM2 := Hid.intro hm2
  have hI := Hid.intro (And.intro h1 (And.intro h2 hP))
  clear hm1 hm2 hr1 hr2 hn1 hn2 h1 h2 hP hf1 hf2
  go_enter Tryd.func5, Tryd.ntmps5
  go_wp2_with fail
  have q1 := (two_new w 25 (.slice a1 m1 c1) (.int .u32 k1)).alloc (.cells #[.slice a2 m2 c2, .int .u32 k2] 25)
  have q2 := two_new (w.alloc (.cells #[.slice a1 m1 c1, .int .u32 k1] 25)) 25 (.slice a2 m2 c2) (.int .u32 k2)
  rw [show (w.alloc (.cells #[.slice a1 m1 c1, .int .u32 k1] 25)).heap.size = w.heap.size + 1 by simp] at q2
  have hb0 : Below w.heap.size w ((w.alloc (.cells #[.slice a1 m1 c1, .int .u32 k1] 25)).alloc (.cells #[.slice a2 m2 c2, .int .u32 k2] 25)) := (below_alloc w _).alloc (by simp) _
  have hP0 := hI.out.2.2.below hb0
  obtain ⟨g2, hg2⟩ : ∃ g, g = w.heap.size + 1 := ⟨_, rfl⟩
  rw [← hg2] at q2 ⊢
  have hB := Hid.intro (S2.mk q1 q2 (hI.out.1.below hb0 (Nat.le_refl _)) (hI.out.2.1.below hb0 (Nat.le_refl _)) hP0)
  have hbw := Hid.intro hb0
  clear q1 q2 hP0 hb0 hg2 hI
  generalize ((w.alloc (.cells #[.slice a1 m1 c1, .int .u32 k1] 25)).alloc (.cells #[.slice a2 m2 c2, .int .u32 k2] 25)) = w0 at *
  have u0 : ∀ p : BelowOf w0, p.to.cell? ⟨w.heap.size, 0, none⟩ = some (.slice a1 m1 c1) := fun p => p.cell hB.out.q1.lt hB.out.q1.c0
  have u1 : ∀ p : BelowOf w0, p.to.cell? ⟨w.heap.size, 1, none⟩ = some (.int .u32 k1) := fun p => p.cell hB.out.q1.lt hB.out.q1.c1
  have u2 : ∀ p : BelowOf w0, p.to.cell? ⟨g2, 0, none⟩ = some (.slice a2 m2 c2) := fun p => p.cell hB.out.q2.lt hB.out.q2.c0
  have u3 : ∀ p : BelowOf w0, p.to.cell? ⟨g2, 1, none⟩ = some (.int .u32 k2) := fun p => p.cell hB.out.q2.lt hB.out.q2.c1
  have cR1 := Hid.intro (fun p : BelowOf w0 => hR1.out p.to (hB.out.below p.h).h1)
  have cR2 := Hid.intro (fun p : BelowOf w0 => hR2.out p.to (hB.out.below p.h).h2)
  have cQ1 := Hid.intro (fun p : BelowOf w0 => hQ1.out p.to (hB.out.below p.h).h1)
  have cQ2 := Hid.intro (fun p : BelowOf w0 => hQ2.out p.to (hB.out.below p.h).h2)
  refine wp_region_quiet_below (by kernel_rfl) (by kernel_rfl) ?_
  repeat (first | (with_reducible refine wpQuiet_skip (by with_unfolding_all rfl) ?_; simp only [Act.put, List.setIfInBounds_toArray, List.set_cons_zero, List.set_cons_succ]) | (with_reducible refine wpQuiet_step (fun K hK => ?_); go_simp; first | (with_reducible refine hK _ ?_; clear hK K) | (apply Exists.intro; refine ⟨fun _ => ?_, hK _ ?_⟩; (first | (go_at_call 22; with_reducible refine below_calls (cR1.out _)) | (go_at_call 22; with_reducible refine below_calls (cR2.out _)) | (go_at_call 23; with_reducible refine below_calls (cQ1.out _)) | (go_at_call 23; with_reducible refine below_calls (cQ2.out _))); clear hK K)))
  with_reducible refine wpQuiet_nil ?_
  intro _ hw'
  obtain ⟨pq, hw''⟩ := hw'
  subst hw''
  have hBa := Hid.intro (hB.out.below pq.h)
  have hbwa := Hid.intro (hbw.out.trans (pq.h.mono hbw.out.size))
  clear u0 u1 u2 u3 cR1 cR2 cQ1 cQ2 hB hbw
  obtain ⟨wx, hwx⟩ : ∃ wx, wx = pq.to := ⟨_, rfl⟩
  rw [← hwx] at hBa hbwa ⊢
  clear hwx
  obtain ⟨_, x0, x1, _, _⟩ := hBa.out.q1
  obtain ⟨_, y0, y1, _, _⟩ := hBa.out.q2
  go_wp2_with (first
    | (go_at_call 23; (with_reducible refine (hQ1.out _ hBa.out.h1).mono ?_); rintro e wb ⟨rfl, hbb⟩; have hBb := Hid.intro (hBa.out.below hbb); have hbwb := Hid.intro (hbwa.out.trans (hbb.mono hbwa.out.size)); obtain ⟨_, v0, v1, _, _⟩ := hBb.out.q2)
    | (go_at_call 23; (with_reducible refine (hQ2.out _ hBb.out.h2).mono ?_); rintro e wc ⟨rfl, hbc⟩; have hBc := Hid.intro (hBb.out.below hbc); have hbwc := Hid.intro (hbwb.out.trans (hbc.mono hbwb.out.size)))
    | (go_at_call 14; (with_reducible refine (known_any _ hBc.out.P).mono ?_); rintro e wk ⟨hbk, rfl⟩; have hbwk := Hid.intro (chain' hbwc.out hbk)))
  all_goals go_ret
  all_goals exact ⟨hbwk.out, rfl⟩

set_option maxHeartbeats 8000000 in
theorem reckons_full (a1 a2 : Option Addr) (c1 c2 : Nat) (xs ys : List Tm) (k1 k2 n : Int) (w : World) (h1 : Held w a1 c1 xs) (h2 : Held w a2 c2 ys) (hP : Pow w)
    (hl1 : xs.length ≤ 1100000) (hl2 : ys.length ≤ 1100000) (hn1 : ∀ t ∈ xs, t.name.length ≤ 1100000) (hn2 : ∀ t ∈ ys, t.name.length ≤ 1100000) (hk1 : 0 ≤ k1 ∧ k1 < 4294967296) (hk2 : 0 ≤ k2 ∧ k2 < 4294967296)
    (hf1 : ∀ t ∈ xs, 0 ≤ t.coef ∧ t.coef < 4294967296) (hf2 : ∀ t ∈ ys, 0 ≤ t.coef ∧ t.coef < 4294967296)
    (hr1 : rightF none xs = true) (hr2 : rightF none ys = true) (sb : Bool) (hs : sameL xs ys k1 k2 = sb) :
    Calls Tryd.prog 5 #[linV (.slice a1 xs.length c1) k1, linV (.slice a2 ys.length c2) k2, .int .u32 n] w fun e w' => Below w.heap.size w w' ∧ e = .returned (.bool true) := by
  obtain ⟨m1, hm1⟩ : ∃ m, m = xs.length := ⟨_, rfl⟩
  obtain ⟨m2, hm2⟩ : ∃ m, m = ys.length := ⟨_, rfl⟩
  have hR1 := Hid.intro (fun w' (h : Held w' a1 c1 xs) => right_any a1 c1 xs k1 w' h.lies (by omega) hn1)
  have hR2 := Hid.intro (fun w' (h : Held w' a2 c2 ys) => right_any a2 c2 ys k2 w' h.lies (by omega) hn2)
  have hQ1 := Hid.intro (fun w' (h : Held w' a1 c1 xs) => refRight_any a1 c1 xs k1 w' h.lies (by omega) hn1)
  have hQ2 := Hid.intro (fun w' (h : Held w' a2 c2 ys) => refRight_any a2 c2 ys k2 w' h.lies (by omega) hn2)
  rw [hr1, ← hm1] at hR1 hQ1
  rw [hr2, ← hm2] at hR2 hQ2
  rw [← hm1, ← hm2]
  have hM1 := Hid.intro hm1
  have hM2 := Hid.intro hm2
  have hI := Hid.intro (And.intro h1 (And.intro h2 hP))
  have hmrg := Hid.intro (mrg_add (right_canon hf1 hr1) (right_canon hf2 hr2))
  have hokH : Hid (∀ t ∈ xs, OkT t) := fun t ht => ⟨(hf1 t ht).1, (hf1 t ht).2, leg_short (right_legal hr1 t ht)⟩
  obtain ⟨KA, hKA⟩ : ∃ K, K = (k1 + k2) % 4294967296 := ⟨_, rfl⟩
  replace hKA := Hid.intro hKA
  obtain ⟨KT, hKT⟩ : ∃ K, K = k1 * n % 4294967296 := ⟨_, rfl⟩
  replace hKT := Hid.intro hKT
  obtain ⟨T, hT⟩ : ∃ T, T = str (textF xs k1) := ⟨_, rfl⟩
  replace hT := Hid.intro hT
  have hsb := Hid.intro hs
  clear hs
  clear hm1 hm2 hr1 hr2 hn1 hn2 h1 h2 hP hf1 hf2
  go_enter Tryd.func5, Tryd.ntmps5
  go_wp2_with fail
  have q1 := (two_new w 25 (.slice a1 m1 c1) (.int .u32 k1)).alloc (.cells #[.slice a2 m2 c2, .int .u32 k2] 25)
  have q2 := two_new (w.alloc (.cells #[.slice a1 m1 c1, .int .u32 k1] 25)) 25 (.slice a2 m2 c2) (.int .u32 k2)
  rw [show (w.alloc (.cells #[.slice a1 m1 c1, .int .u32 k1] 25)).heap.size = w.heap.size + 1 by simp] at q2
  have hb0 : Below w.heap.size w ((w.alloc (.cells #[.slice a1 m1 c1, .int .u32 k1] 25)).alloc (.cells #[.slice a2 m2 c2, .int .u32 k2] 25)) := (below_alloc w _).alloc (by simp) _
  have hP0 := hI.out.2.2.below hb0
  obtain ⟨g2, hg2⟩ : ∃ g, g = w.heap.size + 1 := ⟨_, rfl⟩
  rw [← hg2] at q2 ⊢
  have hB := Hid.intro (S2.mk q1 q2 (hI.out.1.below hb0 (Nat.le_refl _)) (hI.out.2.1.below hb0 (Nat.le_refl _)) hP0)
  have hbw := Hid.intro hb0
  clear q1 q2 hP0 hb0 hg2 hI
  generalize ((w.alloc (.cells #[.slice a1 m1 c1, .int .u32 k1] 25)).alloc (.cells #[.slice a2 m2 c2, .int .u32 k2] 25)) = w0 at *
  have u0 : ∀ p : BelowOf w0, p.to.cell? ⟨w.heap.size, 0, none⟩ = some (.slice a1 m1 c1) := fun p => p.cell hB.out.q1.lt hB.out.q1.c0
  have u1 : ∀ p : BelowOf w0, p.to.cell? ⟨w.heap.size, 1, none⟩ = some (.int .u32 k1) := fun p => p.cell hB.out.q1.lt hB.out.q1.c1
  have u2 : ∀ p : BelowOf w0, p.to.cell? ⟨g2, 0, none⟩ = some (.slice a2 m2 c2) := fun p => p.cell hB.out.q2.lt hB.out.q2.c0
  have u3 : ∀ p : BelowOf w0, p.to.cell? ⟨g2, 1, none⟩ = some (.int .u32 k2) := fun p => p.cell hB.out.q2.lt hB.out.q2.c1
  have cR1 := Hid.intro (fun p : BelowOf w0 => hR1.out p.to (hB.out.below p.h).h1)
  have cR2 := Hid.intro (fun p : BelowOf w0 => hR2.out p.to (hB.out.below p.h).h2)
  have cQ1 := Hid.intro (fun p : BelowOf w0 => hQ1.out p.to (hB.out.below p.h).h1)
  have cQ2 := Hid.intro (fun p : BelowOf w0 => hQ2.out p.to (hB.out.below p.h).h2)
  refine wp_region_quiet_below (by kernel_rfl) (by kernel_rfl) ?_
  repeat (first | (with_reducible refine wpQuiet_skip (by with_unfolding_all rfl) ?_; simp only [Act.put, List.setIfInBounds_toArray, List.set_cons_zero, List.set_cons_succ]) | (with_reducible refine wpQuiet_step (fun K hK => ?_); go_simp; first | (with_reducible refine hK _ ?_; clear hK K) | (apply Exists.intro; refine ⟨fun _ => ?_, hK _ ?_⟩; (first | (go_at_call 22; with_reducible refine below_calls (cR1.out _)) | (go_at_call 22; with_reducible refine below_calls (cR2.out _)) | (go_at_call 23; with_reducible refine below_calls (cQ1.out _)) | (go_at_call 23; with_reducible refine below_calls (cQ2.out _))); clear hK K)))
  with_reducible refine wpQuiet_nil ?_
  intro _ hw'
  obtain ⟨pq, hw''⟩ := hw'
  subst hw''
  have hBa := Hid.intro (hB.out.below pq.h)
  have hbwa := Hid.intro (hbw.out.trans (pq.h.mono hbw.out.size))
  clear u0 u1 u2 u3 cR1 cR2 cQ1 cQ2 hB hbw
  obtain ⟨wx, hwx⟩ : ∃ wx, wx = pq.to := ⟨_, rfl⟩
  rw [← hwx] at hBa hbwa ⊢
  clear hwx
  obtain ⟨_, x0, x1, _, _⟩ := hBa.out.q1
  obtain ⟨_, y0, y1, _, _⟩ := hBa.out.q2
  go_wp2_with (first
    | (go_at_call 23; (with_reducible refine (hQ1.out _ hBa.out.h1).mono ?_); rintro e wb ⟨rfl, hbb⟩; have hBb := Hid.intro (hBa.out.below hbb); have hbwb := Hid.intro (hbwa.out.trans (hbb.mono hbwa.out.size)); obtain ⟨_, v0, v1, _, _⟩ := hBb.out.q2)
    | (go_at_call 23; (with_reducible refine (hQ2.out _ hBb.out.h2).mono ?_); rintro e wc ⟨rfl, hbc⟩; have hBc := Hid.intro (hBb.out.below hbc); have hbwc := Hid.intro (hbwb.out.trans (hbc.mono hbwb.out.size))))
  clear x0 x1 y0 y1 v0 v1 hBa hBb hbwa hbwb hbb hbc hR1 hR2 hQ1 hQ2
  obtain ⟨wx2, hwx2⟩ : ∃ wx2, wx2 = wc := ⟨_, rfl⟩
  rw [← hwx2] at hBc hbwc ⊢
  clear hwx2
  have hBx := hBc
  have hbwx := hbwc
  clear hBc hbwc
  have E1 : Hid (∀ W , S2 W w.heap.size g2 a1 a2 m1 m2 c1 c2 xs ys k1 k2 → Calls Tryd.prog 24 #[linV (.slice a1 m1 c1) k1, linV (.slice a2 m2 c2) k2] W fun e w' => Below W.heap.size W w' ∧ ∃ a c m, e = .returned (linV (.slice a m c) KA) ∧ m = (addT xs ys).length ∧ Held w' a c (addT xs ys) ∧ w'.cell? ⟨w.heap.size, 0, none⟩ = some (.slice a1 m1 c1) ∧ w'.cell? ⟨w.heap.size, 1, none⟩ = some (.int .u32 k1) ∧ w'.cell? ⟨g2, 0, none⟩ = some (.slice a2 m2 c2) ∧ w'.cell? ⟨g2, 1, none⟩ = some (.int .u32 k2)) :=
    fun W  hW => (addR_held a1 a2 c1 c2 xs ys k1 k2 m1 m2 W hM1.out hM2.out hW.h1 hW.h2 hl1 hl2).mono fun e w' ⟨hb, a, c, m, he, hm, hh⟩ => by
      have B := hW.below hb
      rw [← hKA.out] at he
      exact ⟨hb, a, c, m, he, hm, hh, B.q1.c0, B.q1.c1, B.q2.c0, B.q2.c1⟩
  have E2 : Hid (∀ W , S2 W w.heap.size g2 a1 a2 m1 m2 c1 c2 xs ys k1 k2 → Calls Tryd.prog 25 #[linV (.slice a1 m1 c1) k1, linV (.slice a2 m2 c2) k2] W fun e w' => Below W.heap.size W w' ∧ ∃ a c m, e = .returned (linV (.slice a m c) KA) ∧ m = (addT xs ys).length ∧ Held w' a c (addT xs ys) ∧ w'.cell? ⟨w.heap.size, 0, none⟩ = some (.slice a1 m1 c1) ∧ w'.cell? ⟨w.heap.size, 1, none⟩ = some (.int .u32 k1) ∧ w'.cell? ⟨g2, 0, none⟩ = some (.slice a2 m2 c2) ∧ w'.cell? ⟨g2, 1, none⟩ = some (.int .u32 k2)) :=
    fun W  hW => (addQ_held a1 a2 c1 c2 xs ys k1 k2 m1 m2 W hM1.out hM2.out hW.h1 hW.h2 hl1 hl2 hmrg.out).mono fun e w' ⟨hb, a, c, m, he, hm, hh⟩ => by
      have B := hW.below hb
      rw [← hKA.out] at he
      exact ⟨hb, a, c, m, he, hm, hh, B.q1.c0, B.q1.c1, B.q2.c0, B.q2.c1⟩
  have E3 : Hid (∀ W b d m b2 d2 m2x, m = (addT xs ys).length → Held W b d (addT xs ys) → m2x = (addT xs ys).length → Held W b2 d2 (addT xs ys) → S2 W w.heap.size g2 a1 a2 m1 m2 c1 c2 xs ys k1 k2 → Calls Tryd.prog 20 #[linV (.slice b m d) KA, linV (.slice b2 m2x d2) KA] W fun e w' => Below W.heap.size W w' ∧ e = .returned (.bool true) ∧ w'.cell? ⟨w.heap.size, 0, none⟩ = some (.slice a1 m1 c1) ∧ w'.cell? ⟨w.heap.size, 1, none⟩ = some (.int .u32 k1) ∧ w'.cell? ⟨g2, 0, none⟩ = some (.slice a2 m2 c2) ∧ w'.cell? ⟨g2, 1, none⟩ = some (.int .u32 k2)) :=
    fun W b d m b2 d2 m2x hm hh hm2 hh2 hW => (sameQ_held b b2 d d2 _ _ KA KA m m2x W hm hm2 hh hh2 (addR_len hl1 hl2) (addR_len hl1 hl2) true (same_true rfl rfl)).mono fun e w' ⟨hb, he⟩ => by
      have B := hW.below hb
      exact ⟨hb, he, B.q1.c0, B.q1.c1, B.q2.c0, B.q2.c1⟩
  have E4 : Hid (∀ W , S2 W w.heap.size g2 a1 a2 m1 m2 c1 c2 xs ys k1 k2 → Calls Tryd.prog 26 #[linV (.slice a1 m1 c1) k1, .int .u32 n] W fun e w' => Below W.heap.size W w' ∧ ∃ a c m, e = .returned (linV (.slice a m c) KT) ∧ m = (timesT xs n).length ∧ Held w' a c (timesT xs n) ∧ w'.cell? ⟨w.heap.size, 0, none⟩ = some (.slice a1 m1 c1) ∧ w'.cell? ⟨w.heap.size, 1, none⟩ = some (.int .u32 k1) ∧ w'.cell? ⟨g2, 0, none⟩ = some (.slice a2 m2 c2) ∧ w'.cell? ⟨g2, 1, none⟩ = some (.int .u32 k2)) :=
    fun W  hW => (timesR_held a1 c1 xs k1 n m1 W hM1.out hW.h1 hl1).mono fun e w' ⟨hb, a, c, m, he, hm, hh⟩ => by
      have B := hW.below hb
      rw [← hKT.out] at he
      exact ⟨hb, a, c, m, he, hm, hh, B.q1.c0, B.q1.c1, B.q2.c0, B.q2.c1⟩
  have E5 : Hid (∀ W , S2 W w.heap.size g2 a1 a2 m1 m2 c1 c2 xs ys k1 k2 → Calls Tryd.prog 27 #[linV (.slice a1 m1 c1) k1, .int .u32 n] W fun e w' => Below W.heap.size W w' ∧ ∃ a c m, e = .returned (linV (.slice a m c) KT) ∧ m = (timesT xs n).length ∧ Held w' a c (timesT xs n) ∧ w'.cell? ⟨w.heap.size, 0, none⟩ = some (.slice a1 m1 c1) ∧ w'.cell? ⟨w.heap.size, 1, none⟩ = some (.int .u32 k1) ∧ w'.cell? ⟨g2, 0, none⟩ = some (.slice a2 m2 c2) ∧ w'.cell? ⟨g2, 1, none⟩ = some (.int .u32 k2)) :=
    fun W  hW => (timesQ_held a1 c1 xs k1 n m1 W hM1.out hW.h1 hl1).mono fun e w' ⟨hb, a, c, m, he, hm, hh⟩ => by
      have B := hW.below hb
      rw [← hKT.out] at he
      exact ⟨hb, a, c, m, he, hm, hh, B.q1.c0, B.q1.c1, B.q2.c0, B.q2.c1⟩
  have E6 : Hid (∀ W b d m b2 d2 m2x, m = (timesT xs n).length → Held W b d (timesT xs n) → m2x = (timesT xs n).length → Held W b2 d2 (timesT xs n) → S2 W w.heap.size g2 a1 a2 m1 m2 c1 c2 xs ys k1 k2 → Calls Tryd.prog 20 #[linV (.slice b m d) KT, linV (.slice b2 m2x d2) KT] W fun e w' => Below W.heap.size W w' ∧ e = .returned (.bool true) ∧ w'.cell? ⟨w.heap.size, 0, none⟩ = some (.slice a1 m1 c1) ∧ w'.cell? ⟨w.heap.size, 1, none⟩ = some (.int .u32 k1) ∧ w'.cell? ⟨g2, 0, none⟩ = some (.slice a2 m2 c2) ∧ w'.cell? ⟨g2, 1, none⟩ = some (.int .u32 k2)) :=
    fun W b d m b2 d2 m2x hm hh hm2 hh2 hW => (sameQ_held b b2 d d2 _ _ KT KT m m2x W hm hm2 hh hh2 (timesR_len hl1 n) (timesR_len hl1 n) true (same_true rfl rfl)).mono fun e w' ⟨hb, he⟩ => by
      have B := hW.below hb
      exact ⟨hb, he, B.q1.c0, B.q1.c1, B.q2.c0, B.q2.c1⟩
  have E7 : Hid (∀ W , S2 W w.heap.size g2 a1 a2 m1 m2 c1 c2 xs ys k1 k2 → Calls Tryd.prog 28 #[linV (.slice a1 m1 c1) k1, linV (.slice a2 m2 c2) k2] W fun e w' => Below W.heap.size W w' ∧ e = .returned (.bool sb) ∧ w'.cell? ⟨w.heap.size, 0, none⟩ = some (.slice a1 m1 c1) ∧ w'.cell? ⟨w.heap.size, 1, none⟩ = some (.int .u32 k1) ∧ w'.cell? ⟨g2, 0, none⟩ = some (.slice a2 m2 c2) ∧ w'.cell? ⟨g2, 1, none⟩ = some (.int .u32 k2)) :=
    fun W  hW => (sameR_held a1 a2 c1 c2 xs ys k1 k2 m1 m2 W hM1.out hM2.out hW.h1 hW.h2 (by omega) (by omega) sb hsb.out).mono fun e w' ⟨hb, he⟩ => by
      have B := hW.below hb
      exact ⟨hb, he, B.q1.c0, B.q1.c1, B.q2.c0, B.q2.c1⟩
  have E8 : Hid (∀ W , S2 W w.heap.size g2 a1 a2 m1 m2 c1 c2 xs ys k1 k2 → Calls Tryd.prog 20 #[linV (.slice a1 m1 c1) k1, linV (.slice a2 m2 c2) k2] W fun e w' => Below W.heap.size W w' ∧ e = .returned (.bool sb) ∧ w'.cell? ⟨w.heap.size, 0, none⟩ = some (.slice a1 m1 c1) ∧ w'.cell? ⟨w.heap.size, 1, none⟩ = some (.int .u32 k1) ∧ w'.cell? ⟨g2, 0, none⟩ = some (.slice a2 m2 c2) ∧ w'.cell? ⟨g2, 1, none⟩ = some (.int .u32 k2)) :=
    fun W  hW => (sameQ_held a1 a2 c1 c2 xs ys k1 k2 m1 m2 W hM1.out hM2.out hW.h1 hW.h2 (by omega) (by omega) sb hsb.out).mono fun e w' ⟨hb, he⟩ => by
      have B := hW.below hb
      exact ⟨hb, he, B.q1.c0, B.q1.c1, B.q2.c0, B.q2.c1⟩
  have E9 : Hid (∀ W , S2 W w.heap.size g2 a1 a2 m1 m2 c1 c2 xs ys k1 k2 → Calls Tryd.prog 12 #[linV (.slice a1 m1 c1) k1] W fun e w' => Below W.heap.size W w' ∧ e = .returned (.string T) ∧ w'.cell? ⟨w.heap.size, 0, none⟩ = some (.slice a1 m1 c1) ∧ w'.cell? ⟨w.heap.size, 1, none⟩ = some (.int .u32 k1) ∧ w'.cell? ⟨g2, 0, none⟩ = some (.slice a2 m2 c2) ∧ w'.cell? ⟨g2, 1, none⟩ = some (.int .u32 k2)) :=
    fun W  hW => (hM1.out ▸ text_any a1 c1 xs k1 W hW.h1.lies hl1 hokH.out hk1.1 hk1.2 hW.P).mono fun e w' ⟨hb, he⟩ => by
      have B := hW.below hb
      rw [← hT.out] at he
      exact ⟨hb, he, B.q1.c0, B.q1.c1, B.q2.c0, B.q2.c1⟩
  have E10 : Hid (∀ W , S2 W w.heap.size g2 a1 a2 m1 m2 c1 c2 xs ys k1 k2 → Calls Tryd.prog 29 #[linV (.slice a1 m1 c1) k1] W fun e w' => Below W.heap.size W w' ∧ e = .returned (.string T) ∧ w'.cell? ⟨w.heap.size, 0, none⟩ = some (.slice a1 m1 c1) ∧ w'.cell? ⟨w.heap.size, 1, none⟩ = some (.int .u32 k1) ∧ w'.cell? ⟨g2, 0, none⟩ = some (.slice a2 m2 c2) ∧ w'.cell? ⟨g2, 1, none⟩ = some (.int .u32 k2)) :=
    fun W  hW => (hM1.out ▸ refText_any a1 c1 xs k1 W hW.h1.lies hl1 hokH.out hk1.1 hk1.2).mono fun e w' ⟨hb, he⟩ => by
      have B := hW.below hb
      rw [← hT.out] at he
      exact ⟨hb, he, B.q1.c0, B.q1.c1, B.q2.c0, B.q2.c1⟩
  have E11 : Hid (∀ W , S2 W w.heap.size g2 a1 a2 m1 m2 c1 c2 xs ys k1 k2 → Calls Tryd.prog 13 #[.int .u32 n] W fun e w' => Below W.heap.size W w' ∧ e = .returned (linV (.slice none 0 0) n) ∧ w'.cell? ⟨w.heap.size, 0, none⟩ = some (.slice a1 m1 c1) ∧ w'.cell? ⟨w.heap.size, 1, none⟩ = some (.int .u32 k1) ∧ w'.cell? ⟨g2, 0, none⟩ = some (.slice a2 m2 c2) ∧ w'.cell? ⟨g2, 1, none⟩ = some (.int .u32 k2)) :=
    fun W  hW => (of_any n W).mono fun e w' ⟨he, hb⟩ => by
      have B := hW.below hb
      exact ⟨hb, he, B.q1.c0, B.q1.c1, B.q2.c0, B.q2.c1⟩
  have E12 : Hid (∀ W , S2 W w.heap.size g2 a1 a2 m1 m2 c1 c2 xs ys k1 k2 → Calls Tryd.prog 20 #[linV (.slice none 0 0) n, linV (.slice none 0 0) n] W fun e w' => Below W.heap.size W w' ∧ e = .returned (.bool true) ∧ w'.cell? ⟨w.heap.size, 0, none⟩ = some (.slice a1 m1 c1) ∧ w'.cell? ⟨w.heap.size, 1, none⟩ = some (.int .u32 k1) ∧ w'.cell? ⟨g2, 0, none⟩ = some (.slice a2 m2 c2) ∧ w'.cell? ⟨g2, 1, none⟩ = some (.int .u32 k2)) :=
    fun W  hW => (sameQ_held none none 0 0 [] [] n n 0 0 W rfl rfl (nothing_held W) (nothing_held W) (by simp) (by simp) true (same_true rfl rfl)).mono fun e w' ⟨hb, he⟩ => by
      have B := hW.below hb
      exact ⟨hb, he, B.q1.c0, B.q1.c1, B.q2.c0, B.q2.c1⟩
  have E13 : Hid (∀ W , S2 W w.heap.size g2 a1 a2 m1 m2 c1 c2 xs ys k1 k2 → Calls Tryd.prog 14 #[] W fun e w' => Below W.heap.size W w' ∧ e = .returned (.bool true) ∧ w'.cell? ⟨w.heap.size, 0, none⟩ = some (.slice a1 m1 c1) ∧ w'.cell? ⟨w.heap.size, 1, none⟩ = some (.int .u32 k1) ∧ w'.cell? ⟨g2, 0, none⟩ = some (.slice a2 m2 c2) ∧ w'.cell? ⟨g2, 1, none⟩ = some (.int .u32 k2)) :=
    fun W  hW => (known_any W hW.P).mono fun e w' ⟨hb, he⟩ => by
      have B := hW.below hb
      exact ⟨hb, he, B.q1.c0, B.q1.c1, B.q2.c0, B.q2.c1⟩
  have hTT : (T.toList == T.toList) = true := beq_self_eq_true _
  obtain ⟨_, x0, x1, _, _⟩ := hBx.out.q1
  obtain ⟨_, y0, y1, _, _⟩ := hBx.out.q2
  cases sb
  all_goals go_region_held3 (fun w' => w'.cell? ⟨w.heap.size, 0, none⟩ = some (.slice a1 m1 c1) ∧ w'.cell? ⟨w.heap.size, 1, none⟩ = some (.int .u32 k1) ∧ w'.cell? ⟨g2, 0, none⟩ = some (.slice a2 m2 c2) ∧ w'.cell? ⟨g2, 1, none⟩ = some (.int .u32 k2)) (go_keep)
    ((first
      | (go_at_call 24; (with_reducible refine (E1.out _ (hBx.out.below (Below.refl _ _).drew)).mono ?_); rintro e wr1 ⟨hbr1, b1x, d1x, m1x, rfl, hm1x, hh1x, r1a, r1b, r1c, r1d⟩; replace hbr1 := chain' (Below.refl _ wx2).drew hbr1; have hc1 := Hid.intro hbr1; replace hm1x := Hid.intro hm1x; replace hh1x := Hid.intro hh1x)
      | (go_at_call 25; (with_reducible refine (E2.out _ (hBx.out.below hc1.out)).mono ?_); rintro e wr2 ⟨hbr2, b2x, d2x, m2x, rfl, hm2x, hh2x, r2a, r2b, r2c, r2d⟩; have hc2 := Hid.intro (chain' hc1.out hbr2); replace hm2x := Hid.intro hm2x; replace hh2x := Hid.intro hh2x)
      | (go_at_call 20; (with_reducible refine (E3.out _ b1x d1x m1x b2x d2x m2x hm1x.out (hh1x.out.below hbr2 (Nat.le_refl _)) hm2x.out hh2x.out (hBx.out.below hc2.out)).mono ?_); rintro e wr3 ⟨hbr3, rfl, r3a, r3b, r3c, r3d⟩; have hc3 := Hid.intro (chain' hc2.out hbr3))
      | (go_at_call 26; (with_reducible refine (E4.out _ (hBx.out.below hc3.out)).mono ?_); rintro e wr4 ⟨hbr4, b4x, d4x, m4x, rfl, hm4x, hh4x, r4a, r4b, r4c, r4d⟩; have hc4 := Hid.intro (chain' hc3.out hbr4); replace hm4x := Hid.intro hm4x; replace hh4x := Hid.intro hh4x)
      | (go_at_call 27; (with_reducible refine (E5.out _ (hBx.out.below hc4.out)).mono ?_); rintro e wr5 ⟨hbr5, b5x, d5x, m5x, rfl, hm5x, hh5x, r5a, r5b, r5c, r5d⟩; have hc5 := Hid.intro (chain' hc4.out hbr5); replace hm5x := Hid.intro hm5x; replace hh5x := Hid.intro hh5x)
      | (go_at_call 20; (with_reducible refine (E6.out _ b4x d4x m4x b5x d5x m5x hm4x.out (hh4x.out.below hbr5 (Nat.le_refl _)) hm5x.out hh5x.out (hBx.out.below hc5.out)).mono ?_); rintro e wr6 ⟨hbr6, rfl, r6a, r6b, r6c, r6d⟩; have hc6 := Hid.intro (chain' hc5.out hbr6))
      | (go_at_call 28; (with_reducible refine (E7.out _ (hBx.out.below hc6.out)).mono ?_); rintro e wr7 ⟨hbr7, rfl, r7a, r7b, r7c, r7d⟩; have hc7 := Hid.intro (chain' hc6.out hbr7))
      | (go_at_call 20; (with_reducible refine (E8.out _ (hBx.out.below hc7.out)).mono ?_); rintro e wr8 ⟨hbr8, rfl, r8a, r8b, r8c, r8d⟩; have hc8 := Hid.intro (chain' hc7.out hbr8))
      | (go_at_call 12; (with_reducible refine (E9.out _ (hBx.out.below hc8.out)).mono ?_); rintro e wr9 ⟨hbr9, rfl, r9a, r9b, r9c, r9d⟩; have hc9 := Hid.intro (chain' hc8.out hbr9))
      | (go_at_call 29; (with_reducible refine (E10.out _ (hBx.out.below hc9.out)).mono ?_); rintro e wr10 ⟨hbr10, rfl, r10a, r10b, r10c, r10d⟩; have hc10 := Hid.intro (chain' hc9.out hbr10))
      | (go_at_call 13; (with_reducible refine (E11.out _ (hBx.out.below hc10.out)).mono ?_); rintro e wr11 ⟨hbr11, rfl, r11a, r11b, r11c, r11d⟩; have hc11 := Hid.intro (chain' hc10.out hbr11))
      | (go_at_call 20; (with_reducible refine (E12.out _ (hBx.out.below hc11.out)).mono ?_); rintro e wr12 ⟨hbr12, rfl, r12a, r12b, r12c, r12d⟩; have hc12 := Hid.intro (chain' hc11.out hbr12))
      | (go_at_call 14; (with_reducible refine (E13.out _ (hBx.out.below hc12.out)).mono ?_); rintro e wr13 ⟨hbr13, rfl, r13a, r13b, r13c, r13d⟩; have hc13 := Hid.intro (chain' hc12.out hbr13))))
  all_goals go_wp2_with fail
  all_goals go_ret
  all_goals exact ⟨chain' hbwx.out hc13.out, rfl⟩
end Go.Proofs.YtijdjljnppkhmaaDoor
namespace Go.Proofs.YtijdjljnppkhmaaDoor
open Go.ChangeShapes Go.WideShapes Go.ChangeAt Go.RowKit
set_option linter.unusedVariables false
set_option maxRecDepth 100000

theorem reckons_any (a1 a2 : Option Addr) (c1 c2 : Nat) (xs ys : List Tm) (k1 k2 n : Int) (w : World) (h1 : Held w a1 c1 xs) (h2 : Held w a2 c2 ys) (hP : Pow w)
    (hl1 : xs.length ≤ 1100000) (hl2 : ys.length ≤ 1100000) (hn1 : ∀ t ∈ xs, t.name.length ≤ 1100000) (hn2 : ∀ t ∈ ys, t.name.length ≤ 1100000) (hk1 : 0 ≤ k1 ∧ k1 < 4294967296) (hk2 : 0 ≤ k2 ∧ k2 < 4294967296)
    (hf1 : ∀ t ∈ xs, 0 ≤ t.coef ∧ t.coef < 4294967296) (hf2 : ∀ t ∈ ys, 0 ≤ t.coef ∧ t.coef < 4294967296) :
    Calls Tryd.prog 5 #[linV (.slice a1 xs.length c1) k1, linV (.slice a2 ys.length c2) k2, .int .u32 n] w fun e w' => Below w.heap.size w w' ∧ e = .returned (.bool true) := by
  cases e1 : rightF none xs with
  | false => exact reckons_no1 a1 a2 c1 c2 xs ys k1 k2 n w h1 h2 hP hl1 hl2 hn1 hn2 hk1 hk2 hf1 hf2 _ e1 rfl
  | true =>
    cases e2 : rightF none ys with
    | false => exact reckons_no2 a1 a2 c1 c2 xs ys k1 k2 n w h1 h2 hP hl1 hl2 hn1 hn2 hk1 hk2 hf1 hf2 e1 e2
    | true => exact reckons_full a1 a2 c1 c2 xs ys k1 k2 n w h1 h2 hP hl1 hl2 hn1 hn2 hk1 hk2 hf1 hf2 e1 e2 _ rfl
end Go.Proofs.YtijdjljnppkhmaaDoor
namespace Go.Proofs.YtijdjljnppkhmaaDoor.exprReckons
open Go.ChangeShapes Go.WideShapes Go.ChangeAt Go.RowKit
set_option linter.unusedVariables false
set_option maxRecDepth 100000

theorem own : ownKnob Tryd.prog.godebug = none := by kernel_rfl
theorem laidOut : laidOutB Tryd.prog = true := by kernel_rfl

theorem contract (H : Type) (enc : TypeId × Value → H) (W : World) (base : Nat) (args : Array Value) (ds gs : List (DataW H)) (before : List MemPlace)
    (hval : ∀ (j : Nat) t v, Tryd.f5.params[j]? = some t → args[j]? = some v → Value.okWide Tryd.prog W .any base t v)
    (hW : DataW.Whole enc Tryd.prog Tryd.f5.params.toList Rows.exprReckonsSpec.vars false W args.toList ds gs before) (hL : laidMetH Tryd.prog Rows.exprReckonsUptoRow.laid W) (hk : Rows.uptoSmall H (ds ++ gs) = true) :
    Calls Tryd.prog 5 args W fun e W' => ∃ v, e = .returned v ∧ Rows.exprReckonsSpec.post enc Tryd.prog Tryd.f5 false true false false W args v W' := by
  have hW' := hW
  obtain ⟨p, q, hA0, hV, rfl, hfz, hnd⟩ := hW
  have hA : DataW.TrodAll enc Tryd.prog W 0 (fun _ => true) true Tryd.f5.params.toList args.toList ds p := hA0
  rw [Tryd.params5] at hA hval
  obtain ⟨v0, vs0, d0, ds0, p0, q0, hargs, rfl, rfl, h0, r0⟩ := trodAll_cons hA
  obtain ⟨v1, vs1, d1, ds1, p1, q1, rfl, rfl, rfl, h1, r1⟩ := trodAll_cons r0
  obtain ⟨v2, vs2, d2, ds2, p2, q2, rfl, rfl, rfl, h2, r2⟩ := trodAll_cons r1
  obtain ⟨rfl, rfl, rfl⟩ := trodAll_nil r2
  obtain rfl : args = #[v0, v1, v2] := by cases args; simp_all
  obtain ⟨rfl, rfl⟩ := trodVars_none hV
  have k0 := h0
  have k1 := h1
  have lt0 : ∀ x ∈ p0, x.block < W.heap.size := by obtain ⟨m, hm⟩ := k0; exact DataW.trod_lt m _ _ _ hm
  have lt1 : ∀ x ∈ p1, x.block < W.heap.size := by obtain ⟨m, hm⟩ := k1; exact DataW.trod_lt m _ _ _ hm
  obtain ⟨a1, c1, xs, e1, L1⟩ := open_lin (hval 0 25 v0 rfl rfl) h0
  obtain ⟨a2, c2, ys, e2, L2⟩ := open_lin (hval 1 25 v1 rfl rfl) h1
  obtain ⟨n, rfl, rfl, rfl, w2⟩ := open_int Tryd.underlying23 (hval 2 23 v2 rfl rfl) h2
  clear hA0
  simp only [List.append_nil] at hk
  have hsum : Rows.uptoBulkAll [d0, d1, .lit (.int .u32 n)] ≤ 1048576 := of_decide_eq_true hk
  simp only [Rows.uptoBulkAll, Rows.uptoBulk] at hsum
  have f1 := L1.few
  have f2 := L2.few
  have hgo := reckons_any a1 a2 c1 c2 xs ys e1 e2 n W L1.held L2.held (pow_of_laid hL) (by omega) (by omega)
    (fun t ht => by have := (L1.each t ht).2.2; omega) (fun t ht => by have := (L2.each t ht).2.2; omega) ⟨L1.lo, L1.hi⟩ ⟨L2.lo, L2.hi⟩ (fun t ht => ⟨(L1.each t ht).1, (L1.each t ht).2.1⟩) (fun t ht => ⟨(L2.each t ht).1, (L2.each t ht).2.1⟩)
  rw [← L1.is, ← L2.is] at hgo
  refine hgo.mono fun e W' ⟨bel, he⟩ => ?_
  subst he
  exact ⟨_, rfl, _, _, _, [], _, [], hW', trodAll_mk1 (shut_bool Tryd.underlying4 _), (trodAll_cons_mk (Below.trod laidOut (by kernel_rfl) (of_decide_eq_true (by kernel_rfl)) k0 bel lt0) (trodAll_cons_mk (Below.trod laidOut (by kernel_rfl) (of_decide_eq_true (by kernel_rfl)) k1 bel lt1) (trodAll_cons_mk (shut_int Tryd.underlying23 w2) trodAll_mk0))), rfl, bel.frame _, fun h => by cases h⟩

theorem laid_met (os : Os) (args : Array Value) : laidMet Tryd.prog Rows.exprReckonsUptoRow.laid ((laidWorld os).forCall (fun _ _ => 0) ⟨#[], args, []⟩).memory :=
  laidMet_of_run' 8 (by kernel_rfl) (by kernel_rfl)
theorem reads (os : Os) {H : Type} (enc : TypeId × Value → H) : ∃ places, DataW.whole enc Tryd.prog ((laidWorld os).forCall (fun _ _ => 0) ⟨#[], #[linV (.slice none 0 0) 0, linV (.slice none 0 0) 0, .int .u32 0], []⟩).memory Tryd.f5.params.toList Rows.exprReckonsSpec.vars false #[linV (.slice none 0 0) 0, linV (.slice none 0 0) 0, .int .u32 0].toList 8 = some ([.agg [.nil, .lit (.int .u32 0)], .agg [.nil, .lit (.int .u32 0)], .lit (.int .u32 0)], [], places) :=
  ⟨[], by kernel_rfl⟩

theorem lifted (os : Os) (started : os.Started) (H : Type) (enc : TypeId × Value → H) (F : Stop.Interp) :
    ReturnsInHanded {} Tryd.checked os 5 .any ((Rows.OpenSpec.upto Rows.exprReckonsSpec).preRow enc Tryd.prog Tryd.f5 Rows.exprReckonsUptoRow.domain false Rows.exprReckonsUptoRow.laid) (((Rows.OpenSpec.upto Rows.exprReckonsSpec).at F).post enc Tryd.prog Tryd.f5 false true false false) := by
  obtain ⟨places, hx⟩ := reads os enc
  refine returnsInHanded_of_row (C := Tryd.checked) (s := Rows.OpenSpec.upto Rows.exprReckonsSpec) own started (by kernel_rfl) Tryd.func5
    (witness_row_at (enc := enc) (C := Tryd.checked) false (laidWorld os) #[linV (.slice none 0 0) 0, linV (.slice none 0 0) 0, .int .u32 0] rfl (by kernel_rfl) (by kernel_rfl) (by kernel_rfl)
      (OpenSpec.preRow_of_cond 8 hx (by kernel_rfl) (fun k hk => by cases hk; kernel_rfl) (by kernel_rfl) (laid_met os _))) ?_
  intro W base args ds gs before hval hW x1 x2 x3 hL x4 x5
  exact contract H enc W base args ds gs before hval hW hL (by first | exact x1 _ rfl | exact x2 _ rfl | exact x3 _ rfl | exact x4 _ rfl | exact x5 _ rfl)

theorem said : Rows.ExprReckonsUptoSaid :=
  OpenClaim.holds_of_cond 5 Tryd.f5 rfl rfl rfl rfl rfl rfl rfl ⟨rfl, rfl, rfl, rfl, rfl⟩ rfl rfl rfl rfl rfl (by kernel_rfl) Tryd.func5 (by kernel_rfl)
    (of_decide_eq_true (by kernel_rfl)) (by unfold Func.isWrapper; first | (rw [if_pos (by decide +kernel)]; kernel_rfl) | (rw [if_neg (by decide +kernel)]; exact ⟨rfl, rfl⟩))
    (fun os started H enc _ F => by rw [OpenClaim.pre_eq_preRow]; exact lifted os started H enc F)

theorem plain (f : FuncId) (fn : Func) (hf : Tryd.pinned.checked.prog.funcNamed "spandrel/spandrellaw4.ExprReckons" = some f) (hfn : Tryd.pinned.checked.prog.funcs[f]? = some fn) :
    false = Tryd.pinned.checked.prog.looks [] ∧ ∀ (j : Nat) t, fn.params[j]? = some t → Tryd.pinned.checked.prog.wantsStandIn t = false := by
  obtain rfl : f = 5 := Option.some.inj ((show Tryd.prog.funcNamed "spandrel/spandrellaw4.ExprReckons" = some 5 by kernel_rfl).symm.trans hf) |>.symm
  obtain rfl : fn = Tryd.f5 := (Option.some.inj (Tryd.func5.symm.trans hfn)).symm
  refine ⟨by kernel_rfl, fun j t ht => ?_⟩
  rw [Tryd.params5] at ht
  have hm := Array.mem_of_getElem? ht
  have h25 : Tryd.prog.wantsStandIn 25 = false := by kernel_rfl
  have h23 : Tryd.prog.wantsStandIn 23 = false := by kernel_rfl
  simp at hm
  rcases hm with rfl | rfl
  · exact h25
  · exact h23

theorem card : Rows.ExprReckonsUptoCardSaid :=
  Claim7.holds_tied_plain_at .later [] _ _ _ _ said (fun _ h => by cases h) (by kernel_rfl) (fun _ h => by cases h) exprReckonsUpto_row_tie rfl ⟨rfl, rfl⟩ (by kernel_rfl) rfl plain (by kernel_rfl)
end Go.Proofs.YtijdjljnppkhmaaDoor.exprReckons
namespace Go.Proofs.YtijdjljnppkhmaaDoor
theorem exprReckonsUpto_holds : Rows.ExprReckonsUptoCardSaid := exprReckons.card
#print axioms exprReckonsUpto_holds
end Go.Proofs.YtijdjljnppkhmaaDoor

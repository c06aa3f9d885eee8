/- The walk of LexAgain. -/
import Derived.Test.YtaanfphknnijeaaAgainM
import Derived.Test.YtaanfphknnijeaaCutW
namespace Go.Proofs.Ytaanfphknnijeaa
open Go.ChangeShapes Go.WideShapes Go.ChangeAt Go.RowKit
set_option linter.unusedVariables false
set_option maxRecDepth 100000

theorem joinT_snoc (ts : List Tok) (t : Tok) : joinT (ts ++ [t]) = joinT ts ++ t.text ++ [(32 : UInt8)] := by simp [joinT]

theorem chain_drop (l : List UInt8) (e : Nat) (ts : List Tok) (i : Nat) (t : Tok) (h : Chain l e (ts.drop i)) (ht : ts[i]? = some t) :
    e ≤ t.place ∧ t.place + t.text.length ≤ l.length ∧ t.text ≠ [] ∧ (l.drop t.place).take t.text.length = t.text ∧ (∀ k, e ≤ k → k < t.place → isBl (atI l k) = true) ∧ Chain l (t.place + t.text.length) (ts.drop (i + 1)) := by
  have hlt : i < ts.length := by
    apply Decidable.byContradiction
    intro hn
    rw [List.getElem?_eq_none (by omega)] at ht
    cases ht
  rw [List.drop_eq_getElem_cons hlt] at h
  rw [List.getElem?_eq_getElem hlt] at ht
  cases ht
  exact h

theorem join_le (ts : List Tok) (i : Nat) : (joinT (ts.take i)).length ≤ (joinT ts).length := by
  have : joinT ts = joinT (ts.take i) ++ joinT (ts.drop i) := by
    unfold joinT
    rw [← List.flatMap_append, List.take_append_drop]
  rw [this, List.length_append]
  omega

theorem str_add (a b : List UInt8) (h : a.length + b.length ≤ 9223372036854775807) (W : World) : (Op.stringOp .add (str a) (str b)).run Try.prog W = .ok (.string (str (a ++ b))) W := by
  have e : ∀ l : List UInt8, (str l).size = l.length := fun l => by simp [str, ByteArray.size]
  rw [run_string_add_sum W _ _ (by rw [e, e]; exact h)]
  have : str a ++ str b = str (a ++ b) := by
    apply ByteArray.ext
    simp [str]
  rw [this]

set_option maxHeartbeats 8000000 in
theorem lexAgain_walk (s : ByteArray) (hs : s.size ≤ maxLen) (w : World) :
    Calls Try.prog 6 #[.string s] w fun e w' => e = .returned (.bool true) ∧ Below w.heap.size w w' := by
  unfold maxLen at hs
  have hf1 : ∀ w, Calls Try.prog 13 #[.string s, .int .i64 1000] w fun e w' => e = .returned (.string (fewS s 1000)) ∧ w' = w := fun w => few_big s 1000 (by omega) (by omega) w
  have z1 := fewS_size s 1000
  obtain ⟨s1, hs1⟩ : ∃ s1, s1 = fewS s 1000 := ⟨_, rfl⟩
  rw [← hs1] at hf1 z1
  clear hs1
  have hF1 := Hid.intro hf1
  clear hf1
  cases hsc : scan (bs s1) 0 with
  | error p =>
    have hT := Hid.intro (fun w => tokens_bad s1 (by omega) p hsc w)
    have hp := scan_place (bs s1) _ 0 p rfl hsc
    rw [bs_length] at hp
    have hpl : (p : Int) < (s1.size : Int) := by omega
    clear hsc hp
    go_enter Try.func6, Try.ntmps6
    go_wp2_with (first
      | (go_at_call 13; with_reducible refine (hF1.out _).mono ?_; rintro e w' ⟨rfl, rfl⟩)
      | (go_at_call 9; with_reducible refine (hT.out _).mono ?_; rintro e w1 ⟨hb1, rfl⟩)
      | (go_at_call 12; refine (known_any _).mono ?_; rintro e w2 ⟨rfl, hb2⟩))
    all_goals first
      | omega
      | skip
    go_ret
    exact ⟨rfl, hb1.trans (hb2.mono hb1.size)⟩
  | ok ts =>
    have hT := Hid.intro (fun w => tokens_lies s1 (by omega) ts hsc w)
    have hlen := scan_len _ _ _ hsc
    rw [bs_length] at hlen
    obtain ⟨hCh, hGood, hJ⟩ := scan_all (bs s1) _ 0 0 ts rfl (by omega) (by omega) (fun k h1 h2 => by omega) hsc
    rw [bs_length] at hJ
    obtain ⟨us, hus, hst⟩ := scan_join ts hGood 0
    have hul : us.length = ts.length := by have := congrArg List.length hst; simpa using this
    have hJs : (str (joinT ts)).size ≤ 2000 := by
      have : (str (joinT ts)).size = (joinT ts).length := by simp [str, ByteArray.size]
      omega
    have hT2 := Hid.intro (fun w => tokens_lies (str (joinT ts)) (by omega) us hus w)
    obtain ⟨n0, hn0⟩ : ∃ n0, n0 = ts.length := ⟨_, rfl⟩
    rw [hul, ← hn0] at hT2
    rw [← hn0] at hT hlen
    have hChH := Hid.intro hCh
    have hstH := Hid.intro hst
    have hnH := Hid.intro hn0
    have hJH := Hid.intro hJ
    clear hsc hCh hGood hus hst hn0 hul hJs hJ
    go_enter Try.func6, Try.ntmps6
    go_wp2_with (first
      | (go_at_call 13; with_reducible refine (hF1.out _).mono ?_; rintro e w' ⟨rfl, rfl⟩)
      | (go_at_call 9; with_reducible refine (hT.out _).mono ?_; rintro e w1 ⟨hb1, a1, cap1, rfl, hl1⟩))
    go_loopw [6, 7, 8] (fun ve vj vi wr => ∃ (e i : Nat), i ≤ n0 ∧ e ≤ s1.size ∧ ve = .int .i64 (e : Int) ∧ vj = .string (str (joinT (ts.take i))) ∧ vi = .int .i64 (i : Int) ∧ Hid (Chain (bs s1) e (ts.drop i)) ∧ Below w'.heap.size w' wr ∧ Below w1.heap.size w1 wr) (fun _ _ vi _ => n0 - (intOf vi).toNat)
    case atStart => exact ⟨0, 0, by omega, by omega, rfl, rfl, rfl, hChH.out, hb1, Below.refl _ _⟩
    case round =>
      obtain ⟨e, i, hi, hes, rfl, rfl, rfl, hC, hbw, hbw1⟩ := hrel
      by_cases hlt : i < n0
      · obtain ⟨t, ht⟩ : ∃ t, ts[i]? = some t := ⟨ts[i]'(by rw [← hnH.out]; exact hlt), List.getElem?_eq_getElem _⟩
        rcases hl1.below hbw1 (Nat.le_refl _) with h0 | ⟨g1, rfl, hg1, hc1⟩
        · exfalso; have := hnH.out; rw [h0] at this; simp at this; omega
        · obtain ⟨q0, q1, q2, q3⟩ := hc1 i t ht
          obtain ⟨x1, x2, x3, x4, x5, x6⟩ := chain_drop _ _ _ _ _ hC.out ht
          rw [bs_length] at x2
          have hsz : (str t.text).size = t.text.length := by simp [str, ByteArray.size]
          have f1 : decide ((t.place : Int) < (e : Int)) = false := by simp; omega
          have f2 : decide ((s1.size : Int) < (t.place : Int) + (t.text.length : Int)) = false := by simp; omega
          have hwr : IntKind.i64.wrap ((t.place : Int) + (t.text.length : Int)) = (t.place : Int) + (t.text.length : Int) := by
            rw [IntKind.wrap_i64]
            omega
          have f3 : ((str t.text).toList == []) = false := by rw [str_toList]; simpa using x3
          have hsl : ∀ W : World, (Instr.slice 9 (.string s1) (some (.int .i64 (t.place : Int))) (some (.int .i64 ((t.place : Int) + (t.text.length : Int)))) none).run Try.prog W = .ok (.string (str t.text)) W := fun W => by
            rw [run_slice_string W 9 s1 .i64 .i64 t.place ((t.place : Int) + t.text.length) Try.underlying9 (by omega) (by omega) (by omega), Lib.extract_eq]
            have e2 : ((t.place : Int) + (t.text.length : Int)).toNat - ((t.place : Nat) : Int).toNat = t.text.length := by omega
            have e1 : ((t.place : Nat) : Int).toNat = t.place := by omega
            rw [e2, e1]
            have x4' : List.take t.text.length (List.drop t.place s1.data.toList) = t.text := x4
            rw [x4']
            rfl
          have HX5 := Hid.intro x5
          have HX6 := Hid.intro x6
          have HT := Hid.intro ht
          clear x3 x4 x5 x6 ht hc1 hl1 hC
          go_wp2
          go_quiet (fail)
          go_wp2
          have hbA : Below wr.heap.size wr ((wr.alloc (.cells #[.int .i64 t.kind, .string (str t.text), .int .u32 t.num, .int .i64 (t.place : Int)] 31)).drewN nq) := below_drewN ((Below.refl _ _).alloc (Nat.le_refl _) _) nq
          have c1 : ((wr.alloc (.cells #[.int .i64 t.kind, .string (str t.text), .int .u32 t.num, .int .i64 (t.place : Int)] 31)).drewN nq).cell? ⟨wr.heap.size, 1, none⟩ = some (.string (str t.text)) := by
            have := cells_new wr #[.int .i64 t.kind, .string (str t.text), .int .u32 t.num, .int .i64 (t.place : Int)] 31 1 _ rfl
            exact this
          have c3 : ((wr.alloc (.cells #[.int .i64 t.kind, .string (str t.text), .int .u32 t.num, .int .i64 (t.place : Int)] 31)).drewN nq).cell? ⟨wr.heap.size, 3, none⟩ = some (.int .i64 (t.place : Int)) := by
            have := cells_new wr #[.int .i64 t.kind, .string (str t.text), .int .u32 t.num, .int .i64 (t.place : Int)] 31 3 _ rfl
            exact this
          generalize (wr.alloc (.cells #[.int .i64 t.kind, .string (str t.text), .int .u32 t.num, .int .i64 (t.place : Int)] 31)).drewN nq = W2 at hbA c1 c3 ⊢
          obtain ⟨J, hJ⟩ : ∃ J, J = joinT (ts.take i) := ⟨_, rfl⟩
          have hJl : J.length ≤ 2000 := by
            have h1 := join_le ts i
            rw [← hJ] at h1
            have := hJH.out
            omega
          have ha1 : ∀ W : World, (Op.stringOp .add (str J) (str t.text)).run Try.prog W = .ok (.string (str (J ++ t.text))) W := fun W => str_add _ _ (by omega) W
          have ha2 : ∀ W : World, (Op.stringOp .add (str (J ++ t.text)) ⟨#[32]⟩).run Try.prog W = .ok (.string (str (J ++ t.text ++ [(32 : UInt8)]))) W := fun W => str_add (J ++ t.text) [(32 : UInt8)] (by simp; omega) W
          have hJn : Hid (joinT (ts.take (i + 1)) = J ++ t.text ++ [(32 : UInt8)]) := by
            show joinT (ts.take (i + 1)) = _
            rw [List.take_add_one, HT.out, hJ]
            exact joinT_snoc _ _
          rw [← hJ]
          clear hJ f1 f2 f3 hsl q0 q1 q2 q3
          have hwb : Below w'.heap.size w' W2 := hbw.trans (hbA.mono hbw.size)
          have hwb1 : Below w1.heap.size w1 W2 := hbw1.trans (hbA.mono hbw1.size)
          go_loop [10] (fun vk => ∃ k : Nat, e ≤ k ∧ k ≤ t.place ∧ vk = .int .i64 (k : Int)) (fun vk => t.place - (intOf vk).toNat)
          case atStart => exact ⟨e, by omega, by omega, rfl⟩
          case round =>
            obtain ⟨k, hk1, hk2, rfl⟩ := hrel
            by_cases hkl : k < t.place
            · have hki : (k : Int) < (t.place : Int) := by omega
              have hks : k < s1.size := by omega
              have hgk := atI_get s1 k hks
              have hb9 := HX5.out k hk1 hkl
              have hb3 : atI (bs s1) k = 9 ∨ atI (bs s1) k = 13 ∨ atI (bs s1) k = 32 := by simp [isBl] at hb9; omega
              clear hb9
              obtain ⟨c, hc⟩ : ∃ c, c = atI (bs s1) k := ⟨_, rfl⟩
              rw [← hc] at hgk hb3
              clear hc
              rcases hb3 with rfl | rfl | rfl
              all_goals
                go_wp2
                all_goals first
                  | omega
                  | skip
                go_round
                case rel => exact ⟨k + 1, by omega, by omega, by go_num⟩
                case measure => simp [intOf]; omega
            · have hki : ¬ ((k : Int) < (t.place : Int)) := by omega
              go_wp2
              all_goals first
                | omega
                | skip
              go_roundw
              case rel =>
                refine ⟨t.place + t.text.length, i + 1, by omega, by omega, by go_num, ?_, by go_num, HX6.out, hwb, hwb1⟩
                rw [hJn.out, List.append_assoc]
              case measure => simp [intOf]; omega
      · have ei : i = n0 := by omega
        have hall : Hid (ts.take i = ts) := by
          show ts.take i = ts
          rw [ei, hnH.out, List.take_length]
        rw [hall.out]
        have hni : ¬ ((i : Int) < (n0 : Int)) := by omega
        have hl1' := hl1.below hbw1 (Nat.le_refl _)
        clear ei hC hl1
        go_wp2_with (first
          | (go_at_call 9; with_reducible refine (hT2.out _).mono ?_; rintro e2 w3 ⟨hb3, a3, cap3, rfl, hl3⟩))
        all_goals first
          | omega
          | skip
        have hl2 := hl1'.below hb3 (Nat.le_refl _)
        have hw3 : Below w'.heap.size w' w3 ∧ w'.heap.size ≤ w3.heap.size := bel_step ⟨hbw, hbw.size⟩ hb3
        clear hl1'
        go_loopw [14] (fun vk wx => ∃ k n : Nat, k ≤ n0 ∧ vk = .int .i64 (k : Int) ∧ wx = w3.drewN n) (fun vk _ => n0 - (intOf vk).toNat)
        case atStart => exact ⟨0, 0, by omega, rfl, rfl⟩
        case round =>
          obtain ⟨k, n, hk, rfl, rfl⟩ := hrel
          by_cases hlk : k < n0
          · have hki : (k : Int) < (n0 : Int) := by omega
            obtain ⟨t, ht⟩ : ∃ t, ts[k]? = some t := ⟨ts[k]'(by rw [← hnH.out]; exact hlk), List.getElem?_eq_getElem _⟩
            obtain ⟨u, hu, u1, u2, u3⟩ := strip_get us ts hstH.out k t ht
            rcases hl2 with h0 | ⟨g1, rfl, hg1, hc1⟩
            · exfalso; have := hnH.out; rw [h0] at this; simp at this; omega
            · rcases hl3 with h0 | ⟨g3, rfl, hg3, hc3⟩
              · exfalso; rw [h0] at hu; simp at hu
              · obtain ⟨q0, q1, q2, q3⟩ := hc1 k t ht
                obtain ⟨p0, p1, p2, p3⟩ := hc3 k u hu
                rw [u1] at p0
                rw [u2] at p1
                rw [u3] at p2
                clear hc1 hc3 ht hu u1 u2 u3 p3 q3
                go_wp2
                all_goals first
                  | omega
                  | skip
                go_quiet (fail)
                go_wp2
                all_goals first
                  | omega
                  | skip
                go_roundw
                case rel => exact ⟨k + 1, n + nq, by omega, by go_num, by simp⟩
                case measure => simp [intOf]; omega
          · have hki : ¬ ((k : Int) < (n0 : Int)) := by omega
            go_wp2_with (first
              | (go_at_call 12; refine (known_any _).mono ?_; rintro e4 w4 ⟨rfl, hb4⟩))
            all_goals first
              | omega
              | skip
            go_ret
            exact ⟨rfl, (bel_step ⟨below_drewN hw3.1 n, hw3.2⟩ hb4).1⟩
end Go.Proofs.Ytaanfphknnijeaa

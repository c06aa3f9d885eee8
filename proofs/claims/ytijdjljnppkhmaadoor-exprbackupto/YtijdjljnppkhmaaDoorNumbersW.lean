/- ExprNumbers: the walk. -/
import Derived.Test.YtijdjljnppkhmaaDoorKnownE
namespace Go.Proofs.YtijdjljnppkhmaaDoor
open Go.ChangeShapes Go.WideShapes Go.ChangeAt Go.RowKit
set_option linter.unusedVariables false
set_option maxRecDepth 100000

/-- read, of a closed text that is refused -/
theorem read_err (s : ByteArray) (hs : s.size ≤ 100) (k : Int) (h : readI 100 (bs s) = .error k) (w : World) :
    Calls Tryd.prog 9 #[.string s] w fun e w' => Below w.heap.size w w' ∧ ∃ a c, e = .returned (.tuple #[linV (.slice a 0 c) 0, .int .i64 k]) := (read_is s hs _ h w).mono fun e w' ⟨h1, a, c, h2, _⟩ => ⟨h1, a, c, h2⟩
theorem read_num (s : ByteArray) (hs : s.size ≤ 100) (k : Int) (h : readI 100 (bs s) = .ok ⟨[], k⟩) (w : World) :
    Calls Tryd.prog 9 #[.string s] w fun e w' => Below w.heap.size w w' ∧ ∃ a c, e = .returned (.tuple #[linV (.slice a 0 c) k, .int .i64 0]) := (read_is s hs _ h w).mono fun e w' ⟨h1, a, c, h2, _⟩ => ⟨h1, a, c, h2⟩
theorem text_zero (a : Option Addr) (c : Nat) (w : World) (hP : Pow w) : Calls Tryd.prog 12 #[linV (.slice a 0 c) 0] w fun e w' => Below w.heap.size w w' ∧ e = .returned (.string ⟨#[48]⟩) := by
  have := text_any a c [] 0 w (.inl rfl) (by decide) (by simp) (by decide) (by decide) hP
  rw [text_0] at this
  exact this
theorem bs_append (a b : ByteArray) : bs (a ++ b) = bs a ++ bs b := by simp [bs]

def deepS : Nat → ByteArray
  | 0 => ⟨#[49]⟩
  | n + 1 => ⟨#[40]⟩ ++ deepS n ++ ⟨#[41]⟩
theorem deepS_bs (n : Nat) : bs (deepS n) = deep n := by
  induction n with
  | zero => rfl
  | succ n ih => rw [deepS, bs_append, bs_append, ih]; rfl
theorem deepS_size (n : Nat) : (deepS n).size = 2 * n + 1 := by
  induction n with
  | zero => rfl
  | succ n ih => rw [deepS, ByteArray.size_append, ByteArray.size_append, ih]; simp [ByteArray.size]; omega

theorem chain {w w1 w2 : World} {o : Obj} (h1 : Below w.heap.size w w1) (h2 : Below (w1.alloc o).heap.size (w1.alloc o) w2) : Below w.heap.size w w2 := h1.trans ((one_below h2).mono h1.size)
theorem chain' {w w1 w2 : World} (h1 : Below w.heap.size w w1) (h2 : Below w1.heap.size w1 w2) : Below w.heap.size w w2 := h1.trans (h2.mono h1.size)
theorem Two.lt {w : World} {g : Nat} {T : TypeId} {x y : Value} (h : Two w g T x y) : g < w.heap.size := (Array.getElem?_eq_some_iff.1 h.heap).1

set_option maxHeartbeats 4000000 in
theorem numbers_walk (w : World) (hP : Pow w) :
    Calls Tryd.prog 3 #[] w fun e w' => Below w.heap.size w w' ∧ e = .returned (.bool true) := by
  have hPH := Hid.intro hP
  clear hP
  have h1 := Hid.intro (read_err ⟨#[97, 42, 98]⟩ (by decide) 21 ev1)
  have h2 := Hid.intro (read_num ⟨#[40, 97, 45, 97, 41, 42, 98]⟩ (by decide) 0 ev2)
  have h3 := Hid.intro (read_err ⟨#[97, 43]⟩ (by decide) 20 ev3)
  have h4 := Hid.intro (read_err ⟨#[114, 49]⟩ (by decide) 20 ev4)
  have h5 := Hid.intro (read_err ⟨#[]⟩ (by decide) 20 ev5)
  have h6 := Hid.intro (read_num ⟨#[45, 32, 45, 49]⟩ (by decide) 1 ev6)
  have h7 := Hid.intro (read_num (deepS 32) (by rw [deepS_size]; decide) 1 (by rw [deepS_bs]; exact ev7))
  have h8 := Hid.intro (read_err (⟨#[40]⟩ ++ deepS 32 ++ ⟨#[41]⟩) (by rw [ByteArray.size_append, ByteArray.size_append, deepS_size]; decide) 21 (by rw [bs_append, bs_append, deepS_bs]; exact ev8))
  have hN : Hid (∀ (a : Option Addr) (c : Nat) (B : Nat) (w' : World), w'.ownsRow B 56 2 (.slice a 1 c) 1 [.string ⟨#[113]⟩, .int .u32 1] → Calls Tryd.prog 10 #[linV (.slice a 1 c) 0, .map none] w' fun e w'' => Below w'.heap.size w' w'' ∧ e = .returned (.tuple #[.int .u32 0, .bool false])) :=
    fun a c B w' ho => value_nil a c ⟨[113], 1⟩ [] 0 w' (own_tmLies ho) (by decide) (by decide)
  have hA : Hid (∀ (a : Option Addr) (c : Nat) (B : Nat) (w' : World), w'.ownsRow B 56 2 (.slice a 1 c) 1 [.string ⟨#[97]⟩, .int .u32 1] → Pow w' → Calls Tryd.prog 12 #[linV (.slice a 1 c) 0] w' fun e w'' => Below w'.heap.size w' w'' ∧ e = .returned (.string ⟨#[97]⟩)) :=
    fun a c B w' ho hp => by
      have := text_any a c [⟨[97], 1⟩] 0 w' (own_tmLies ho) (by decide) (by intro t ht; simp at ht; subst ht; exact ⟨by decide, by decide, by decide⟩) (by decide) (by decide) hp
      rw [text_a] at this
      exact this
  go_enter Tryd.func3, Tryd.ntmps3
  go_wp2_with (first
    | (go_at_call 9; (with_reducible refine (h1.out _).mono ?_); rintro e w1 ⟨hb1, a1, c1, rfl⟩)
    | (go_at_call 9; (with_reducible refine (h2.out _).mono ?_); rintro e w2 ⟨hb2, a2, c2, rfl⟩)
    | (go_at_call 9; (with_reducible refine (h3.out _).mono ?_); rintro e w3 ⟨hb3, a3, c3, rfl⟩)
    | (go_at_call 9; (with_reducible refine (h4.out _).mono ?_); rintro e w4 ⟨hb4, a4, c4, rfl⟩)
    | (go_at_call 9; (with_reducible refine (h5.out _).mono ?_); rintro e w5 ⟨hb5, a5, c5, rfl⟩)
    | (go_at_call 9; (with_reducible refine (h6.out _).mono ?_); rintro e w6 ⟨hb6, a6, c6, rfl⟩)
    | (go_at_call 11; (with_reducible refine (named_any _ (by decide) _).mono ?_); rintro e w7 ⟨hb7, v7, rfl, hown7⟩; obtain ⟨a7, c7, rfl⟩ := own_slice hown7; replace hown7 := Hid.intro hown7)
    | (go_at_call 10; (with_reducible refine (hN.out _ _ _ _ hown7.out).mono ?_); rintro e w8 ⟨hb8, rfl⟩))
  have hb38 := Hid.intro (chain' (chain (chain (chain (chain (Below.refl w3.heap.size w3) hb4) hb5) hb6) hb7) hb8)
  have hbAll := Hid.intro (chain' (chain (chain (chain (chain (chain (chain hb1 hb2) hb3) hb4) hb5) hb6) hb7) hb8)
  have T2 := Hid.intro ((two_below hb3).below hb38.out (two_below hb3).lt)
  have T6 := Hid.intro ((two_below hb7).below hb8 (two_below hb7).lt)
  clear hb1 hb2 hb3 hb4 hb5 hb6 hb7 hb8 hb38 h1 h2 h3 h4 h5 h6 hN hown7
  generalize w2.heap.size = g2 at *
  generalize w6.heap.size = g6 at *
  go_loopw [15, 16] (fun v15 vi wr => ∃ (i : Nat), i ≤ 32 ∧ v15 = .string (deepS i) ∧ vi = .int .i64 (i : Int) ∧ wr = w8) (fun _ vi _ => 32 - (intOf vi).toNat)
  case atStart => exact ⟨0, by omega, rfl, rfl, rfl⟩
  case round =>
    obtain ⟨i, hi, rfl, rfl, rfl⟩ := hrel
    by_cases hlt : i < 32
    · have hsz := deepS_size i
      go_wp2
      all_goals first | omega | skip
      go_roundw
      case rel => exact ⟨i + 1, by omega, rfl, by go_num, trivial⟩
      case measure => simp [intOf]; omega
    · obtain rfl : i = 32 := by omega
      have hsz := deepS_size 32
      clear hi hlt
      go_wp2_with (first
        | (go_at_call 9; (with_reducible refine (h7.out _).mono ?_); rintro e w9 ⟨hb9, a9, c9, rfl⟩)
        | (go_at_call 9; (with_reducible refine (h8.out _).mono ?_); rintro e wa ⟨hba, aa, ca, rfl⟩; have hB := Hid.intro (chain (chain' hbAll.out hb9) hba); have S2 := Hid.intro ((T2.out.below (chain hb9 hba) T2.out.lt).alloc (.cells #[.slice aa 0 ca, .int .u32 0] 25)); have S6 := Hid.intro ((T6.out.below (chain hb9 hba) T6.out.lt).alloc (.cells #[.slice aa 0 ca, .int .u32 0] 25)); obtain ⟨_, x0, x1, _, _⟩ := S2.out; obtain ⟨_, y0, y1, _, _⟩ := S6.out; have hPa := Hid.intro (hPH.out.below hB.out))
        | (go_at_call 12; (with_reducible refine (text_zero _ _ _ (hPa.out.below (below_alloc _ _))).mono ?_); rintro e wb ⟨hbb, rfl⟩; have hB2 := Hid.intro (chain hB.out hbb); obtain ⟨_, z0, z1, _, _⟩ := S6.out.below hbb S6.out.lt)
        | (go_at_call 13; (with_reducible refine (of_any _ _).mono ?_); rintro e wc ⟨rfl, hbc⟩; have hB3 := Hid.intro (chain' hB2.out hbc))
        | (go_at_call 12; (with_reducible refine (text_zero _ _ _ (hPH.out.below hB3.out)).mono ?_); rintro e wd ⟨hbd, rfl⟩; have hB4 := Hid.intro (chain' hB3.out hbd))
        | (go_at_call 11; (with_reducible refine (named_any _ (by decide) _).mono ?_); rintro e we ⟨hbe, v7, rfl, hown7⟩; obtain ⟨a7, c7, rfl⟩ := own_slice hown7; have hB5 := Hid.intro (chain' hB4.out hbe); replace hown7 := Hid.intro hown7)
        | (go_at_call 12; (with_reducible refine (hA.out _ _ _ _ hown7.out (hPH.out.below hB5.out)).mono ?_); rintro e wf ⟨hbf, rfl⟩; have hB6 := Hid.intro (chain' hB5.out hbf))
        | (go_at_call 14; (with_reducible refine (known_any _ (hPH.out.below hB6.out)).mono ?_); rintro e wg ⟨hbg, rfl⟩; have hB7 := Hid.intro (chain' hB6.out hbg)))
      all_goals first | omega | skip
      go_ret
      exact ⟨hB7.out, rfl⟩
end Go.Proofs.YtijdjljnppkhmaaDoor

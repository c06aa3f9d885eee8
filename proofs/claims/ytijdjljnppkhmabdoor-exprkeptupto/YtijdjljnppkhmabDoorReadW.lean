/- The law's read. -/
import Derived.Test.YtijdjljnppkhmabDoorTokW
import Derived.Test.YtijdjljnppkhmabDoorNames2
namespace Go.Proofs.YtijdjljnppkhmabDoor
open Go.ChangeShapes Go.WideShapes Go.ChangeAt Go.RowKit
set_option linter.unusedVariables false
set_option maxRecDepth 100000

def outLin : Except Int Lin → Lin
  | .ok x => x
  | .error _ => ⟨[], 0⟩
def outErr : Except Int Lin → Int
  | .ok _ => 0
  | .error k => k
def scanL : Except Nat (List Tok) → List Tok
  | .ok ts => ts
  | .error _ => []
def scanB : Except Nat (List Tok) → Bool
  | .ok _ => true
  | .error _ => false

/-- a Lin of the call's own, and a number -/
def ROutL (B : Nat) (w' : World) (R : Except Int Lin) (e : Ending) : Prop := ∃ a n c, e = .returned (.tuple #[linV (.slice a n c) (outLin R).const, .int .i64 (outErr R)]) ∧ w'.ownsRow B 30 2 (.slice a n c) (outLin R).terms.length (rowT (outLin R).terms)

theorem parse_all (a : Option Addr) (c : Nat) (ts : List Tok) (w : World) (hT : Toks w a c ts) :
    Calls Tryd.prog 13 #[.slice a ts.length c] w fun e w' => Below w.heap.size w w' ∧ ROutL w.heap.size w' (parseF ts) e :=
  (parse_any a c ts w hT).mono fun e w' h => by
    obtain ⟨h1, h2⟩ := h
    refine ⟨h1, ?_⟩
    cases hp : parseF ts with
    | ok x => rw [hp] at h2; exact h2
    | error k => rw [hp] at h2; exact ⟨none, 0, 0, h2, World.ownsRow_nil _ _ _ _⟩

theorem tokens_all (s : ByteArray) (hs : s.size ≤ 1000000) (w : World) :
    Calls Tryd.prog 7 #[.string s] w fun e w' => Below w.heap.size w w' ∧ ∃ a c a2 c2, e = .returned (.tuple #[.slice a (scanL (scan (bs s) 0)).length c, .slice a2 (scanL (scan (bs s) 0)).length c2, .bool (scanB (scan (bs s) 0))]) ∧ Toks w' a c (scanL (scan (bs s) 0)) ∧
      w'.ownsRow w.heap.size 60 4 (.slice a (scanL (scan (bs s) 0)).length c) (scanL (scan (bs s) 0)).length (rowOf (scanL (scan (bs s) 0))) ∧ w'.ownsRow w.heap.size 59 4 (.slice a2 (scanL (scan (bs s) 0)).length c2) (scanL (scan (bs s) 0)).length (rowOf (scanL (scan (bs s) 0))) :=
  (tokens_law s (by omega) w).mono fun e w' h => by
    obtain ⟨h1, h2⟩ := h
    refine ⟨h1, ?_⟩
    cases hS : scan (bs s) 0 with
    | error p =>
      rw [hS] at h2
      exact ⟨none, 0, none, 0, h2, ⟨.inl rfl, fun x hx => by (cases hx), Nat.le_refl _, by omega, by simp [scanL], by simp [scanL]⟩, World.ownsRow_nil _ _ _ _, World.ownsRow_nil _ _ _ _⟩
    | ok ts =>
      rw [hS] at h2
      obtain ⟨v, v2, rfl, k1, k2⟩ := h2
      obtain ⟨a, c, rfl⟩ := own_slice k1
      obtain ⟨a2, c2, rfl⟩ := own_slice k2
      have hlen := scan_len _ _ _ hS
      rw [bs_length] at hlen
      refine ⟨a, c, a2, c2, rfl, ?_, k1, k2⟩
      have htx := scan_text _ _ _ hS
      rw [bs_length] at htx
      show Toks w' a c ts
      have hsh : ∀ t ∈ ts, t.text.length ≤ 1000000 := fun t ht => Nat.le_trans (htx t ht) hs
      rcases k1.2 with ⟨hv, h0⟩ | ⟨g, cap, cur, hv, hB, hgh, hle, hcap, _⟩
      · injection hv with hv1 hv2 hv3
        subst hv1 hv3
        exact ⟨.inl (List.eq_nil_of_length_eq_zero h0), fun x hx => by (cases hx), by omega, by omega, by omega, hsh⟩
      · injection hv with hv1 hv2 hv3
        subst hv1 hv3
        have hg := (Array.getElem?_eq_some_iff.1 hgh).1
        refine ⟨.inr ⟨g, 0, rfl, hg, fun i t hi => ?_⟩, fun x hx => by (cases hx; exact hg), hle, by unfold maxLen at hcap; omega, by omega, hsh⟩
        rw [Nat.zero_add]
        exact tok_own k1 i t hi

/-- what read answers -/
def readF (s : List UInt8) : Except Int Lin := parseF (scanL (scan s 0))

set_option maxHeartbeats 1000000 in
theorem read_any (s : ByteArray) (hs : s.size ≤ 1000000) (w : World) :
    Calls Tryd.prog 18 #[.string s] w fun e w' => Below w.heap.size w w' ∧ ROutL w.heap.size w' (readF (bs s)) e := by
  unfold readF
  generalize hw0 : w.alloc (.cells #[.slice none 0 0, .int .u32 0] 25) = w0
  have hT := Hid.intro (tokens_all s (by omega) w0)
  have hb0 : Below w.heap.size w w0 := by rw [← hw0]; exact below_alloc _ _
  have t0 : Two w0 w.heap.size 25 (.slice none 0 0) (.int .u32 0) := by rw [← hw0]; exact two_new _ _ _ _
  have hs0 : w0.heap.size = w.heap.size + 1 := by rw [← hw0]; simp
  generalize scan (bs s) 0 = S at *
  generalize scanB S = bb at *
  generalize scanL S = ts at *
  obtain ⟨n, hn⟩ : ∃ n, n = ts.length := ⟨_, rfl⟩
  have hP := Hid.intro (fun a c w1 (h : Toks w1 a c ts) => parse_all a c ts w1 h)
  rw [← hn] at hP
  have hT2 : Hid (Calls Tryd.prog 7 #[.string s] w0 fun e w' => Below w0.heap.size w0 w' ∧ ∃ a c a2 c2, e = .returned (.tuple #[.slice a n c, .slice a2 n c2, .bool bb]) ∧ Toks w' a c ts) :=
    hT.out.mono fun e w' h => by
      obtain ⟨h1, a, c, a2, c2, h2, h3, _⟩ := h
      rw [← hn] at h2
      exact ⟨h1, a, c, a2, c2, h2, h3⟩
  clear hT hn
  generalize parseF ts = R at *
  generalize hx : outLin R = x
  generalize hE : outErr R = E
  go_enter Tryd.func18, Tryd.ntmps18
  go_wp2_with (first
    | (go_at_call 7; (with_reducible refine (hT2.out).mono ?_); rintro e w1 ⟨hb1, a1, c1, a2, c2, rfl, hTk⟩)
    | (go_at_call 13; (with_reducible refine (hP.out _ _ _ hTk).mono ?_); rintro e w2 ⟨hb2, a3, n3, c3, rfl, hown⟩; rw [hx] at hown; rw [hx, hE]; replace hown := Hid.intro hown; have ht4 := Hid.intro ((t0.below hb1 (by omega)).below hb2 (by have := hb1.size; omega)); obtain ⟨_, x0, x1, f0, f1⟩ := ht4.out))
  all_goals first | omega | skip
  obtain ⟨s1, s2⟩ := two_set ht4.out.heap rfl (.slice a3 n3 c3) (.int .u32 x.const)
  generalize ((w2.setCell ⟨w.heap.size, 0, none⟩ (.slice a3 n3 c3)).setCell ⟨w.heap.size, 1, none⟩ (.int .u32 x.const)) = w9 at s1 s2 ⊢
  obtain ⟨_, z0, z1, _, _⟩ := s1
  refine bodyPost_ret (by simp [results, Tryd.results18, go_sem, z0, z1]; try rfl) rfl ?_
  have hs1 := hb1.size
  have hs2 := hb2.size
  refine ⟨((hb0.trans (hb1.mono (by omega))).trans (hb2.mono (by omega))).grown s2 (by omega) (fun k hk => by cases hk; exact Nat.le_refl _), a3, n3, c3, ?_, ?_⟩
  · rw [hx, hE]
  · rw [hx]; exact own_weaken (own_low hown.out s2 (by omega)) (by omega)
end Go.Proofs.YtijdjljnppkhmabDoor

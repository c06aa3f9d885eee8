/- expr.Parse. -/
import Derived.Test.YtijdjljnppkhmabDoorSum
import Derived.Laws.EntriesVeiled
namespace Go.Proofs.YtijdjljnppkhmabDoor
open Go.ChangeShapes Go.WideShapes Go.ChangeAt Go.RowKit
set_option linter.unusedVariables false
set_option maxRecDepth 100000

/-- what Parse answers -/
def ParseOut (w : World) (ts : List Tok) (e : Ending) (w' : World) : Prop := Below w.heap.size w w' ∧
  match parseF ts with
  | .ok x => LinOut w.heap.size w' x e
  | .error k => e = .returned (.tuple #[linZ, .int .i64 k])

/-- tokens that are handed in -/
structure Toks (w : World) (a : Option Addr) (c : Nat) (ts : List Tok) : Prop where
  lies : TokFrom w a ts
  old : ∀ x, a = some x → x.block < w.heap.size
  cap : ts.length ≤ c
  most : c ≤ 9223372036854775807
  few : ts.length ≤ 1100000
  short : ∀ t ∈ ts, t.text.length ≤ 1000000

theorem TokFrom.grown {w w' : World} {a : Option Addr} {ts : List Tok} (h : TokFrom w a ts) (hg : w.grownBy w' none) : TokFrom w' a ts := by
  rcases h with h | ⟨g, o, ha, hgt, hl⟩
  · exact .inl h
  · exact .inr ⟨g, o, ha, Nat.lt_of_lt_of_le hgt hg.size, fun i t hi => (hl i t hi).grown hg (by simp)⟩

set_option maxHeartbeats 1000000 in
theorem parse_any (a : Option Addr) (c : Nat) (ts : List Tok) (w : World) (hT : Toks w a c ts) :
    Calls Tryd.prog 13 #[.slice a ts.length c] w fun e w' => ParseOut w ts e w' := by
  obtain ⟨n0, hn0⟩ : ∃ n0, n0 = ts.length := ⟨_, rfl⟩
  have hR : ∀ o1 o2, Rd (((w.alloc o1).alloc (.cells #[.slice a n0 c] 67)).alloc o2) (w.heap.size + 1) a c ts := fun o1 o2 => by
    have hg1 : w.grownBy ((w.alloc o1).alloc (.cells #[.slice a n0 c] 67)) none := grown_trans (World.grownBy_alloc _ _ _) (World.grownBy_alloc _ _ _)
    have h1 : Rd ((w.alloc o1).alloc (.cells #[.slice a n0 c] 67)) (w.heap.size + 1) a c ts := by
      refine ⟨?_, hT.lies.grown hg1, fun x hx => by have := hT.old x hx; omega, hT.cap, hT.most, hT.few, hT.short⟩
      have := heap_alloc_new (w.alloc o1) (.cells #[.slice a n0 c] 67)
      rw [show (w.alloc o1).heap.size = w.heap.size + 1 by simp] at this
      rw [← hn0]
      exact this
    exact h1.below (below_alloc _ _)
  have hC : ∀ o1 o2, Cap (((w.alloc o1).alloc o2).alloc (.cells #[.func (.func 26) #[] #[.pointer (some ⟨w.heap.size + 1 + 1, 0, none⟩), .pointer (some ⟨w.heap.size + 1, 0, none⟩)]] 68)) (w.heap.size + 1 + 1) (w.heap.size + 1) := fun o1 o2 => by
    refine ⟨?_, by omega, by simp⟩
    have := heap_alloc_new ((w.alloc o1).alloc o2) (.cells #[.func (.func 26) #[] #[.pointer (some ⟨w.heap.size + 1 + 1, 0, none⟩), .pointer (some ⟨w.heap.size + 1, 0, none⟩)]] 68)
    rw [show ((w.alloc o1).alloc o2).heap.size = w.heap.size + 1 + 1 by simp] at this
    rw [cell_of_row _ _ _ _ 68 (0, 0) this]
    rfl
  have hrun : Hid (∀ o1, Calls Tryd.prog 26 #[.int .i64 0, .pointer (some ⟨w.heap.size + 1 + 1, 0, none⟩), .pointer (some ⟨w.heap.size + 1, 0, none⟩)] (((w.alloc o1).alloc (.cells #[.slice a n0 c] 67)).alloc (.cells #[.func (.func 26) #[] #[.pointer (some ⟨w.heap.size + 1 + 1, 0, none⟩), .pointer (some ⟨w.heap.size + 1, 0, none⟩)]] 68)) fun e w' => WOut (((w.alloc o1).alloc (.cells #[.slice a n0 c] 67)).alloc (.cells #[.func (.func 26) #[] #[.pointer (some ⟨w.heap.size + 1 + 1, 0, none⟩), .pointer (some ⟨w.heap.size + 1, 0, none⟩)]] 68)) (w.heap.size + 1) (sumD 33 ts) e w') :=
    fun o1 => sum_all 33 0 (((w.alloc o1).alloc (.cells #[.slice a n0 c] 67)).alloc (.cells #[.func (.func 26) #[] #[.pointer (some ⟨w.heap.size + 1 + 1, 0, none⟩), .pointer (some ⟨w.heap.size + 1, 0, none⟩)]] 68)) (w.heap.size + 1) (w.heap.size + 1 + 1) a c ts rfl (hR _ _) (hC _ _)
  have hb3 := Hid.intro (fun o1 o2 o3 => ((below_alloc w o1).alloc (by simp) o2).alloc (by simp; omega) o3)
  have ht3 := Hid.intro (fun o2 o3 => ((two_new w 25 (.slice none 0 0) (.int .u32 0)).alloc o2).alloc o3)
  rw [← hn0]
  unfold ParseOut parseF
  clear hR hC hT hn0
  cases hS : sumD 33 ts with
  | error k =>
    have hk := (sumD_fine 33).err _ _ hS
    have hkz : (k == 0) = false := by rcases hk with rfl | rfl <;> rfl
    rw [hS] at hrun
    simp only
    clear hS hk
    go_enter Tryd.func13, Tryd.ntmps13
    go_wp2_with (go_at_call 26; (with_reducible refine (hrun.out _).mono ?_); rintro e w1 ⟨hg1, rfl⟩; have ht4 := Hid.intro ((ht3.out _ _).grown hg1 (by simp)); obtain ⟨_, t0, t1, tf0, tf1⟩ := (ht4.out).alloc (.cells #[.slice none 0 0, .int .u32 0] 25))
    all_goals first | omega | skip
    obtain ⟨s1, s2⟩ := two_set (ht4.out.alloc _).heap rfl (.slice none 0 0) (.int .u32 0)
    generalize (((w1.alloc (.cells #[.slice none 0 0, .int .u32 0] 25)).setCell ⟨w.heap.size, 0, none⟩ (.slice none 0 0)).setCell ⟨w.heap.size, 1, none⟩ (.int .u32 0)) = w9 at s1 s2 ⊢
    obtain ⟨_, z0, z1, _, _⟩ := s1
    refine bodyPost_ret (by simp [results, Tryd.results13, go_sem, z0, z1]; try rfl) rfl ?_
    have hs1 := hg1.size
    simp only [World.size_alloc] at hs1
    exact ⟨(((hb3.out _ _ _).grown hg1 (by simp; omega) (fun k hk => by cases hk; omega)).alloc (by omega) _).grown s2 (by simp; omega) (fun k hk => by cases hk; exact Nat.le_refl _), rfl⟩
  | ok p =>
    obtain ⟨x, r⟩ := p
    rw [hS] at hrun
    clear hS
    cases r with
    | nil =>
      simp only
      go_enter Tryd.func13, Tryd.ntmps13
      go_wp2_with (go_at_call 26; (with_reducible refine (hrun.out _).mono ?_); rintro e w1 ⟨hg1, ⟨a1, n1, c1, rfl, hown⟩, a2, c2, hR2⟩; replace hown := Hid.intro hown; have ht4 := Hid.intro ((ht3.out _ _).grown hg1 (by simp)); obtain ⟨_, t0, t1, tf0, tf1⟩ := (ht4.out).alloc (.cells #[.slice a1 n1 c1, .int .u32 x.const] 25); have r0 := (hR2.below (below_alloc w1 (.cells #[.slice a1 n1 c1, .int .u32 x.const] 25))).c0; simp only [List.length_nil] at r0; clear hR2)
      all_goals first | omega | skip
      obtain ⟨s1, s2⟩ := two_set (ht4.out.alloc _).heap rfl (.slice a1 n1 c1) (.int .u32 x.const)
      generalize (((w1.alloc (.cells #[.slice a1 n1 c1, .int .u32 x.const] 25)).setCell ⟨w.heap.size, 0, none⟩ (.slice a1 n1 c1)).setCell ⟨w.heap.size, 1, none⟩ (.int .u32 x.const)) = w9 at s1 s2 ⊢
      obtain ⟨_, z0, z1, _, _⟩ := s1
      refine bodyPost_ret (by simp [results, Tryd.results13, go_sem, z0, z1]; try rfl) rfl ?_
      have hs1 := hg1.size
      simp only [World.size_alloc] at hs1
      have hown2 := hown.out
      simp only [World.size_alloc] at hown2
      exact ⟨(((hb3.out _ _ _).grown hg1 (by simp; omega) (fun k hk => by cases hk; omega)).alloc (by omega) _).grown s2 (by simp; omega) (fun k hk => by cases hk; exact Nat.le_refl _), a1, n1, c1, rfl, own_weaken (own_low (hown2.alloc _) s2 (by omega)) (by omega)⟩
    | cons t r =>
      simp only
      go_enter Tryd.func13, Tryd.ntmps13
      go_wp2_with (go_at_call 26; (with_reducible refine (hrun.out _).mono ?_); rintro e w1 ⟨hg1, ⟨a1, n1, c1, rfl, hown⟩, a2, c2, hR2⟩; clear hown; have ht4 := Hid.intro ((ht3.out _ _).grown hg1 (by simp)); obtain ⟨_, t0, t1, tf0, tf1⟩ := (ht4.out).alloc (.cells #[.slice a1 n1 c1, .int .u32 x.const] 25); have r0 := (hR2.below (below_alloc w1 (.cells #[.slice a1 n1 c1, .int .u32 x.const] 25))).c0; have r1 := hR2.few; simp only [List.length_cons] at r0 r1; clear hR2)
      all_goals first | omega | skip
      obtain ⟨s1, s2⟩ := two_set (ht4.out.alloc _).heap rfl (.slice none 0 0) (.int .u32 0)
      generalize (((w1.alloc (.cells #[.slice a1 n1 c1, .int .u32 x.const] 25)).setCell ⟨w.heap.size, 0, none⟩ (.slice none 0 0)).setCell ⟨w.heap.size, 1, none⟩ (.int .u32 0)) = w9 at s1 s2 ⊢
      obtain ⟨_, z0, z1, _, _⟩ := s1
      refine bodyPost_ret (by simp [results, Tryd.results13, go_sem, z0, z1]; try rfl) rfl ?_
      have hs1 := hg1.size
      simp only [World.size_alloc] at hs1
      exact ⟨(((hb3.out _ _ _).grown hg1 (by simp; omega) (fun k hk => by cases hk; omega)).alloc (by omega) _).grown s2 (by simp; omega) (fun k hk => by cases hk; exact Nat.le_refl _), rfl⟩
end Go.Proofs.YtijdjljnppkhmabDoor

/- The law's same: two lines held against each other. -/
import Derived.Test.YtdmhdhmclcogoaaSame2
import Derived.Test.YtdmhdhmclcogoaaKnown3
namespace Go.Proofs.Ytdmhdhmclcogoaa
open Go.ChangeShapes Go.WideShapes Go.ChangeAt Go.RowKit
set_option linter.unusedVariables false
set_option maxRecDepth 100000

/-- the arguments acc lie from a on -/
def ArgsLie (w : World) (a : Option Addr) (acc : List (List Tok)) : Prop := acc = [] ∨ ∃ G, a = some ⟨G, 0, none⟩ ∧ G < w.heap.size ∧ ∀ (i : Nat) (xs : List Tok), acc[i]? = some xs → ∃ a' c', w.cell? ⟨G, i, none⟩ = some (.slice a' xs.length c') ∧ TokLies w a' xs

theorem ArgsLie.below {w w' : World} {a : Option Addr} {acc : List (List Tok)} (h : ArgsLie w a acc) (hb : Below w.heap.size w w') : ArgsLie w' a acc := by
  rcases h with h | ⟨G, ha, hG, h⟩
  · exact .inl h
  · refine .inr ⟨G, ha, Nat.lt_of_lt_of_le hG hb.size, fun i xs hi => ?_⟩
    obtain ⟨a', c', h1, h2⟩ := h i xs hi
    exact ⟨a', c', by rw [hb.cell (p := ⟨G, i, none⟩) hG]; exact h1, h2.below hb (Nat.le_refl _)⟩

theorem ArgsOwn.lies {T E : TypeId} {lo : Nat} {w : World} {a : Option Addr} {n c : Nat} {acc : List (List Tok)} {vs : List Value} {m : Nat} (h : ArgsOwn T E lo w (.slice a n c) acc vs m) : ArgsLie w a acc := by
  cases acc with
  | nil => exact .inl rfl
  | cons x acc =>
    have hl := h.len
    have hrow := h.row
    obtain ⟨hl', ⟨hv, h0⟩ | ⟨g, cap, cur, hv, hbg, hg, hle, hcap, hsz, htk⟩⟩ := h.row
    · rw [hl] at h0; simp at h0
    · injection hv with hv1 hv2 hv3
      subst hv1
      refine .inr ⟨g, rfl, (Array.getElem?_eq_some_iff.1 hg).1, fun i xs hi => ?_⟩
      have hi' : i < vs.length := by rw [hl]; exact (List.getElem?_eq_some_iff.1 hi).1
      obtain ⟨v, hv⟩ : ∃ v, vs[i]? = some v := ⟨vs[i], List.getElem?_eq_getElem hi'⟩
      obtain ⟨hx0, ho⟩ := h.each i v xs hv hi
      rw [hv2] at hrow
      have hcell := hrow.cellAt i (by omega)
      rw [hv] at hcell
      obtain ⟨a', c', rfl, hl2⟩ := own_lies ho
      exact ⟨a', c', hcell, hl2⟩

theorem TokLies.drewN {w : World} {a : Option Addr} {xs : List Tok} (h : TokLies w a xs) (n : Nat) : TokLies (w.drewN n) a xs := h.below (below_drewN (Below.refl _ w) n) (Nat.le_refl _)

set_option maxHeartbeats 2000000 in
theorem lineSame_eq (l o : ByteArray) (a1 a2 : Option Addr) (c1 c2 : Nat) (acc : List (List Tok)) (w : World) (h1 : ArgsLie w a1 acc) (h2 : ArgsLie w a2 acc) (hm : acc.length ≤ 1100000) (hx : ∀ xs ∈ acc, xs.length ≤ 1100000) :
    Calls Try.prog 9 #[.agg #[.string l, .string o, .slice a1 acc.length c1], .agg #[.string l, .string o, .slice a2 acc.length c2]] w fun e w' => e = .returned (.bool true) ∧ Below w.heap.size w w' := by
  obtain ⟨n0, hn0⟩ : ∃ n0, n0 = acc.length := ⟨_, rfl⟩
  rw [← hn0] at hm ⊢
  have hb0 : Below w.heap.size w ((w.alloc (.cells #[.string l, .string o, .slice a1 n0 c1] 26)).alloc (.cells #[.string l, .string o, .slice a2 n0 c2] 33)) := ((Below.refl _ w).alloc (Nat.le_refl _) _).alloc (by simp) _
  by_cases h0 : n0 = 0
  · subst h0
    clear hn0 h1 h2 hx
    have hb0H := Hid.intro hb0
    clear hb0
    go_enter Try.func9, Try.ntmps9
    go_wp2
    go_loop [5] (fun i => i = .int .i64 0) (fun _ => 0)
    case atStart => rfl
    case round =>
      subst hrel
      go_wp2
      go_ret
      exact ⟨rfl, hb0H.out⟩
  · rcases h1.below hb0 with rfl | ⟨g1, rfl, hg1, hc1⟩
    · simp at hn0; omega
    · rcases h2.below hb0 with rfl | ⟨g2, rfl, hg2, hc2⟩
      · simp at hn0; omega
      · have hH1 := Hid.intro hc1
        have hH2 := Hid.intro hc2
        have hnH := Hid.intro hn0
        clear hc1 hc2 hn0 h1 h2
        have hb0H := Hid.intro hb0
        clear hb0
        go_enter Try.func9, Try.ntmps9
        go_wp2
        have hq := (line_read ((heap_alloc_old (w.alloc (.cells #[.string l, .string o, .slice (some ⟨g1, 0, none⟩) n0 c1] 26)) (.cells #[.string l, .string o, .slice (some ⟨g2, 0, none⟩) n0 c2] 33) (r := w.heap.size) (by simp)).trans (heap_alloc_new w _))).2.2
        have hr := (line_read (heap_alloc_new (w.alloc (.cells #[.string l, .string o, .slice (some ⟨g1, 0, none⟩) n0 c1] 26)) (.cells #[.string l, .string o, .slice (some ⟨g2, 0, none⟩) n0 c2] 33))).2.2
        rw [World.size_alloc] at hr
        generalize ((w.alloc (.cells #[.string l, .string o, .slice (some ⟨g1, 0, none⟩) n0 c1] 26)).alloc (.cells #[.string l, .string o, .slice (some ⟨g2, 0, none⟩) n0 c2] 33)) = W0 at hq hr hH1 hH2 hb0H ⊢
        go_loopw [5] (fun i wr => ∃ k n : Nat, k ≤ n0 ∧ i = .int .i64 k ∧ wr = W0.drewN n) (fun i _ => n0 - (intOf i).toNat)
        case atStart => exact ⟨0, 0, Nat.zero_le _, rfl, rfl⟩
        case round =>
          obtain ⟨k, n, hk, rfl, hwr⟩ := hrel
          have hq' : wr.cell? ⟨w.heap.size, 2, none⟩ = some (.slice (some ⟨g1, 0, none⟩) n0 c1) := by rw [hwr]; exact hq
          have hr' : wr.cell? ⟨w.heap.size + 1, 2, none⟩ = some (.slice (some ⟨g2, 0, none⟩) n0 c2) := by rw [hwr]; exact hr
          by_cases hlt : k < n0
          · obtain ⟨t, ht⟩ : ∃ t, acc[k]? = some t := ⟨acc[k]'(by rw [← hnH.out]; exact hlt), List.getElem?_eq_getElem _⟩
            obtain ⟨x1, d1, q1, hl1⟩ := hH1.out k t ht
            obtain ⟨x2, d2, q2, hl2⟩ := hH2.out k t ht
            have htl := hx t (List.mem_of_getElem? ht)
            clear ht
            have q1' : wr.cell? ⟨g1, k, none⟩ = some (.slice x1 t.length d1) := by rw [hwr]; exact q1
            have q2' : wr.cell? ⟨g2, k, none⟩ = some (.slice x2 t.length d2) := by rw [hwr]; exact q2
            have k1 : Hid (TokLies wr x1 t) := by rw [hwr]; exact hl1.drewN n
            have k2 : Hid (TokLies wr x2 t) := by rw [hwr]; exact hl2.drewN n
            replace hwr := Hid.intro hwr
            clear q1 q2 hl1 hl2
            go_wp2
            go_quiet ((go_at_call 22; exact Calls.quiet_of (sameArg_eq _ _ _ _ _ _ (k1.out.drewN _) (k2.out.drewN _) (by omega))))
            go_wp2
            all_goals first
              | omega
              | skip
            go_roundw
            case rel => exact ⟨k + 1, n + nq, by omega, by go_num, by rw [hwr.out]; simp⟩
            case measure => simp [intOf]; omega
          · replace hwr := Hid.intro hwr
            go_wp2
            all_goals first
              | omega
              | (go_ret; exact ⟨rfl, by rw [hwr.out]; exact below_drewN hb0H.out n⟩)
end Go.Proofs.Ytdmhdhmclcogoaa

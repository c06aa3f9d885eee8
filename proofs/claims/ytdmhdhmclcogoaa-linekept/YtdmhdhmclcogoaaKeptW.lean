/- The walk of LineKept: the arguments that Parse answers are new memory each time. -/
import Derived.Test.YtdmhdhmclcogoaaKept3
namespace Go.Proofs.Ytdmhdhmclcogoaa
open Go.ChangeShapes Go.WideShapes Go.ChangeAt Go.RowKit
set_option linter.unusedVariables false
set_option maxRecDepth 100000

theorem own_raise {w : World} {lo F : Nat} {T : TypeId} {sz : Nat} {v : Value} {n : Nat} {xs : List Value} (h : w.ownsRow lo T sz v n xs) (hF : ∀ k, v.ownBlock = some k → F ≤ k) : w.ownsRow F T sz v n xs := by
  refine ⟨h.1, ?_⟩
  rcases h.2 with hx | ⟨g, cap, cur, rfl, k2, k3⟩
  · exact .inl hx
  · exact .inr ⟨g, cap, cur, rfl, hF g rfl, k3⟩

/-- in a round: j of the arguments are held -/
structure In3 (w0 : World) (B b G n0 c mm j F : Nat) (x y : Value) (acc : List (List Tok)) (vs : List Value) (w : World) : Prop where
  bx : Books G w0 w B (mm + j) F
  len : vs.length = acc.length
  rows : ∀ (t : Nat) (v : Value) (xs : List Tok), j ≤ t → vs[t]? = some v → acc[t]? = some xs → xs.length ≠ 0 ∧ w.ownsRow F 48 4 v xs.length (rowOf xs)
  rise : ∀ (i j : Nat) (v v' : Value) (g g' : Nat), i < j → vs[i]? = some v → vs[j]? = some v' → v.ownBlock = some g → v'.ownBlock = some g' → g < g'
  out : ∃ cur, w.heap[G]? = some (.cells cur 45 (0, 0)) ∧ ∀ t, t < vs.length → cur[t]? = vs[t]?
  box : w.heap[b]? = some (.cells #[x, y, .slice (some ⟨G, 0, none⟩) n0 c] 26 (0, 0))

theorem In3.cell {w0 : World} {B b G n0 c mm j F : Nat} {x y : Value} {acc : List (List Tok)} {vs : List Value} {w : World} (h : In3 w0 B b G n0 c mm j F x y acc vs w) {t : Nat} {v : Value} (hv : vs[t]? = some v) : w.cell? ⟨G, t, none⟩ = some v := by
  obtain ⟨cur, h1, h2⟩ := h.out
  rw [cell_of_row w G t cur 45 (0, 0) h1, h2 t (List.getElem?_eq_some_iff.1 hv).1]
  exact hv

theorem In3.next {w0 : World} {B b G n0 c mm j F g : Nat} {x y : Value} {acc : List (List Tok)} {vs : List Value} {w w' : World} (h : In3 w0 B b G n0 c mm j F x y acc vs w) {v : Value} (hv : vs[j]? = some v) (hg : v.ownBlock = some g)
    (hb : Books G w0 w' B (mm + j + 1) (g + 1)) (hk : K5 w w') (hG : w'.heap[G]? = w.heap[G]?) : In3 w0 B b G n0 c mm (j + 1) (g + 1) x y acc vs w' := by
  refine ⟨hb, h.len, fun t u xs ht hu hx => ?_, h.rise, ?_, ?_⟩
  · obtain ⟨k0, k1⟩ := h.rows t u xs (by omega) hu hx
    refine ⟨k0, own_raise ?_ (fun k hk => ?_) (lo := F)⟩
    · refine ⟨k1.1, ?_⟩
      rcases k1.2 with hx | ⟨g', cap, cur, e1, e2, e3, e4⟩
      · exact .inl hx
      · exact .inr ⟨g', cap, cur, e1, e2, by rw [hk g' cur 48 (by decide) (by decide) e3]; exact e3, e4⟩
    · have := h.rise j t v u g k (by omega) hv hu hg hk
      omega
  · obtain ⟨cur, h1, h2⟩ := h.out
    exact ⟨cur, by rw [hG]; exact h1, h2⟩
  · rw [hk b _ 26 (by decide) (by decide) h.box]
    exact h.box

theorem In3.start {w0 w w1 : World} {B n0 c mm G : Nat} {lab op : Value} {acc : List (List Tok)} {vs : List Value} {m : Nat} (h : Books0 w0 w B mm) (hb1 : Below w.heap.size w w1) (hA : ArgsOwn 45 48 w.heap.size w1 (.slice (some ⟨G, 0, none⟩) n0 c) acc vs m) (hn : n0 = acc.length) :
    In3 w0 B w1.heap.size G n0 c mm 0 w.heap.size lab op acc vs (w1.alloc (.cells #[lab, op, .slice (some ⟨G, 0, none⟩) n0 c] 26)) := by
  have hG := hA.row.lt G rfl
  have hbb : Below w.heap.size w (w1.alloc (.cells #[lab, op, .slice (some ⟨G, 0, none⟩) n0 c] 26)) := hb1.alloc hb1.size _
  have hA' := hA.below (below_alloc w1 (.cells #[lab, op, .slice (some ⟨G, 0, none⟩) n0 c] 26))
  refine ⟨h.more hbb hG.1 (by simp; omega), hA.len, fun t v xs _ hv hx => hA'.each t v xs hv hx, hA.rise, ?_, heap_alloc_new w1 _⟩
  rcases hA'.row.2 with ⟨e, _⟩ | ⟨g, cap, cur, e1, e2, e3, e4, e5, e6, e7⟩
  · cases e
  · injection e1 with e1 e1'
    injection e1 with e1
    injection e1 with e1
    subst e1
    refine ⟨cur, e3, fun t ht => ?_⟩
    rw [← e7]
    simp [ht]

theorem args_some {lo : Nat} {w : World} {a : Option Addr} {n0 c : Nat} {acc : List (List Tok)} {vs : List Value} {m : Nat} (h : ArgsOwn 45 48 lo w (.slice a n0 c) acc vs m) (hn : n0 = acc.length) (h0 : n0 ≠ 0) : ∃ G, a = some ⟨G, 0, none⟩ := by
  rcases h.row.2 with ⟨e, e2⟩ | ⟨g, cap, cur, e1, _⟩
  · have := h.len; omega
  · injection e1 with e1
    exact ⟨g, e1⟩

theorem own_some {w : World} {F n : Nat} {v : Value} {xs : List Value} (h : w.ownsRow F 48 4 v n xs) (h0 : n ≠ 0) : ∃ g cap, v = .slice (some ⟨g, 0, none⟩) n cap := by
  rcases h.2 with ⟨_, e⟩ | ⟨g, cap, cur, e, _⟩
  · exact absurd e h0
  · exact ⟨g, cap, e⟩

theorem kept_none (s : ByteArray) (hs : s.size ≤ maxLen) (w : World) (lab op : ByteArray) (p q : Int)
    (hP : ∀ w, Calls Try.prog 8 #[.string (fewS s 500)] w fun e w' => Below w.heap.size w w' ∧ ∃ a c, e = .returned (.tuple #[.agg #[.string lab, .string op, .slice a 0 c], .int .i64 p, .int .i64 q])) :
    Calls Try.prog 7 #[.string s] w fun e w' => e = .returned (.bool true) ∧ Below w.heap.size w w' := by
  unfold maxLen at hs
  have hf1 : ∀ w, Calls Try.prog 12 #[.string s, .int .i64 500] w fun e w' => e = .returned (.string (fewS s 500)) ∧ w' = w := fun w => few_big s 500 (by omega) (by omega) w
  generalize fewS s 500 = s1 at hf1 hP
  have hF1 := Hid.intro hf1
  have hT := Hid.intro hP
  clear hf1 hP
  have hB0 : Hid (Below (w.heap.size + 1) (w.alloc (.cells #[.slice none 0 0, .slice none 0 0, .int .i64 0, .bool false] 51)) (w.alloc (.cells #[.slice none 0 0, .slice none 0 0, .int .i64 0, .bool false] 51))) := Below.refl _ _
  go_enter Try.func7, Try.ntmps7
  go_wp2_with (go_at_call 12; with_reducible refine (hF1.out _).mono ?_; rintro e w' ⟨rfl, rfl⟩)
  go_loopw [4] (fun i wr => ∃ k : Nat, k ≤ 2 ∧ i = .int .i64 k ∧ Hid (Below (w'.heap.size + 1) (w'.alloc (.cells #[.slice none 0 0, .slice none 0 0, .int .i64 0, .bool false] 51)) wr)) (fun i _ => 2 - (intOf i).toNat)
  case atStart => exact ⟨0, by omega, rfl, hB0⟩
  case round =>
    obtain ⟨k, hk, rfl, hB⟩ := hrel
    clear hB0
    have hsz : w'.heap.size + 1 ≤ wr.heap.size := by have := hB.out.size; simpa using this
    by_cases hlt : k < 2
    · go_wp2_with (go_at_call 8; with_reducible refine (hT.out _).mono ?_; rintro e w1 ⟨hb1, a1, c1, rfl⟩)
      all_goals first
        | omega
        | skip
      go_loop [8] (fun i => i = .int .i64 0) (fun _ => 0)
      case atStart => rfl
      case round =>
        subst hrel
        go_wp2
        go_roundw
        case rel => exact ⟨k + 1, by omega, by go_num, Hid.intro ((hB.out.trans (hb1.mono hsz)).alloc (by have := hb1.size; omega) _)⟩
        case measure => simp [intOf]; omega
    · have e : k = 2 := by omega
      subst e
      have hh : wr.heap[w'.heap.size]? = some (.cells #[.slice none 0 0, .slice none 0 0, .int .i64 0, .bool false] 51 (0, 0)) := by rw [hB.out.block w'.heap.size (by omega)]; exact heap_alloc_new w' _
      have hAp := Hid.intro (apart_none w'.heap.size wr (by rw [cell_of_row _ _ _ _ _ _ hh]; rfl) (by rw [cell_of_row _ _ _ _ _ _ hh]; rfl) (by rw [cell_of_row _ _ _ _ _ _ hh]; rfl) (by rw [cell_of_row _ _ _ _ _ _ hh]; rfl) (frozen_of_row _ _ _ _ _ hh) (frozen_of_row _ _ _ _ _ hh) (frozen_of_row _ _ _ _ _ hh))
      clear hh
      go_wp2_with (first
        | (go_at_call 17; refine (hAp.out).mono ?_; rintro e w5 ⟨rfl, hb5⟩)
        | (go_at_call 11; refine (known_any _).mono ?_; rintro e w6 ⟨rfl, hb6⟩))
      go_ret
      have k1 : Below w'.heap.size w' wr := (below_alloc w' _).trans (hB.out.mono (by omega))
      exact ⟨rfl, (k1.trans hb5).trans (hb6.mono (k1.trans hb5).size)⟩

set_option maxHeartbeats 2000000 in
theorem kept_some (s : ByteArray) (hs : s.size ≤ maxLen) (w : World) (L : Ln) (hp : parseL (bs (fewS s 500)) = .ok L) (h0 : L.args ≠ []) :
    Calls Try.prog 7 #[.string s] w fun e w' => e = .returned (.bool true) ∧ Below w.heap.size w w' := by
  unfold maxLen at hs
  have hf1 : ∀ w, Calls Try.prog 12 #[.string s, .int .i64 500] w fun e w' => e = .returned (.string (fewS s 500)) ∧ w' = w := fun w => few_big s 500 (by omega) (by omega) w
  have z1 := fewS_size s 500
  generalize fewS s 500 = s1 at hf1 hp z1
  have hfew := parseL_few _ _ hp
  rw [bs_length] at hfew
  have hF1 := Hid.intro hf1
  have hT := Hid.intro (fun w => parse_line s1 (by omega) L hp w)
  clear hf1 hp
  obtain ⟨lab, op, acc⟩ := L
  simp only at hT hfew h0
  have hxm : ∀ xs ∈ acc, xs.length ≤ 1000 := fun xs hx => by have := hfew.2 xs hx; omega
  obtain ⟨n0, hn0⟩ : ∃ n0, n0 = acc.length := ⟨_, rfl⟩
  rw [← hn0] at hT hfew
  have hn1 : n0 ≠ 0 := fun e => h0 (List.eq_nil_of_length_eq_zero (by omega))
  have hn2 : n0 ≤ 501 := by omega
  have hnH := Hid.intro hn0
  clear hn0 h0 hfew
  have hB0 := Hid.intro (Books0.start w)
  go_enter Try.func7, Try.ntmps7
  go_wp2_with (go_at_call 12; with_reducible refine (hF1.out _).mono ?_; rintro e w' ⟨rfl, rfl⟩)
  go_loopw [4] (fun i wr => ∃ k : Nat, k ≤ 2 ∧ i = .int .i64 k ∧ Hid (Books0 w' wr w'.heap.size (k * n0))) (fun i _ => 2 - (intOf i).toNat)
  case atStart => exact ⟨0, by omega, rfl, by rw [Nat.zero_mul]; exact hB0⟩
  case round =>
    obtain ⟨k, hk, rfl, hB⟩ := hrel
    clear hB0
    by_cases hlt : k < 2
    · have hmm : k * n0 ≤ 501 := by
        have : k = 0 ∨ k = 1 := by omega
        rcases this with rfl | rfl <;> omega
      go_wp2_with (go_at_call 8; with_reducible refine (hT.out _).mono ?_; rintro e w1 ⟨hb1, a1, c1, vs, m, rfl, hA⟩; obtain ⟨G, rfl⟩ := args_some hA hnH.out hn1; have hI := Hid.intro (In3.start (lab := .string (str lab)) (op := .string (str op)) hB.out hb1 hA hnH.out); clear hA hb1)
      all_goals first
        | omega
        | skip
      obtain ⟨mm, hmmE⟩ : ∃ mm, mm = k * n0 := ⟨_, rfl⟩
      rw [← hmmE] at hI hmm
      have hmmH := Hid.intro hmmE
      clear hmmE hB
      generalize (w1.alloc (.cells #[.string (str lab), .string (str op), .slice (some ⟨G, 0, none⟩) n0 c1] 26)) = W0 at hI ⊢
      generalize w1.heap.size = b at hI ⊢
      have hst : Hid (∃ F, In3 w' w'.heap.size b G n0 c1 mm 0 F (.string (str lab)) (.string (str op)) acc vs W0) := ⟨_, hI.out⟩
      clear hI
      go_loopw [8] (fun vj wx => ∃ j : Nat, j ≤ n0 ∧ vj = .int .i64 (j : Int) ∧ Hid (∃ F, In3 w' w'.heap.size b G n0 c1 mm j F (.string (str lab)) (.string (str op)) acc vs wx)) (fun vj _ => n0 - (intOf vj).toNat)
      case atStart => exact ⟨0, Nat.zero_le _, rfl, hst⟩
      case round =>
        clear hst
        obtain ⟨j, hj, rfl, hI⟩ := hrel
        obtain ⟨F, hI⟩ := hI.out
        have q2 := (line_read hI.box).2.2
        by_cases hjl : j < n0
        · obtain ⟨xs, hxs⟩ : ∃ xs, acc[j]? = some xs := ⟨acc[j]'(by rw [← hnH.out]; exact hjl), List.getElem?_eq_getElem _⟩
          obtain ⟨v, hv⟩ : ∃ v, vs[j]? = some v := ⟨vs[j]'(by rw [hI.len, ← hnH.out]; exact hjl), List.getElem?_eq_getElem _⟩
          obtain ⟨hx0, hrow⟩ := hI.rows j v xs (Nat.le_refl _) hv hxs
          have hxl := hxm xs (List.mem_of_getElem? hxs)
          have qc := hI.cell hv
          obtain ⟨g, cap, rfl⟩ := own_some hrow hx0
          have hK := Hid.intro (keep_books hI.bx (by omega) hrow hxl)
          have hnx := Hid.intro (fun (w2 : World) => In3.next (g := g) (w' := w2) hI hv rfl)
          clear hI hrow hxs hv
          have i1 : (j : Int) < (n0 : Int) := by omega
          go_wp2_with (go_at_call 16; refine (hK.out).mono ?_; rintro e w2 ⟨rfl, hB2, k52, hG2, hb2⟩; have hN := Hid.intro (hnx.out w2 hB2 k52 hG2); clear hB2 k52 hG2 hb2)
          all_goals first | omega | skip
          go_roundw
          case rel => exact ⟨j + 1, by omega, by go_num, ⟨_, hN.out⟩⟩
          case measure => simp [intOf]; omega
        · have e : j = n0 := by omega
          have hB2 : Hid (Books0 w' wr w'.heap.size ((k + 1) * n0)) := by
            have := hI.bx.any
            rw [e, hmmH.out, ← Nat.succ_mul] at this
            exact this
          clear hI e
          go_wp2
          all_goals first | omega | skip
          go_roundw
          case rel => exact ⟨k + 1, by omega, by go_num, hB2⟩
          case measure => simp [intOf]; omega
    · have e : k = 2 := by omega
      subst e
      go_wp2_with (first
        | (go_at_call 17; refine (apart_books hB.out (by omega) (by omega)).mono ?_; rintro e w5 ⟨rfl, hb5⟩)
        | (go_at_call 11; refine (known_any _).mono ?_; rintro e w6 ⟨rfl, hb6⟩))
      go_ret
      exact ⟨rfl, hb5.trans (hb6.mono hb5.size)⟩

theorem lineKept_walk (s : ByteArray) (hs : s.size ≤ maxLen) (w : World) :
    Calls Try.prog 7 #[.string s] w fun e w' => e = .returned (.bool true) ∧ Below w.heap.size w w' := by
  have z1 := fewS_size s 500
  cases hp : parseL (bs (fewS s 500)) with
  | error p =>
    refine kept_none s hs w ⟨#[]⟩ ⟨#[]⟩ p 20 (fun w => (parse_err _ (by omega) p hp w).mono ?_)
    rintro e w' ⟨hb, rfl⟩
    exact ⟨hb, none, 0, rfl⟩
  | ok L =>
    by_cases h0 : L.args = []
    · refine kept_none s hs w (str L.label) (str L.op) 0 0 (fun w => (parse_line _ (by omega) L hp w).mono ?_)
      rintro e w' ⟨hb, a, c, vs, m, rfl, hA⟩
      refine ⟨hb, a, c, ?_⟩
      rw [h0]
      rfl
    · exact kept_some s hs w L hp h0
end Go.Proofs.Ytdmhdhmclcogoaa

/- The walk of LineSpaced. -/
import Derived.Test.YtdmhdhmclcogoaaSpacM
import Derived.Test.YtdmhdhmclcogoaaSameL
import Derived.Test.YtdmhdhmclcogoaaPlaceM
namespace Go.Proofs.Ytdmhdhmclcogoaa
open Go.ChangeShapes Go.WideShapes Go.ChangeAt Go.RowKit
set_option linter.unusedVariables false
set_option maxRecDepth 100000

theorem bs_spaced (s t : ByteArray) : bs (((⟨#[9, 32, 32]⟩ : ByteArray) ++ s) ++ ⟨#[32, 59]⟩ ++ t) = (9 : UInt8) :: (32 : UInt8) :: (32 : UInt8) :: (bs s ++ (32 : UInt8) :: (59 : UInt8) :: bs t) := by
  simp [bs]

theorem spaced_adds (s1 t1 : ByteArray) (z1 : s1.size ≤ 500) (z2 : t1.size ≤ 100) :
    ((⟨#[9, 32, 32]⟩ : ByteArray) ++ s1 ++ ⟨#[32, 59]⟩ ++ t1).size ≤ 1100000 ∧
    (∀ W : World, (Op.stringOp .add ⟨#[9, 32, 32]⟩ s1).run Try.prog W = .ok (.string (⟨#[9, 32, 32]⟩ ++ s1)) W) ∧
    (∀ W : World, (Op.stringOp .add (⟨#[9, 32, 32]⟩ ++ s1) ⟨#[32, 59]⟩).run Try.prog W = .ok (.string (⟨#[9, 32, 32]⟩ ++ s1 ++ ⟨#[32, 59]⟩)) W) ∧
    (∀ W : World, (Op.stringOp .add (⟨#[9, 32, 32]⟩ ++ s1 ++ ⟨#[32, 59]⟩) t1).run Try.prog W = .ok (.string (⟨#[9, 32, 32]⟩ ++ s1 ++ ⟨#[32, 59]⟩ ++ t1)) W) := by
  have e1 : (⟨#[9, 32, 32]⟩ : ByteArray).size = 3 := rfl
  have e2 : (⟨#[32, 59]⟩ : ByteArray).size = 2 := rfl
  have y1 : ((⟨#[9, 32, 32]⟩ : ByteArray) ++ s1).size ≤ 503 := by rw [ByteArray.size_append, e1]; omega
  have y2 : ((⟨#[9, 32, 32]⟩ : ByteArray) ++ s1 ++ ⟨#[32, 59]⟩).size ≤ 505 := by rw [ByteArray.size_append, e2]; omega
  have y3 : ((⟨#[9, 32, 32]⟩ : ByteArray) ++ s1 ++ ⟨#[32, 59]⟩ ++ t1).size ≤ 605 := by rw [ByteArray.size_append]; omega
  exact ⟨by omega, fun W => run_string_add_sum W _ _ (by rw [e1]; omega), fun W => run_string_add_sum W _ _ (by rw [e2]; omega), fun W => run_string_add_sum W _ _ (by omega)⟩

theorem spaced_bad (s t : ByteArray) (hs : s.size ≤ maxLen) (ht : t.size ≤ maxLen) (p : Nat) (hp : parseL (bs (fewS s 500)) = .error p) (w : World) :
    Calls Try.prog 6 #[.string s, .string t] w fun e w' => e = .returned (.bool true) ∧ Below w.heap.size w w' := by
  unfold maxLen at hs ht
  have hf1 : ∀ w, Calls Try.prog 12 #[.string s, .int .i64 500] w fun e w' => e = .returned (.string (fewS s 500)) ∧ w' = w := fun w => few_big s 500 (by omega) (by omega) w
  have hf2 : ∀ w, Calls Try.prog 12 #[.string t, .int .i64 100] w fun e w' => e = .returned (.string (fewS t 100)) ∧ w' = w := fun w => few_big t 100 (by omega) (by omega) w
  have z1 := fewS_size s 500
  have z2 := fewS_size t 100
  obtain ⟨s1, hs1⟩ : ∃ s1, s1 = fewS s 500 := ⟨_, rfl⟩
  obtain ⟨t1, ht1⟩ : ∃ t1, t1 = fewS t 100 := ⟨_, rfl⟩
  rw [← hs1] at hf1 z1 hp
  rw [← ht1] at hf2 z2
  clear hs1 ht1
  have hrel := parse_spaced (bs s1) (bs t1)
  rw [hp, ← bs_spaced] at hrel
  obtain ⟨hlen, ha1, ha2, ha3⟩ := spaced_adds s1 t1 z1 z2
  cases hq : parseL (bs (((⟨#[9, 32, 32]⟩ : ByteArray) ++ s1) ++ ⟨#[32, 59]⟩ ++ t1)) with
  | ok L => rw [hq] at hrel; exact hrel.elim
  | error q =>
    rw [hq] at hrel
    have hrel : q = p + 3 ∨ (p = s1.size ∧ q = s1.size + (t1.size + 5)) := by
      have : q = p + 3 ∨ (p = (bs s1).length ∧ q = (bs s1).length + ((bs t1).length + 5)) := hrel
      rwa [bs_length, bs_length] at this
    have hF1 := Hid.intro hf1
    have hF2 := Hid.intro hf2
    have hP1 := Hid.intro (fun w => parse_err s1 (by omega) p hp w)
    have hP2 := Hid.intro (fun w => parse_err _ hlen q hq w)
    have hpl : p ≤ 500 := by
      have := parseL_place _ _ hp
      rw [bs_length] at this
      omega
    clear hf1 hf2 hp hq
    rcases hrel with hrel | ⟨hr1, hr2⟩
    · have hw : wrap64 ((p : Int) + 3) = (p : Int) + 3 := by unfold wrap64; omega
      have hc : ((q : Int) == (p : Int) + 3) = true := by simp; omega
      clear hrel
      go_enter Try.func6, Try.ntmps6
      go_wp2_with (first
        | (go_at_call 12; with_reducible refine (hF1.out _).mono ?_; rintro e w' ⟨rfl, rfl⟩)
        | (go_at_call 12; with_reducible refine (hF2.out _).mono ?_; rintro e w' ⟨rfl, rfl⟩)
        | (go_at_call 8; with_reducible refine (hP1.out _).mono ?_; rintro e w1 ⟨hb1, rfl⟩)
        | (go_at_call 8; with_reducible refine (hP2.out _).mono ?_; rintro e w2 ⟨hb2, rfl⟩)
        | (go_at_call 11; refine (known_any _).mono ?_; rintro e w3 ⟨rfl, hb3⟩))
      go_ret
      have k1 := bel_step ⟨hb1, hb1.size⟩ (one_below hb2)
      exact ⟨rfl, (bel_step k1 (one_below hb3)).1⟩
    · subst hr1
      have hw : wrap64 ((s1.size : Int) + 3) = (s1.size : Int) + 3 := by unfold wrap64; omega
      have hc : ((q : Int) == (s1.size : Int) + 3) = false := by simp; omega
      have hc3 : (s1.size : Int) < (q : Int) := by omega
      clear hr2
      go_enter Try.func6, Try.ntmps6
      go_wp2_with (first
        | (go_at_call 12; with_reducible refine (hF1.out _).mono ?_; rintro e w' ⟨rfl, rfl⟩)
        | (go_at_call 12; with_reducible refine (hF2.out _).mono ?_; rintro e w' ⟨rfl, rfl⟩)
        | (go_at_call 8; with_reducible refine (hP1.out _).mono ?_; rintro e w1 ⟨hb1, rfl⟩)
        | (go_at_call 8; with_reducible refine (hP2.out _).mono ?_; rintro e w2 ⟨hb2, rfl⟩)
        | (go_at_call 11; refine (known_any _).mono ?_; rintro e w3 ⟨rfl, hb3⟩))
      go_ret
      have k1 := bel_step ⟨hb1, hb1.size⟩ (one_below hb2)
      exact ⟨rfl, (bel_step k1 (one_below hb3)).1⟩

/-- a line in a block of its own -/
def LineBox (w : World) (b : Nat) (x y z : Value) : Prop := b < w.heap.size ∧ w.cell? ⟨b, 0, none⟩ = some x ∧ w.cell? ⟨b, 1, none⟩ = some y ∧ w.cell? ⟨b, 2, none⟩ = some z

theorem LineBox.below {w w' : World} {b : Nat} {x y z : Value} (h : LineBox w b x y z) (hb : Below w.heap.size w w') : LineBox w' b x y z :=
  ⟨Nat.lt_of_lt_of_le h.1 hb.size, by rw [hb.cell (p := ⟨b, 0, none⟩) h.1]; exact h.2.1, by rw [hb.cell (p := ⟨b, 1, none⟩) h.1]; exact h.2.2.1, by rw [hb.cell (p := ⟨b, 2, none⟩) h.1]; exact h.2.2.2⟩

theorem lineBox_new (w : World) (T : TypeId) (x y z : Value) : LineBox (w.alloc (.cells #[x, y, z] T)) w.heap.size x y z := ⟨by simp, line_read (heap_alloc_new w _)⟩

theorem spaced_ok (s t : ByteArray) (hs : s.size ≤ maxLen) (ht : t.size ≤ maxLen) (L : Ln) (hp : parseL (bs (fewS s 500)) = .ok L) (w : World) :
    Calls Try.prog 6 #[.string s, .string t] w fun e w' => e = .returned (.bool true) ∧ Below w.heap.size w w' := by
  unfold maxLen at hs ht
  have hf1 : ∀ w, Calls Try.prog 12 #[.string s, .int .i64 500] w fun e w' => e = .returned (.string (fewS s 500)) ∧ w' = w := fun w => few_big s 500 (by omega) (by omega) w
  have hf2 : ∀ w, Calls Try.prog 12 #[.string t, .int .i64 100] w fun e w' => e = .returned (.string (fewS t 100)) ∧ w' = w := fun w => few_big t 100 (by omega) (by omega) w
  have z1 := fewS_size s 500
  have z2 := fewS_size t 100
  obtain ⟨s1, hs1⟩ : ∃ s1, s1 = fewS s 500 := ⟨_, rfl⟩
  obtain ⟨t1, ht1⟩ : ∃ t1, t1 = fewS t 100 := ⟨_, rfl⟩
  rw [← hs1] at hf1 z1 hp
  rw [← ht1] at hf2 z2
  clear hs1 ht1
  have hrel := parse_spaced (bs s1) (bs t1)
  rw [hp, ← bs_spaced] at hrel
  obtain ⟨hlen, ha1, ha2, ha3⟩ := spaced_adds s1 t1 z1 z2
  cases hq : parseL (bs (((⟨#[9, 32, 32]⟩ : ByteArray) ++ s1) ++ ⟨#[32, 59]⟩ ++ t1)) with
  | error q => rw [hq] at hrel; exact hrel.elim
  | ok M =>
    rw [hq] at hrel
    have hM : M = ⟨L.label, L.op, L.args.map (List.map (sh 3))⟩ := hrel
    subst hM
    have hF1 := Hid.intro hf1
    have hF2 := Hid.intro hf2
    have hP1 := Hid.intro (fun w => parse_line s1 (by omega) L hp w)
    have hP2 := Hid.intro (fun w => parse_line _ hlen _ hq w)
    have hfew := parseL_few _ _ hp
    rw [bs_length] at hfew
    have hplc := parseL_mem _ _ hp
    rw [bs_length] at hplc
    obtain ⟨lab, op, acc⟩ := L
    simp only at hfew
    simp only [List.length_map] at hP1 hP2
    obtain ⟨n0, hn0⟩ : ∃ n0, n0 = acc.length := ⟨_, rfl⟩
    rw [← hn0] at hP1 hP2
    have hbd : n0 ≤ 1100000 ∧ ∀ xs ∈ acc, xs.length ≤ 1100000 := ⟨by omega, fun xs hx => by have := hfew.2 xs hx; omega⟩
    have hnH := Hid.intro hn0
    have hplH : Hid (∀ xs ∈ acc, ∀ t ∈ xs, t.place ≤ 500) := fun xs hx t ht => by have := hplc xs hx t ht; omega
    clear hplc
    obtain ⟨hn1, hx⟩ := hbd
    clear hf1 hf2 hp hq hrel hn0 hfew
    go_enter Try.func6, Try.ntmps6
    go_wp2_with (first
      | (go_at_call 12; with_reducible refine (hF1.out _).mono ?_; rintro e w' ⟨rfl, rfl⟩)
      | (go_at_call 12; with_reducible refine (hF2.out _).mono ?_; rintro e w' ⟨rfl, rfl⟩)
      | (go_at_call 8; with_reducible refine (hP1.out _).mono ?_; rintro e w1 ⟨hb1, a1, c1, vs1, m1, rfl, hA1⟩; replace hA1 := Hid.intro hA1)
      | (go_at_call 8; with_reducible refine (hP2.out _).mono ?_; rintro e w2 ⟨hb2, a2, c2, vs2, m2, rfl, hA2⟩; replace hA2 := Hid.intro hA2; obtain ⟨k0, k1, k2⟩ := lineBox_below hb2; replace k0 := cellA k0; replace k1 := cellA k1; replace k2 := cellA k2)
      | (go_at_call 11; refine (known_any _).mono ?_; rintro e w3 ⟨rfl, hb3⟩))
    have B1 : LineBox (w2.alloc (.cells #[.string (str lab), .string (str op), .slice a2 n0 c2] 26)) w1.heap.size (.string (str lab)) (.string (str op)) (.slice a1 n0 c1) := ((lineBox_new w1 26 _ _ _).below hb2).below (below_alloc w2 _)
    have B2 : LineBox (w2.alloc (.cells #[.string (str lab), .string (str op), .slice a2 n0 c2] 26)) w2.heap.size (.string (str lab)) (.string (str op)) (.slice a2 n0 c2) := lineBox_new w2 26 _ _ _
    have L1 : ArgsLie (w2.alloc (.cells #[.string (str lab), .string (str op), .slice a2 n0 c2] 26)) a1 acc := (hA1.out.lies.below (one_below hb2)).below (below_alloc w2 _)
    have L2 : ArgsLie (w2.alloc (.cells #[.string (str lab), .string (str op), .slice a2 n0 c2] 26)) a2 (acc.map (List.map (sh 3))) := hA2.out.lies.below (below_alloc w2 _)
    have hne0 : Hid (∀ (i : Nat) (xs : List Tok), acc[i]? = some xs → xs.length ≠ 0) := fun i xs hi => by
      have hl := hA1.out.len
      obtain ⟨v, hv⟩ : ∃ v, vs1[i]? = some v := ⟨vs1[i]'(by rw [hl]; exact (List.getElem?_eq_some_iff.1 hi).1), List.getElem?_eq_getElem _⟩
      exact (hA1.out.each i v xs hv hi).1
    have hbW : Below w'.heap.size w' (w2.alloc (.cells #[.string (str lab), .string (str op), .slice a2 n0 c2] 26)) := ((bel_step ⟨hb1, hb1.size⟩ (one_below hb2)).1).alloc (bel_step ⟨hb1, hb1.size⟩ (one_below hb2)).2 _
    clear k0 k1 k2 hA1 hA2
    generalize (w2.alloc (.cells #[.string (str lab), .string (str op), .slice a2 n0 c2] 26)) = W0 at B1 B2 L1 L2 hbW ⊢
    generalize w1.heap.size = b1 at B1 ⊢
    generalize w2.heap.size = b2 at B2 ⊢
    clear hb1 hb2 hP1 hP2 hF1 hF2 ha1 ha2 ha3 hlen z1 z2 hs ht
    have hbWH := Hid.intro hbW
    clear hbW
    by_cases h0 : n0 = 0
    · subst h0
      obtain ⟨_, _, _, q1⟩ := B1
      obtain ⟨_, _, _, q2⟩ := B2
      clear L1 L2 hnH
      go_loop [11] (fun i => i = .int .i64 0) (fun _ => 0)
      case atStart => rfl
      case round =>
        subst hrel
        go_wp2_with (go_at_call 11; refine (known_any _).mono ?_; rintro e w3 ⟨rfl, hb3⟩)
        go_ret
        exact ⟨rfl, hbWH.out.trans (hb3.mono hbWH.out.size)⟩
    · rcases L1 with hL | ⟨G1, rfl, hG1, L1⟩
      · have := hnH.out; rw [hL] at this; simp at this; omega
      rcases L2 with hL | ⟨G2, rfl, hG2, L2⟩
      · have := hnH.out
        have h2 := congrArg List.length hL
        simp at h2
        rw [h2] at this
        simp at this
        omega
      have hL1 := Hid.intro L1
      have hL2 := Hid.intro L2
      have hB1 := Hid.intro B1
      have hB2 := Hid.intro B2
      clear L1 L2 B1 B2
      go_loopw [11] (fun vi wr => ∃ i : Nat, i ≤ n0 ∧ vi = .int .i64 (i : Int) ∧ Hid (Below W0.heap.size W0 wr)) (fun vi _ => n0 - (intOf vi).toNat)
      case atStart => exact ⟨0, Nat.zero_le _, rfl, Hid.intro (Below.refl _ _)⟩
      case round =>
        obtain ⟨i, hi, rfl, hbr⟩ := hrel
        obtain ⟨_, _, _, q1⟩ := hB1.out.below hbr.out
        obtain ⟨_, _, _, q2⟩ := hB2.out.below hbr.out
        by_cases hlt : i < n0
        · obtain ⟨xs, hxs⟩ : ∃ xs, acc[i]? = some xs := ⟨acc[i]'(by rw [← hnH.out]; exact hlt), List.getElem?_eq_getElem _⟩
          have hm0 := hne0.out i xs hxs
          have hmx := hx xs (List.mem_of_getElem? hxs)
          have hplx := Hid.intro (hplH.out xs (List.mem_of_getElem? hxs))
          obtain ⟨x1, d1, p1, t1⟩ := hL1.out i xs hxs
          obtain ⟨x2, d2, p2, t2⟩ := hL2.out i (xs.map (sh 3)) (by rw [List.getElem?_map, hxs]; rfl)
          rw [List.length_map] at p2
          obtain ⟨m, hm⟩ : ∃ m, m = xs.length := ⟨_, rfl⟩
          rw [← hm] at p1 p2 hm0 hmx
          rcases t1 with hL | ⟨g1, rfl, hg1, t1⟩
          · rw [hL] at hm; simp at hm; omega
          rcases t2 with hL | ⟨g2, rfl, hg2, t2⟩
          · have h2 := congrArg List.length hL
            simp at h2
            rw [h2] at hm
            simp at hm
            omega
          replace p1 : wr.cell? ⟨G1, i, none⟩ = some (.slice (some ⟨g1, 0, none⟩) m d1) := by rw [hbr.out.cell (p := ⟨G1, i, none⟩) hG1]; exact p1
          replace p2 : wr.cell? ⟨G2, i, none⟩ = some (.slice (some ⟨g2, 0, none⟩) m d2) := by rw [hbr.out.cell (p := ⟨G2, i, none⟩) hG2]; exact p2
          have ht1 := Hid.intro t1
          have ht2 := Hid.intro t2
          have hmH := Hid.intro hm
          have hz : ((m : Int) == 0) = false := by simp; omega
          clear t1 t2 hm hxs
          go_wp2
          all_goals first | omega | skip
          go_quiet (fail)
          go_wp2
          all_goals first | omega | skip
          have hbd : Hid (Below W0.heap.size W0 (wr.drewN nq)) := below_drewN hbr.out nq
          replace q1 : (wr.drewN nq).cell? ⟨b1, 2, none⟩ = _ := q1
          replace q2 : (wr.drewN nq).cell? ⟨b2, 2, none⟩ = _ := q2
          replace p1 : (wr.drewN nq).cell? ⟨G1, i, none⟩ = _ := p1
          replace p2 : (wr.drewN nq).cell? ⟨G2, i, none⟩ = _ := p2
          clear hbr
          generalize wr.drewN nq = wi at q1 q2 p1 p2 hbd ⊢
          have hW1 := hB1.out.1
          have hW2 := hB2.out.1
          replace q1 := Hid.intro q1
          replace q2 := Hid.intro q2
          replace p1 := Hid.intro p1
          replace p2 := Hid.intro p2
          go_loopw [12] (fun vk wx => ∃ k : Nat, k ≤ m ∧ vk = .int .i64 (k : Int) ∧ Hid (Below wi.heap.size wi wx)) (fun vk _ => m - (intOf vk).toNat)
          case atStart => exact ⟨0, Nat.zero_le _, rfl, Hid.intro (Below.refl _ _)⟩
          case round =>
            obtain ⟨k, hk, rfl, hbx⟩ := hrel
            have hsz := hbd.out.size
            have q1' := (hbx.out.cell (p := ⟨b1, 2, none⟩) (by show b1 < _; omega)).trans q1.out
            have q2' := (hbx.out.cell (p := ⟨b2, 2, none⟩) (by show b2 < _; omega)).trans q2.out
            have p1' := (hbx.out.cell (p := ⟨G1, i, none⟩) (by show G1 < _; omega)).trans p1.out
            have p2' := (hbx.out.cell (p := ⟨G2, i, none⟩) (by show G2 < _; omega)).trans p2.out
            have i1 : (i : Int) < (n0 : Int) := by omega
            have hbW2 : Hid (Below W0.heap.size W0 wr) := hbd.out.trans (hbx.out.mono hsz)
            by_cases hkl : k < m
            · obtain ⟨t, ht⟩ : ∃ t, xs[k]? = some t := ⟨xs[k]'(by rw [← hmH.out]; exact hkl), List.getElem?_eq_getElem _⟩
              have hpl := hplx.out t (List.mem_of_getElem? ht)
              obtain ⟨y0, y1, y2, y3⟩ := (ht1.out k t ht).below hbW2.out hg1
              obtain ⟨z0, z1, z2, z3⟩ := (ht2.out k (sh 3 t) (by rw [List.getElem?_map, ht]; rfl)).below hbW2.out hg2
              simp only [sh] at z0 z1 z2 z3
              have hy : Hid (TokAt wr g1 k t) := ⟨y0, y1, y2, y3⟩
              have hw3 : wrap64 ((t.place : Int) + 3 - 3) = (t.place : Int) := by unfold wrap64; omega
              clear ht
              go_wp2
              all_goals first | omega | skip
              obtain ⟨e0, e1, e2, e3⟩ := box_new wr t
              simp only [Nat.zero_add] at e1 e2 e3
              replace q1' := cellA q1' (tokO t)
              replace p1' := cellA p1' (tokO t)
              replace y0 := cellA y0 (tokO t)
              replace y1 := cellA y1 (tokO t)
              replace y2 := cellA y2 (tokO t)
              replace y3 := cellA y3 (tokO t)
              have hbn : Hid (Below wi.heap.size wi (wr.alloc (tokO t))) := hbx.out.alloc hbx.out.size _
              clear q2' p2' z0 z1 z2 z3 hy hbW2 hbx
              generalize wr.heap.size = bx at e0 e1 e2 e3 ⊢
              generalize (wr.alloc (tokO t)) = wy at e0 e1 e2 e3 q1' p1' y0 y1 y2 y3 hbn ⊢
              go_quiet (fail)
              go_wp2
              all_goals first | omega | skip
              go_roundw
              case rel => exact ⟨k + 1, by omega, by go_num, Hid.intro (below_drewN hbn.out nq)⟩
              case measure => simp [intOf]; omega
            · go_wp2
              all_goals first | omega | skip
              go_roundw
              case rel => exact ⟨i + 1, by omega, by go_num, hbW2⟩
              case measure => simp [intOf]; omega
        · go_wp2_with (go_at_call 11; refine (known_any _).mono ?_; rintro e w3 ⟨rfl, hb3⟩)
          all_goals first | omega | skip
          go_ret
          exact ⟨rfl, (bel_step ⟨hbWH.out.trans (hbr.out.mono hbWH.out.size), Nat.le_trans hbWH.out.size hbr.out.size⟩ hb3).1⟩

theorem lineSpaced_walk (s t : ByteArray) (hs : s.size ≤ maxLen) (ht : t.size ≤ maxLen) (w : World) :
    Calls Try.prog 6 #[.string s, .string t] w fun e w' => e = .returned (.bool true) ∧ Below w.heap.size w w' := by
  cases h : parseL (bs (fewS s 500)) with
  | error p => exact spaced_bad s t hs ht p h w
  | ok L => exact spaced_ok s t hs ht L h w
end Go.Proofs.Ytdmhdhmclcogoaa

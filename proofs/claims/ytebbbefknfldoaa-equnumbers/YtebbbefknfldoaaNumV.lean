/- EquNumbers: its walk, whole. -/
import Derived.Test.YtebbbefknfldoaaKn
import Derived.Deep.DeepCutAuto
import Derived.Deep.RegionHeld3
/- The law's known. -/
namespace Go.Proofs.Ytebbbefknfldoaa
open Go.ChangeShapes Go.WideShapes Go.ChangeAt Go.RowKit
set_option linter.unusedVariables false
set_option linter.unusedSimpArgs false
set_option maxRecDepth 100000
set_option maxHeartbeats 16000000 in
theorem known_any (w : World) : Calls Try.prog 14 #[] w fun e w' => e = .returned (.bool true) ∧ Below w.heap.size w w' := by
  have p1 := Hid.intro (fun W => of_any ⟨#[97]⟩ ⟨#[98]⟩ 2 1 W)
  have p2 := Hid.intro (fun W => of_any ⟨#[98]⟩ ⟨#[99]⟩ 1 4294967293 W)
  have p3 := Hid.intro (fun W => of_any ⟨#[120]⟩ ⟨#[97]⟩ 1 0 W)
  have p4 := Hid.intro (fun W => of_any ⟨#[97]⟩ ⟨#[98]⟩ 1 0 W)
  have p5 := Hid.intro (fun W => of_any ⟨#[98]⟩ ⟨#[97]⟩ 1 0 W)
  have p6 := Hid.intro (fun W => of_any ⟨#[97]⟩ ⟨#[99]⟩ 2 4294967291 W)
  have r1 := Hid.intro k1_run
  have r2 := Hid.intro k2_run
  have r3 := Hid.intro k3_run
  have hb0 := Hid.intro (Below.refl w.heap.size w)
  go_enter Try.func14, Try.ntmps14
  go_upto_region 3 with (first
    | (go_at_call 9; (with_reducible refine (p1.out _).mono ?_); rintro e w1 ⟨b1, rfl, o1, hb1⟩; replace o1 := Hid.intro (show OfL w1 b1 ⟨#[98]⟩ 2 from o1); replace hb1 := Hid.intro hb1)
    | (go_at_call 9; (with_reducible refine (p2.out _).mono ?_); rintro e w2 ⟨b2, rfl, o2, hb2⟩; replace o2 := Hid.intro (show OfL w2 b2 ⟨#[99]⟩ 1 from o2); have o1' := Hid.intro (o1.out.below hb2); replace hb2 := Hid.intro (hb1.out.trans (hb2.mono hb1.out.size)))
    | (go_at_call 9; (with_reducible refine (p3.out _).mono ?_); rintro e w4 ⟨b3, rfl, o3, hb4⟩; replace o3 := Hid.intro (show OfL w4 b3 ⟨#[97]⟩ 1 from o3); have hE4 := Hid.intro (hE3.out.below hb4); replace hb4 := Hid.intro (hb3.out.trans (hb4.mono hb3.out.size)))
    | (go_at_call 9; (with_reducible refine (p4.out _).mono ?_); rintro e w5 ⟨b4, rfl, o4, hb5⟩; replace o4 := Hid.intro (show OfL w5 b4 ⟨#[98]⟩ 1 from o4); have o3' := Hid.intro (o3.out.below hb5); have hE5 := Hid.intro (hE4.out.below hb5); replace hb5 := Hid.intro (hb4.out.trans (hb5.mono hb4.out.size)))
    | (go_at_call 9; (with_reducible refine (p5.out _).mono ?_); rintro e w6 ⟨b5, rfl, o5, hb6⟩; replace o5 := Hid.intro (show OfL w6 b5 ⟨#[97]⟩ 1 from o5); have o3'' := Hid.intro (o3'.out.below hb6); have o4' := Hid.intro (o4.out.below hb6); have hE6 := Hid.intro (hE5.out.below hb6); replace hb6 := Hid.intro (hb5.out.trans (hb6.mono hb5.out.size)))
    | (go_at_call 8; (with_reducible refine (r1.out b1 b2 w2 o1'.out o2.out).mono ?_); rintro e w3 ⟨g, rfl, hE3, hb3⟩; replace hE3 := Hid.intro hE3; replace hb3 := Hid.intro (hb2.out.trans (hb3.mono hb2.out.size)))
    | (go_at_call 8; (with_reducible refine (r2.out b3 b4 b5 w6 o3''.out o4'.out o5.out).mono ?_); rintro e w7 ⟨rfl, hb7⟩; have hE7 := Hid.intro (hE6.out.below hb7); replace hb7 := Hid.intro (hb6.out.trans (hb7.mono hb6.out.size))))
  all_goals first | omega | skip
  go_wp2_with (first
    | (go_at_call 9; (with_reducible refine (p6.out _).mono ?_); rintro e w8 ⟨b6, rfl, o6, hb8⟩; replace o6 := Hid.intro (show OfL w8 b6 ⟨#[99]⟩ 2 from o6); have hE8 := Hid.intro (hE7.out.below hb8); replace hb8 := Hid.intro (hb7.out.trans (hb8.mono hb7.out.size)))
    | (go_at_call 9; (with_reducible refine (p2.out _).mono ?_); rintro e w9 ⟨b7, rfl, o7, hb9⟩; replace o7 := Hid.intro (show OfL w9 b7 ⟨#[99]⟩ 1 from o7); have o6' := Hid.intro (o6.out.below hb9); have hE9 := Hid.intro (hE8.out.below hb9); replace hb9 := Hid.intro (hb8.out.trans (hb9.mono hb8.out.size)))
    | (go_at_call 18; (with_reducible refine (r3.out g b6 b7 w9 hE9.out o6'.out o7.out).mono ?_); rintro e w10 ⟨rfl, hb10⟩; replace hb10 := Hid.intro (hb9.out.trans (hb10.mono hb9.out.size))))
  all_goals first | omega | skip
  go_ret
  exact ⟨rfl, hb10.out⟩
end Go.Proofs.Ytebbbefknfldoaa
/- EquNumbers: its walk. -/
namespace Go.Proofs.Ytebbbefknfldoaa
open Go.ChangeShapes Go.WideShapes Go.ChangeAt Go.RowKit Go.Sort
set_option linter.unusedVariables false
set_option linter.unusedSimpArgs false
set_option maxRecDepth 100000
theorem n0_run (W : World) : Calls Try.prog 8 #[.slice none 0 0] W fun e w' => ∃ g, e = .returned (.tuple #[.slice (some ⟨g, 0, none⟩) 0 0, .int .i64 0, .int .i64 0]) ∧ Below W.heap.size W w' := by
  refine (solve_ok [] none 0 (by decide) (by decide) (fun q hq => by cases hq) (by decide) (fun s hs => by cases hs) (cyc_none (by decide) (by decide) (by decide +kernel)) W (.inl rfl)).mono ?_
  rintro e w' ⟨g, v, rfl, hS⟩
  exact ⟨g, rfl, hS.bel⟩
def k4L : List Eqv := [eqv [120] [97] 1 0, eqv [98] [97] 1 0, eqv [97] [98] 1 0]
def k5L : List Eqv := [eqv [120] [97] 1 0, eqv [97] [97] 1 0]
theorem own_stIn {w : World} {lo : Nat} {a : Option Addr} {n c : Nat} {ss : List (List UInt8)} (h : w.ownsRow lo 9 1 (.slice a n c) ss.length (ss.map encStr)) : StIn w a ss ∧ n = ss.length := by
  have hn := own_len h
  refine ⟨?_, hn⟩
  subst hn
  by_cases h0 : ss.length = 0
  · exact .inl (List.eq_nil_of_length_eq_zero h0)
  · obtain ⟨g, rfl, _, hc⟩ := own_addr h (by omega)
    rcases h.2 with ⟨_, e⟩ | ⟨g', cap, cur, hv, k2, k3, _⟩
    · omega
    · injection hv with e1
      cases e1
      refine .inr ⟨g, 0, rfl, wblk_lt k3, fun i s hi => ?_⟩
      rw [Nat.zero_add]
      exact hc i (encStr s) (by rw [List.getElem?_map, hi]; rfl)
theorem StIn.below {w w' : World} {a : Option Addr} {l : List (List UInt8)} (h : StIn w a l) (hb : Below w.heap.size w w') : StIn w' a l := by
  rcases h with h | ⟨g, o, ha, hg, h⟩
  · exact .inl h
  · exact .inr ⟨g, o, ha, Nat.lt_of_lt_of_le hg hb.size, fun i s hi => (hb.cell (p := ⟨g, _, none⟩) hg).trans (h i s hi)⟩
theorem rise_unique : ∀ {l m : List (List UInt8)}, l.Pairwise (fun x y => x ≤ y) → m.Pairwise (fun x y => x ≤ y) → l.Nodup → m.Nodup → (∀ x, x ∈ l ↔ x ∈ m) → l = m
  | [], [], _, _, _, _, _ => rfl
  | [], b :: m, _, _, _, _, h => by have := (h b).2 (by simp); cases this
  | a :: l, [], _, _, _, _, h => by have := (h a).1 (by simp); cases this
  | a :: l, b :: m, h1, h2, h3, h4, h => by
    obtain ⟨p1, p2⟩ := List.pairwise_cons.1 h1
    obtain ⟨q1, q2⟩ := List.pairwise_cons.1 h2
    obtain ⟨r1, r2⟩ := List.nodup_cons.1 h3
    obtain ⟨s1, s2⟩ := List.nodup_cons.1 h4
    have hab : a = b := by
      rcases List.mem_cons.1 ((h a).1 (by simp)) with e | e
      · exact e
      · rcases List.mem_cons.1 ((h b).2 (by simp)) with e2 | e2
        · exact e2.symm
        · exact List.le_antisymm (p1 b e2) (q1 a e)
    subst hab
    rw [rise_unique p2 q2 r2 s2 (fun x => ?_)]
    constructor
    · intro hx
      rcases List.mem_cons.1 ((h x).1 (by simp [hx])) with e | e
      · subst e; exact absurd hx r1
      · exact e
    · intro hx
      rcases List.mem_cons.1 ((h x).2 (by simp [hx])) with e | e
      · subst e; exact absurd hx s1
      · exact e
theorem k4_cyc (x : List UInt8) : CycN k4L x ↔ x ∈ [([97] : List UInt8), [98]] := by
  have hb : (walkL k4L).back = [2, 1] ∨ (walkL k4L).back = [1, 2] := by decide +kernel
  have hm : ∀ i, i ∈ (walkL k4L).back ↔ i = 1 ∨ i = 2 := fun i => by rcases hb with e | e <;> rw [e] <;> simp <;> omega
  constructor
  · rintro ⟨i, hi, hc, rfl⟩
    rcases (hm i).1 ((cyc_mem (by decide) (by decide) hi).1 hc) with rfl | rfl <;> decide
  · intro hx
    rcases (show x = [97] ∨ x = [98] by simpa using hx) with rfl | rfl
    · exact ⟨2, by decide, (cyc_mem (by decide) (by decide) (by decide)).2 ((hm 2).2 (.inr rfl)), rfl⟩
    · exact ⟨1, by decide, (cyc_mem (by decide) (by decide) (by decide)).2 ((hm 1).2 (.inl rfl)), rfl⟩
theorem k4_run (b1 b2 b3 : Nat) (W : World) (h1 : OfL W b1 ⟨#[97]⟩ 1) (h2 : OfL W b2 ⟨#[97]⟩ 1) (h3 : OfL W b3 ⟨#[98]⟩ 1) :
    Calls Try.prog 10 #[.slice (some ⟨W.heap.size, 0, none⟩) 3 3] (W.alloc (.cells #[.string ⟨#[120]⟩, .slice (some ⟨b1, 0, none⟩) 1 1, .int .u32 0, .string ⟨#[98]⟩, .slice (some ⟨b2, 0, none⟩) 1 1, .int .u32 0, .string ⟨#[97]⟩, .slice (some ⟨b3, 0, none⟩) 1 1, .int .u32 0] 31)) fun e w' => ∃ a c, e = .returned (.slice a 2 c) ∧ StIn w' a [[97], [98]] ∧ Below W.heap.size W w' := by
  have hE := eqs_made W [([120], [97], 1, 0, b1), ([98], [97], 1, 0, b2), ([97], [98], 1, 0, b3)] (fun q hq => by
    have : q = ([120], [97], 1, 0, b1) ∨ q = ([98], [97], 1, 0, b2) ∨ q = ([97], [98], 1, 0, b3) := by simpa using hq
    rcases this with rfl | rfl | rfl
    · exact h1
    · exact h2
    · exact h3)
  have hb := below_alloc W (.cells #[.string ⟨#[120]⟩, .slice (some ⟨b1, 0, none⟩) 1 1, .int .u32 0, .string ⟨#[98]⟩, .slice (some ⟨b2, 0, none⟩) 1 1, .int .u32 0, .string ⟨#[97]⟩, .slice (some ⟨b3, 0, none⟩) 1 1, .int .u32 0] 31)
  refine (cycle_any k4L _ 3 (by decide) (by decide) (held_of (by decide)) _ hE).mono ?_
  rintro e w' ⟨hb2, v, ss, rfl, ho, hp, hn, hm⟩
  have hss : ss = [[97], [98]] := rise_unique hp (by decide) hn (by decide) (fun x => (hm x).trans (k4_cyc x))
  subst hss
  obtain ⟨a, c, rfl⟩ := own_slice ho
  exact ⟨a, c, rfl, (own_stIn ho).1, hb.trans (hb2.mono hb.size)⟩
theorem k5_run (b1 b2 : Nat) (W : World) (h1 : OfL W b1 ⟨#[97]⟩ 1) (h2 : OfL W b2 ⟨#[97]⟩ 1) :
    Calls Try.prog 8 #[.slice (some ⟨W.heap.size, 0, none⟩) 2 2] (W.alloc (.cells #[.string ⟨#[120]⟩, .slice (some ⟨b1, 0, none⟩) 1 1, .int .u32 0, .string ⟨#[97]⟩, .slice (some ⟨b2, 0, none⟩) 1 1, .int .u32 0] 31)) fun e w' => e = .returned (.tuple #[.slice none 0 0, .int .i64 1, .int .i64 24]) ∧ Below W.heap.size W w' := by
  have hE := eqs_made W [([120], [97], 1, 0, b1), ([97], [97], 1, 0, b2)] (fun q hq => by
    have : q = ([120], [97], 1, 0, b1) ∨ q = ([97], [97], 1, 0, b2) := by simpa using hq
    rcases this with rfl | rfl
    · exact h1
    · exact h2)
  have hb := below_alloc W (.cells #[.string ⟨#[120]⟩, .slice (some ⟨b1, 0, none⟩) 1 1, .int .u32 0, .string ⟨#[97]⟩, .slice (some ⟨b2, 0, none⟩) 1 1, .int .u32 0] 31)
  have hbk : (walkL k5L).back = [1] := by decide +kernel
  refine (solve_bad k5L _ 2 (by decide) (by decide) (held_of (by decide)) ⟨[97], 1, by decide, (cyc_mem (by decide) (by decide) (by decide)).2 (by rw [hbk]; simp), rfl⟩ _ hE).mono ?_
  rintro e w' ⟨m, rfl, hm, hb2⟩
  have : m = 1 := by
    have h4 := (cyc_mem (l := k5L) (by decide) (by decide) hm.1).1 hm.2.1
    rw [hbk] at h4
    simpa using h4
  rw [this]
  exact ⟨rfl, hb.trans (hb2.mono hb.size)⟩
theorem k6_run (b : Nat) (W : World) (h1 : OfL W b ⟨#[98]⟩ 1) :
    Calls Try.prog 12 #[linV (.slice (some ⟨b, 0, none⟩) 1 1) 0, .slice none 0 0] W fun e w' => ∃ a3 c3, e = .returned (linV (.slice a3 1 c3) 0) ∧ TmLies w' a3 [⟨[98], 1⟩] ∧ Below W.heap.size W w' := by
  have hc : CanL ⟨[⟨[98], 1⟩], 0⟩ := canL_one (by decide) (by decide)
  have hp : putN (eqF []) ⟨[⟨[98], 1⟩], 0⟩ = ⟨[⟨[98], 1⟩], 0⟩ := sumN_one hc
  have := putL_any [] ⟨[⟨[98], 1⟩], 0⟩ [[98]] (by decide) (by decide) hc (by decide) (by decide) (fun q hq => by cases hq) (some ⟨b, 0, none⟩) none 1 0 W (OfL.lies (o := [98]) h1) (.inl rfl)
  rw [hp] at this
  refine this.mono ?_
  rintro e w' ⟨hb, v, rfl, ho⟩
  obtain ⟨a3, c3, rfl⟩ := own_slice ho
  exact ⟨a3, c3, rfl, own_tmLies ho, hb⟩
end Go.Proofs.Ytebbbefknfldoaa
namespace Go.Proofs.Ytebbbefknfldoaa
open Go.ChangeShapes Go.WideShapes Go.ChangeAt Go.RowKit Go.Sort
set_option linter.unusedVariables false
set_option linter.unusedSimpArgs false
set_option maxRecDepth 100000
structure NS (w : World) (bx b0 : Nat) (wr : World) : Prop where
  bel : Below w.heap.size w wr
  bx : Two wr bx 29 (.slice (some ⟨b0, 0, none⟩) 1 1) (.int .u32 0)
  o : OfL wr b0 ⟨#[98]⟩ 1
theorem NS.below {w : World} {bx b0 : Nat} {wr w' : World} (h : NS w bx b0 wr) (hb : Below wr.heap.size wr w') : NS w bx b0 w' :=
  ⟨h.bel.trans (hb.mono h.bel.size), h.bx.below hb (Array.getElem?_eq_some_iff.1 h.bx.heap).1, h.o.below hb⟩
set_option maxHeartbeats 16000000 in
theorem equNumbersW (w : World) : Calls Try.prog 3 #[] w fun e w' => e = .returned (.bool true) ∧ Below w.heap.size w w' := by
  have p4 := Hid.intro (fun W => of_any ⟨#[97]⟩ ⟨#[98]⟩ 1 0 W)
  have p3 := Hid.intro (fun W => of_any ⟨#[120]⟩ ⟨#[97]⟩ 1 0 W)
  have p5 := Hid.intro (fun W => of_any ⟨#[98]⟩ ⟨#[97]⟩ 1 0 W)
  have p7 := Hid.intro (fun W => of_any ⟨#[97]⟩ ⟨#[97]⟩ 1 0 W)
  have r0 := Hid.intro n0_run
  have r4 := Hid.intro k4_run
  have r5 := Hid.intro k5_run
  have r6 := Hid.intro k6_run
  have hfld : ∀ (b : Nat) (W : World), (Instr.field 31 (.agg #[.string ⟨#[97]⟩, .slice (some ⟨b, 0, none⟩) 1 1, .int .u32 0]) 1).run Try.prog W = .ok (.agg #[.slice (some ⟨b, 0, none⟩) 1 1, .int .u32 0]) W := fun b W => by kernel_rfl
  go_enter Try.func3, Try.ntmps3
  go_upto_region 3 with (first
    | (go_at_call 8; (with_reducible refine (r0.out _).mono ?_); rintro e w1 ⟨g0, rfl, hb1⟩; replace hb1 := Hid.intro hb1)
    | (go_at_call 9; (with_reducible refine (p4.out _).mono ?_); rintro e w2 ⟨b0, rfl, o0, hb2⟩; replace o0 := Hid.intro (show OfL w2 b0 ⟨#[98]⟩ 1 from o0); replace hb2 := Hid.intro (hb1.out.trans (hb2.mono hb1.out.size))))
  all_goals first | omega | skip
  have hN : Hid (NS w w2.heap.size b0 (w2.alloc (.cells #[.slice (some ⟨b0, 0, none⟩) 1 1, .int .u32 0] 29))) := ⟨hb2.out.trans ((below_alloc w2 (.cells #[.slice (some ⟨b0, 0, none⟩) 1 1, .int .u32 0] 29)).mono hb2.out.size), two_new w2 29 _ _, o0.out.below (below_alloc w2 _)⟩
  generalize w2.alloc (.cells #[.slice (some ⟨b0, 0, none⟩) 1 1, .int .u32 0] 29) = W2 at *
  generalize w2.heap.size = bx at *
  clear o0 hb2 hb1
  go_upto_region 4 with (first
    | (go_at_call 9; (with_reducible refine (p3.out _).mono ?_); rintro e w4 ⟨b3, rfl, o3, hb4⟩; replace o3 := Hid.intro (show OfL w4 b3 ⟨#[97]⟩ 1 from o3); have hN4 := Hid.intro (hN.out.below hb4); clear hb4)
    | (go_at_call 9; (with_reducible refine (p5.out _).mono ?_); rintro e w5 ⟨b4, rfl, o4, hb5⟩; replace o4 := Hid.intro (show OfL w5 b4 ⟨#[97]⟩ 1 from o4); have o3' := Hid.intro (o3.out.below hb5); have hN5 := Hid.intro (hN4.out.below hb5); clear hb5)
    | (go_at_call 9; (with_reducible refine (p4.out _).mono ?_); rintro e w6 ⟨b5, rfl, o5, hb6⟩; replace o5 := Hid.intro (show OfL w6 b5 ⟨#[98]⟩ 1 from o5); have o3'' := Hid.intro (o3'.out.below hb6); have o4' := Hid.intro (o4.out.below hb6); have hN6 := Hid.intro (hN5.out.below hb6); clear hb6)
    | (go_at_call 10; (with_reducible refine (r4.out b3 b4 b5 w6 o3''.out o4'.out o5.out).mono ?_); rintro e w7 ⟨a5, c5, rfl, hs7, hb7⟩; replace hs7 := Hid.intro hs7; have hN7 := Hid.intro (hN6.out.below hb7); clear hb7 o3 o4 o5 o3' o3'' o4' hN4 hN5 hN6))
  all_goals first | omega | skip
  go_upto_region 5 with (first
    | (go_at_call 9; (with_reducible refine (p3.out _).mono ?_); rintro e w8 ⟨b6, rfl, o6, hb8⟩; replace o6 := Hid.intro (show OfL w8 b6 ⟨#[97]⟩ 1 from o6); have hN8 := Hid.intro (hN7.out.below hb8); have hs8 := Hid.intro (hs7.out.below hb8); clear hb8)
    | (go_at_call 9; (with_reducible refine (p7.out _).mono ?_); rintro e w9 ⟨b7, rfl, o7, hb9⟩; replace o7 := Hid.intro (show OfL w9 b7 ⟨#[97]⟩ 1 from o7); have o6' := Hid.intro (o6.out.below hb9); have hN9 := Hid.intro (hN8.out.below hb9); have hs9 := Hid.intro (hs8.out.below hb9); clear hb9)
    | (go_at_call 8; (with_reducible refine (r5.out b6 b7 w9 o6'.out o7.out).mono ?_); rintro e w10 ⟨rfl, hb10⟩; have hN10 := Hid.intro (hN9.out.below hb10); have hs10 := Hid.intro (hs9.out.below hb10); clear hb10 o6 o7 o6' hN8 hN9 hs8 hs9 hN7 hs7 hN))
  all_goals first | omega | skip
  have hd : Below w10.heap.size w10 w10.drew := (Below.refl _ w10).drew
  have hN11 := Hid.intro (hN10.out.below hd)
  have hs11 := Hid.intro (hs10.out.below hd)
  have q12 : Hid (Calls Try.prog 12 #[linV (.slice (some ⟨b0, 0, none⟩) 1 1) 0, .slice none 0 0] w10.drew fun e W => ∃ a3 c3, e = .returned (linV (.slice a3 1 c3) 0) ∧ Hid (TmLies W a3 [⟨[98], 1⟩]) ∧ Hid (NS w bx b0 W) ∧ Hid (StIn W a5 [[97], [98]]) ∧ W.cell? ⟨bx, 0, none⟩ = some (.slice (some ⟨b0, 0, none⟩) 1 1) ∧ W.cell? ⟨bx, 1, none⟩ = some (.int .u32 0)) := by
    refine (r6.out b0 w10.drew hN11.out.o).mono ?_
    rintro e W ⟨a3, c3, rfl, ht, hb⟩
    have h1 := hN11.out.below hb
    exact ⟨a3, c3, rfl, ht, h1, hs11.out.below hb, h1.bx.c0, h1.bx.c1⟩
  have q11 : Hid (∀ a3 c3 W, Hid (TmLies W a3 [⟨[98], 1⟩]) → Hid (NS w bx b0 W) → Hid (StIn W a5 [[97], [98]]) → Calls Try.prog 11 #[linV (.slice a3 1 c3) 0, linV (.slice (some ⟨b0, 0, none⟩) 1 1) 0] W fun e W' => e = .returned (.bool true) ∧ Hid (NS w bx b0 W') ∧ Hid (StIn W' a5 [[97], [98]]) ∧ W'.cell? ⟨bx, 0, none⟩ = some (.slice (some ⟨b0, 0, none⟩) 1 1) ∧ W'.cell? ⟨bx, 1, none⟩ = some (.int .u32 0)) := fun a3 c3 W h1 h2 h3 => by
    refine (refSame_any a3 (some ⟨b0, 0, none⟩) c3 1 [⟨[98], 1⟩] [⟨[98], 1⟩] 0 0 W h1.out (OfL.lies (o := [98]) h2.out.o) (by decide) (by decide)).mono ?_
    rintro e W' ⟨rfl, hb⟩
    have h4 := h2.out.below hb
    exact ⟨by rw [show sameL [⟨[98], 1⟩] [⟨[98], 1⟩] 0 0 = true from by decide], h4, h3.out.below hb, h4.bx.c0, h4.bx.c1⟩
  have q13 : Hid (∀ W, Hid (NS w bx b0 W) → Hid (StIn W a5 [[97], [98]]) → Calls Try.prog 13 #[.slice a5 2 c5, .slice (some ⟨W.heap.size, 0, none⟩) 2 2] (W.alloc (.cells #[.string ⟨#[97]⟩, .string ⟨#[98]⟩] 9)) fun e W' => e = .returned (.bool true) ∧ Hid (NS w bx b0 W') ∧ W'.cell? ⟨bx, 0, none⟩ = some (.slice (some ⟨b0, 0, none⟩) 1 1) ∧ W'.cell? ⟨bx, 1, none⟩ = some (.int .u32 0)) := fun W h1 h2 => by
    have hb := below_alloc W (.cells #[.string ⟨#[97]⟩, .string ⟨#[98]⟩] 9)
    have hn := heap_alloc_new W (.cells #[.string ⟨#[97]⟩, .string ⟨#[98]⟩] 9)
    have h3 : StIn (W.alloc (.cells #[.string ⟨#[97]⟩, .string ⟨#[98]⟩] 9)) (some ⟨W.heap.size, 0, none⟩) [[97], [98]] := .inr ⟨_, 0, rfl, wblk_lt hn, fun i s hi => by
      match i, hi with
      | 0, hi => cases hi; exact (Joins.cell_of_block hn 0).trans rfl
      | 1, hi => cases hi; exact (Joins.cell_of_block hn 1).trans rfl⟩
    refine (sameStr_is [[97], [98]] [[97], [98]] (by decide) (by decide) a5 (some ⟨W.heap.size, 0, none⟩) c5 2 _ (h2.out.below hb) h3).mono ?_
    rintro e W' ⟨rfl, hb2⟩
    have h4 := (h1.out.below hb).below hb2
    exact ⟨by rw [sqB_pos rfl], h4, h4.bx.c0, h4.bx.c1⟩
  have q14 : Hid (∀ W, Hid (NS w bx b0 W) → Calls Try.prog 14 #[] W fun e W' => e = .returned (.bool true) ∧ Hid (NS w bx b0 W') ∧ W'.cell? ⟨bx, 0, none⟩ = some (.slice (some ⟨b0, 0, none⟩) 1 1) ∧ W'.cell? ⟨bx, 1, none⟩ = some (.int .u32 0)) := fun W h1 => by
    refine (known_any W).mono ?_
    rintro e W' ⟨rfl, hb⟩
    have h4 := h1.out.below hb
    exact ⟨rfl, h4, h4.bx.c0, h4.bx.c1⟩
  have x0 := hN10.out.bx.c0
  have x1 := hN10.out.bx.c1
  have y0 := hN11.out.bx.c0
  have y1 := hN11.out.bx.c1
  clear hd r0 r4 r5 r6 p3 p4 p5 p7
  go_region_held3 (fun W => W.cell? ⟨bx, 0, none⟩ = some (.slice (some ⟨b0, 0, none⟩) 1 1) ∧ W.cell? ⟨bx, 1, none⟩ = some (.int .u32 0)) (go_keep)
    ((first
      | (go_at_call 12; (with_reducible refine (q12.out).mono ?_); rintro e w11 ⟨a3, c3, rfl, ht11, hN12, hs12, u0, u1⟩)
      | (go_at_call 11; (with_reducible refine (q11.out _ _ _ ht11 hN12 hs12).mono ?_); rintro e w12 ⟨rfl, hN13, hs13, u2, u3⟩)
      | (go_at_call 13; (with_reducible refine (q13.out _ hN13 hs13).mono ?_); rintro e w13 ⟨rfl, hN14, u4, u5⟩)
      | (go_at_call 14; (with_reducible refine (q14.out _ hN14).mono ?_); rintro e w14 ⟨rfl, hN15, u6, u7⟩)))
  go_wp2_with fail
  all_goals first | omega | skip
  go_ret
  exact ⟨rfl, hN15.out.bel⟩
end Go.Proofs.Ytebbbefknfldoaa

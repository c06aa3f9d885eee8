/- Equs that come in as the laws take them; both ways of Solve; in another order. -/
import Derived.Test.YtebbbefknfldoaaSolM
import Derived.Deep.DeepCutAuto
import Derived.Deep.RegionHeld3
import Derived.Test.YtebbbefknfldoaaRt
/- The law's known runs. -/
namespace Go.Proofs.Ytebbbefknfldoaa
open Go.ChangeShapes Go.WideShapes Go.ChangeAt Go.RowKit
set_option linter.unusedVariables false
set_option linter.unusedSimpArgs false
set_option maxRecDepth 100000
theorem cyc_none {l : List Eqv} (hnd : (l.map (·.1)).Nodup) (hl : l.length < Ta.big) (h : (walkL l).back = []) : ∀ x, ¬ CycN l x := fun x hx => by
  have := (back_has hnd hl x).2 hx
  rw [h] at this
  cases this
theorem cyc_mem {l : List Eqv} (hnd : (l.map (·.1)).Nodup) (hl : l.length < Ta.big) {i : Nat} (hi : i < l.length) : Ta.Cyc (adjF l) i ↔ i ∈ (walkL l).back := by
  have := (walk_right hnd hl).2.1 i
  exact ⟨fun h => this.2 ⟨hi, h⟩, fun h => (this.1 h).2⟩
def k1L : List Eqv := [eqv [97] [98] 2 1, eqv [98] [99] 1 4294967293]
def k1A : List Eqv := [eqv [97] [99] 2 4294967291, eqv [98] [99] 1 4294967293]
def k2L : List Eqv := [eqv [120] [97] 1 0, eqv [97] [98] 1 0, eqv [98] [97] 1 0]
theorem k1_sol : solL k1L = k1A := by
  have h : (walkL k1L).order = [1, 0] := by decide +kernel
  unfold solL
  rw [h]
  have e0 : svF k1L [1, 0] [97] = some ⟨[⟨[99], 2⟩], 4294967291⟩ := by
    have t : ((svF k1L [1, 0] [97]).getD ⟨[], 0⟩).terms = [⟨[99], 2⟩] := by decide +kernel
    have c : ((svF k1L [1, 0] [97]).getD ⟨[], 0⟩).const = 4294967291 := by decide +kernel
    have s : (svF k1L [1, 0] [97]).isSome = true := by decide +kernel
    obtain ⟨e, he⟩ := Option.isSome_iff_exists.1 s
    rw [he] at t c ⊢
    obtain ⟨a, b⟩ := e
    dsimp only [Option.getD_some] at t c
    rw [t, c]
  have e1 : svF k1L [1, 0] [98] = some ⟨[⟨[99], 1⟩], 4294967293⟩ := by
    have t : ((svF k1L [1, 0] [98]).getD ⟨[], 0⟩).terms = [⟨[99], 1⟩] := by decide +kernel
    have c : ((svF k1L [1, 0] [98]).getD ⟨[], 0⟩).const = 4294967293 := by decide +kernel
    have s : (svF k1L [1, 0] [98]).isSome = true := by decide +kernel
    obtain ⟨e, he⟩ := Option.isSome_iff_exists.1 s
    rw [he] at t c ⊢
    obtain ⟨a, b⟩ := e
    dsimp only [Option.getD_some] at t c
    rw [t, c]
  show [(([97] : List UInt8), (svF k1L [1, 0] [97]).getD ⟨[], 0⟩), (([98] : List UInt8), (svF k1L [1, 0] [98]).getD ⟨[], 0⟩)] = _
  rw [e0, e1]
  rfl
theorem canL_one {ot : List UInt8} {n c : Int} (hn : 0 < n ∧ n < 4294967296) (hc : 0 ≤ c ∧ c < 4294967296) : CanL ⟨[⟨ot, n⟩], c⟩ :=
  ⟨⟨by simp, fun t ht => by rw [List.mem_singleton.1 ht]; exact hn⟩, hc⟩
theorem k1_held : ∀ q ∈ k1L, q.1.length ≤ 140737488355328 ∧ CanL q.2 := fun q hq => by
  have : q = eqv [97] [98] 2 1 ∨ q = eqv [98] [99] 1 4294967293 := by simpa [k1L] using hq
  rcases this with rfl | rfl
  · exact ⟨by decide, canL_one (by decide) (by decide)⟩
  · exact ⟨by decide, canL_one (by decide) (by decide)⟩
theorem held_of {l : List Eqv} (h : ∀ q ∈ l, q.1.length ≤ 100 ∧ q.2.terms.length ≤ 100 ∧ ∀ t ∈ q.2.terms, t.name.length ≤ 100) : ∀ q ∈ l, q.1.length ≤ 140737488355328 ∧ q.2.terms.length ≤ 4400000 ∧ ∀ t ∈ q.2.terms, t.name.length ≤ 140737488355328 := fun q hq => ⟨by have := (h q hq).1; omega, by have := (h q hq).2.1; omega, fun t ht => by have := (h q hq).2.2 t ht; omega⟩
theorem k1_run (b1 b2 : Nat) (W : World) (h1 : OfL W b1 ⟨#[98]⟩ 2) (h2 : OfL W b2 ⟨#[99]⟩ 1) :
    Calls Try.prog 8 #[.slice (some ⟨W.heap.size, 0, none⟩) 2 2] (W.alloc (.cells #[.string ⟨#[97]⟩, .slice (some ⟨b1, 0, none⟩) 1 1, .int .u32 1, .string ⟨#[98]⟩, .slice (some ⟨b2, 0, none⟩) 1 1, .int .u32 4294967293] 31)) fun e w' => ∃ g, e = .returned (.tuple #[.slice (some ⟨g, 0, none⟩) 2 2, .int .i64 0, .int .i64 0]) ∧ EqIn w' (some ⟨g, 0, none⟩) k1A ∧ Below W.heap.size W w' := by
  have hE := eqs_made W [([97], [98], 2, 1, b1), ([98], [99], 1, 4294967293, b2)] (fun q hq => by
    have : q = ([97], [98], 2, 1, b1) ∨ q = ([98], [99], 1, 4294967293, b2) := by simpa using hq
    rcases this with rfl | rfl
    · exact h1
    · exact h2)
  have hb := below_alloc W (.cells #[.string ⟨#[97]⟩, .slice (some ⟨b1, 0, none⟩) 1 1, .int .u32 1, .string ⟨#[98]⟩, .slice (some ⟨b2, 0, none⟩) 1 1, .int .u32 4294967293] 31)
  refine (solve_ok k1L _ 2 (by decide) (by decide) k1_held (by decide) (by decide) (cyc_none (by decide) (by decide) (by decide +kernel)) _ hE).mono ?_
  rintro e w' ⟨g, v, rfl, hS⟩
  have h3 := sol_eqIn hS
  rw [k1_sol] at h3
  exact ⟨g, rfl, h3, hb.trans (hS.bel.mono hb.size)⟩
theorem k2_first (m : Nat) (h : FirstC k2L m) : m = 1 := by
  obtain ⟨h1, h2, h3⟩ := h
  have hb : (walkL k2L).back = [1, 2] := by decide +kernel
  have hc : ∀ i, i < k2L.length → (Ta.Cyc (adjF k2L) i ↔ i ∈ [1, 2]) := fun i hi => by rw [cyc_mem (by decide) (by decide) hi, hb]
  have h4 := (hc m h1).1 h2
  have h5 := h3 1 (by decide) ((hc 1 (by decide)).2 (by simp))
  simp at h4
  omega
theorem k2_run (b1 b2 b3 : Nat) (W : World) (h1 : OfL W b1 ⟨#[97]⟩ 1) (h2 : OfL W b2 ⟨#[98]⟩ 1) (h3 : OfL W b3 ⟨#[97]⟩ 1) :
    Calls Try.prog 8 #[.slice (some ⟨W.heap.size, 0, none⟩) 3 3] (W.alloc (.cells #[.string ⟨#[120]⟩, .slice (some ⟨b1, 0, none⟩) 1 1, .int .u32 0, .string ⟨#[97]⟩, .slice (some ⟨b2, 0, none⟩) 1 1, .int .u32 0, .string ⟨#[98]⟩, .slice (some ⟨b3, 0, none⟩) 1 1, .int .u32 0] 31)) fun e w' => e = .returned (.tuple #[.slice none 0 0, .int .i64 1, .int .i64 24]) ∧ Below W.heap.size W w' := by
  have hE := eqs_made W [([120], [97], 1, 0, b1), ([97], [98], 1, 0, b2), ([98], [97], 1, 0, b3)] (fun q hq => by
    have : q = ([120], [97], 1, 0, b1) ∨ q = ([97], [98], 1, 0, b2) ∨ q = ([98], [97], 1, 0, b3) := by simpa using hq
    rcases this with rfl | rfl | rfl
    · exact h1
    · exact h2
    · exact h3)
  have hb := below_alloc W (.cells #[.string ⟨#[120]⟩, .slice (some ⟨b1, 0, none⟩) 1 1, .int .u32 0, .string ⟨#[97]⟩, .slice (some ⟨b2, 0, none⟩) 1 1, .int .u32 0, .string ⟨#[98]⟩, .slice (some ⟨b3, 0, none⟩) 1 1, .int .u32 0] 31)
  refine (solve_bad k2L _ 3 (by decide) (by decide) (held_of (by decide)) ?_ _ hE).mono ?_
  · exact ⟨[97], 1, by decide, (cyc_mem (by decide) (by decide) (by decide)).2 (by decide +kernel), rfl⟩
  · rintro e w' ⟨m, rfl, hm, hb2⟩
    rw [k2_first m hm]
    exact ⟨rfl, hb.trans (hb2.mono hb.size)⟩
theorem k3_run (g b1 b2 : Nat) (W : World) (hE : EqIn W (some ⟨g, 0, none⟩) k1A) (h1 : OfL W b1 ⟨#[99]⟩ 2) (h2 : OfL W b2 ⟨#[99]⟩ 1) :
    Calls Try.prog 18 #[.slice (some ⟨g, 0, none⟩) 2 2, .slice (some ⟨W.heap.size, 0, none⟩) 2 2] (W.alloc (.cells #[.string ⟨#[97]⟩, .slice (some ⟨b1, 0, none⟩) 1 1, .int .u32 4294967291, .string ⟨#[98]⟩, .slice (some ⟨b2, 0, none⟩) 1 1, .int .u32 4294967293] 31)) fun e w' => e = .returned (.bool true) ∧ Below W.heap.size W w' := by
  have hE2 := eqs_made W [([97], [99], 2, 4294967291, b1), ([98], [99], 1, 4294967293, b2)] (fun q hq => by
    have : q = ([97], [99], 2, 4294967291, b1) ∨ q = ([98], [99], 1, 4294967293, b2) := by simpa using hq
    rcases this with rfl | rfl
    · exact h1
    · exact h2)
  have hb := below_alloc W (.cells #[.string ⟨#[97]⟩, .slice (some ⟨b1, 0, none⟩) 1 1, .int .u32 4294967291, .string ⟨#[98]⟩, .slice (some ⟨b2, 0, none⟩) 1 1, .int .u32 4294967293] 31)
  have ht : ∀ x ∈ k1A, x.2.terms.length ≤ 9000000 := by decide
  refine (sameEqus_is k1A k1A (by decide) (by decide) ht ht (some ⟨g, 0, none⟩) (some ⟨W.heap.size, 0, none⟩) 2 2 _ (hE.below hb) hE2).mono ?_
  rintro e w' ⟨rfl, hb2⟩
  exact ⟨by rw [sqB_pos rfl], hb.trans (hb2.mono hb.size)⟩
end Go.Proofs.Ytebbbefknfldoaa
/- The law's known. -/
namespace Go.Proofs.Ytebbbefknfldoaa
open Go.ChangeShapes Go.WideShapes Go.ChangeAt Go.RowKit
set_option linter.unusedVariables false
set_option linter.unusedSimpArgs false
set_option maxRecDepth 100000
set_option maxHeartbeats 16000000 in
theorem known_any (w : World) : Calls Try.prog 14 #[] w fun e w' => e = .returned (.bool true) ∧ Below w.heap.size w w' := by
  have p1 := Hid.intro (fun W => of_any ⟨#[97]⟩ ⟨#[98]⟩ 2 1 W)
  have p2 := Hid.intro (fun W => of_any ⟨#[98]⟩ ⟨#[99]⟩ 1 4294967293 W)
  have p3 := Hid.intro (fun W => of_any ⟨#[120]⟩ ⟨#[97]⟩ 1 0 W)
  have p4 := Hid.intro (fun W => of_any ⟨#[97]⟩ ⟨#[98]⟩ 1 0 W)
  have p5 := Hid.intro (fun W => of_any ⟨#[98]⟩ ⟨#[97]⟩ 1 0 W)
  have p6 := Hid.intro (fun W => of_any ⟨#[97]⟩ ⟨#[99]⟩ 2 4294967291 W)
  have r1 := Hid.intro k1_run
  have r2 := Hid.intro k2_run
  have r3 := Hid.intro k3_run
  have hb0 := Hid.intro (Below.refl w.heap.size w)
  go_enter Try.func14, Try.ntmps14
  go_upto_region 3 with (first
    | (go_at_call 9; (with_reducible refine (p1.out _).mono ?_); rintro e w1 ⟨b1, rfl, o1, hb1⟩; replace o1 := Hid.intro (show OfL w1 b1 ⟨#[98]⟩ 2 from o1); replace hb1 := Hid.intro hb1)
    | (go_at_call 9; (with_reducible refine (p2.out _).mono ?_); rintro e w2 ⟨b2, rfl, o2, hb2⟩; replace o2 := Hid.intro (show OfL w2 b2 ⟨#[99]⟩ 1 from o2); have o1' := Hid.intro (o1.out.below hb2); replace hb2 := Hid.intro (hb1.out.trans (hb2.mono hb1.out.size)))
    | (go_at_call 9; (with_reducible refine (p3.out _).mono ?_); rintro e w4 ⟨b3, rfl, o3, hb4⟩; replace o3 := Hid.intro (show OfL w4 b3 ⟨#[97]⟩ 1 from o3); have hE4 := Hid.intro (hE3.out.below hb4); replace hb4 := Hid.intro (hb3.out.trans (hb4.mono hb3.out.size)))
    | (go_at_call 9; (with_reducible refine (p4.out _).mono ?_); rintro e w5 ⟨b4, rfl, o4, hb5⟩; replace o4 := Hid.intro (show OfL w5 b4 ⟨#[98]⟩ 1 from o4); have o3' := Hid.intro (o3.out.below hb5); have hE5 := Hid.intro (hE4.out.below hb5); replace hb5 := Hid.intro (hb4.out.trans (hb5.mono hb4.out.size)))
    | (go_at_call 9; (with_reducible refine (p5.out _).mono ?_); rintro e w6 ⟨b5, rfl, o5, hb6⟩; replace o5 := Hid.intro (show OfL w6 b5 ⟨#[97]⟩ 1 from o5); have o3'' := Hid.intro (o3'.out.below hb6); have o4' := Hid.intro (o4.out.below hb6); have hE6 := Hid.intro (hE5.out.below hb6); replace hb6 := Hid.intro (hb5.out.trans (hb6.mono hb5.out.size)))
    | (go_at_call 8; (with_reducible refine (r1.out b1 b2 w2 o1'.out o2.out).mono ?_); rintro e w3 ⟨g, rfl, hE3, hb3⟩; replace hE3 := Hid.intro hE3; replace hb3 := Hid.intro (hb2.out.trans (hb3.mono hb2.out.size)))
    | (go_at_call 8; (with_reducible refine (r2.out b3 b4 b5 w6 o3''.out o4'.out o5.out).mono ?_); rintro e w7 ⟨rfl, hb7⟩; have hE7 := Hid.intro (hE6.out.below hb7); replace hb7 := Hid.intro (hb6.out.trans (hb7.mono hb6.out.size))))
  all_goals first | omega | skip
  go_wp2_with (first
    | (go_at_call 9; (with_reducible refine (p6.out _).mono ?_); rintro e w8 ⟨b6, rfl, o6, hb8⟩; replace o6 := Hid.intro (show OfL w8 b6 ⟨#[99]⟩ 2 from o6); have hE8 := Hid.intro (hE7.out.below hb8); replace hb8 := Hid.intro (hb7.out.trans (hb8.mono hb7.out.size)))
    | (go_at_call 9; (with_reducible refine (p2.out _).mono ?_); rintro e w9 ⟨b7, rfl, o7, hb9⟩; replace o7 := Hid.intro (show OfL w9 b7 ⟨#[99]⟩ 1 from o7); have o6' := Hid.intro (o6.out.below hb9); have hE9 := Hid.intro (hE8.out.below hb9); replace hb9 := Hid.intro (hb8.out.trans (hb9.mono hb8.out.size)))
    | (go_at_call 18; (with_reducible refine (r3.out g b6 b7 w9 hE9.out o6'.out o7.out).mono ?_); rintro e w10 ⟨rfl, hb10⟩; replace hb10 := Hid.intro (hb9.out.trans (hb10.mono hb9.out.size))))
  all_goals first | omega | skip
  go_ret
  exact ⟨rfl, hb10.out⟩
end Go.Proofs.Ytebbbefknfldoaa
/- EquNumbers: its walk. -/
namespace Go.Proofs.Ytebbbefknfldoaa
open Go.ChangeShapes Go.WideShapes Go.ChangeAt Go.RowKit Go.Sort
set_option linter.unusedVariables false
set_option linter.unusedSimpArgs false
set_option maxRecDepth 100000
theorem own_stIn {w : World} {lo : Nat} {a : Option Addr} {n c : Nat} {ss : List (List UInt8)} (h : w.ownsRow lo 9 1 (.slice a n c) ss.length (ss.map encStr)) : StIn w a ss ∧ n = ss.length := by
  have hn := own_len h
  refine ⟨?_, hn⟩
  subst hn
  by_cases h0 : ss.length = 0
  · exact .inl (List.eq_nil_of_length_eq_zero h0)
  · obtain ⟨g, rfl, _, hc⟩ := own_addr h (by omega)
    rcases h.2 with ⟨_, e⟩ | ⟨g', cap, cur, hv, k2, k3, _⟩
    · omega
    · injection hv with e1
      cases e1
      refine .inr ⟨g, 0, rfl, wblk_lt k3, fun i s hi => ?_⟩
      rw [Nat.zero_add]
      exact hc i (encStr s) (by rw [List.getElem?_map, hi]; rfl)
theorem StIn.below {w w' : World} {a : Option Addr} {l : List (List UInt8)} (h : StIn w a l) (hb : Below w.heap.size w w') : StIn w' a l := by
  rcases h with h | ⟨g, o, ha, hg, h⟩
  · exact .inl h
  · exact .inr ⟨g, o, ha, Nat.lt_of_lt_of_le hg hb.size, fun i s hi => (hb.cell (p := ⟨g, _, none⟩) hg).trans (h i s hi)⟩
theorem rise_unique : ∀ {l m : List (List UInt8)}, l.Pairwise (fun x y => x ≤ y) → m.Pairwise (fun x y => x ≤ y) → l.Nodup → m.Nodup → (∀ x, x ∈ l ↔ x ∈ m) → l = m
  | [], [], _, _, _, _, _ => rfl
  | [], b :: m, _, _, _, _, h => by have := (h b).2 (by simp); cases this
  | a :: l, [], _, _, _, _, h => by have := (h a).1 (by simp); cases this
  | a :: l, b :: m, h1, h2, h3, h4, h => by
    obtain ⟨p1, p2⟩ := List.pairwise_cons.1 h1
    obtain ⟨q1, q2⟩ := List.pairwise_cons.1 h2
    obtain ⟨r1, r2⟩ := List.nodup_cons.1 h3
    obtain ⟨s1, s2⟩ := List.nodup_cons.1 h4
    have hab : a = b := by
      rcases List.mem_cons.1 ((h a).1 (by simp)) with e | e
      · exact e
      · rcases List.mem_cons.1 ((h b).2 (by simp)) with e2 | e2
        · exact e2.symm
        · exact List.le_antisymm (p1 b e2) (q1 a e)
    subst hab
    rw [rise_unique p2 q2 r2 s2 (fun x => ?_)]
    constructor
    · intro hx
      rcases List.mem_cons.1 ((h x).1 (by simp [hx])) with e | e
      · subst e; exact absurd hx r1
      · exact e
    · intro hx
      rcases List.mem_cons.1 ((h x).2 (by simp [hx])) with e | e
      · subst e; exact absurd hx s1
      · exact e
end Go.Proofs.Ytebbbefknfldoaa
/- Equs laid behind equs. -/
namespace Go.Proofs.Ytebbbefknfldoaa
open Go.ChangeShapes Go.WideShapes Go.ChangeAt Go.RowKit
set_option linter.unusedVariables false
set_option linter.unusedSimpArgs false
set_option maxRecDepth 100000
theorem step_equ {ops : Array Oper} {o : Oper} {a : Act} {K : Act → World → Prop} {Q : Exit → Act → World → Prop} {E : Prop} (w : World) (hgd : o.guard = none) (s x : Operand)
    (ho : o.op = .call { callee := .builtin .append, args := #[s, x], argTypes := #[22, 22] }) (base : Nat) (v : Value) (n : Nat) (xs : List Value) (hs : a.eval s = v) (hown : w.ownsRow base 31 3 v n xs)
    (vb : Value) (m : Nat) (news : List Value) (hx : a.eval x = vb) (hsrc : Src w vb m news) (hl : news.length = m * 3) (h1 : ∀ u ∈ news, u.oneCell' = true) (hn : n + m ≤ 1000000) (hbase : base ≤ w.heap.size)
    (h : ∀ v' w', w'.ownsRow base 31 3 v' (n + m) (xs ++ news) → w.grownBy w' v.ownBlock → (v'.ownBlock = v.ownBlock ∨ v'.ownBlock = some w.heap.size) → K (a.put o.dst v') w') :
    if Region.wanted o (yielded ops a.tmps) = true then Oper.wp Try.prog o a w K Q else E := by
  have hw : Region.wanted o (yielded ops a.tmps) = true := by simp [Region.wanted, hgd]
  rw [if_pos hw]
  obtain ⟨i31, hi31, z0, z1, z2⟩ := info_parts info31
  obtain ⟨v', w', hrun, r1, r2, r3⟩ := app_run (P := Try.prog) w base 22 o.type 31 i31 _ 3 48 Try.underlying22 hi31 z0 z1 z2 rfl (by decide) v n xs hown vb m news hsrc hl h1 (by unfold maxLen; omega) (by omega) hbase
  unfold Oper.wp
  simp [execOp, ho, resolve, invoke, builtin, hs, hx, hrun, Result.andThen]
  exact h v' w' r1 r2 r3
def rowQ (qs : List (Eqv × Option Addr × Nat)) : List Value := qs.flatMap fun q => [.string (str q.1.1), .slice q.2.1 q.1.2.terms.length q.2.2, .int .u32 q.1.2.const]
theorem rowQ_app (a b : List (Eqv × Option Addr × Nat)) : rowQ (a ++ b) = rowQ a ++ rowQ b := by simp [rowQ]
theorem rowQ_len (qs : List (Eqv × Option Addr × Nat)) : (rowQ qs).length = qs.length * 3 := by
  induction qs with
  | nil => rfl
  | cons x l ih => show (_ :: _ :: _ :: rowQ l).length = _; simp [ih]; omega
theorem rowQ_one (qs : List (Eqv × Option Addr × Nat)) : ∀ u ∈ rowQ qs, u.oneCell' = true := fun u hu => by
  simp only [rowQ, List.mem_flatMap] at hu
  obtain ⟨q, _, hu⟩ := hu
  simp at hu
  rcases hu with rfl | rfl | rfl <;> rfl
theorem rowQ_get : ∀ (qs : List (Eqv × Option Addr × Nat)) (i : Nat) (q : Eqv × Option Addr × Nat), qs[i]? = some q → (rowQ qs)[i * 3]? = some (.string (str q.1.1)) ∧ (rowQ qs)[i * 3 + 1]? = some (.slice q.2.1 q.1.2.terms.length q.2.2) ∧ (rowQ qs)[i * 3 + 2]? = some (.int .u32 q.1.2.const)
  | [], i, q, h => by cases h
  | x :: l, 0, q, h => by
    have : x = q := by simpa using h
    subst this
    exact ⟨rfl, rfl, rfl⟩
  | x :: l, i + 1, q, h => by
    obtain ⟨h1, h2, h3⟩ := rowQ_get l i q (by simpa using h)
    have e : rowQ (x :: l) = .string (str x.1.1) :: .slice x.2.1 x.1.2.terms.length x.2.2 :: .int .u32 x.1.2.const :: rowQ l := rfl
    rw [e, show (i + 1) * 3 = i * 3 + 1 + 1 + 1 by omega]
    exact ⟨h1, h2, h3⟩
theorem rowQ_at : ∀ (qs : List (Eqv × Option Addr × Nat)) (j : Nat) (u : Value), (rowQ qs)[j]? = some u → ∃ i q r, qs[i]? = some q ∧ r < 3 ∧ j = i * 3 + r ∧ [Value.string (str q.1.1), .slice q.2.1 q.1.2.terms.length q.2.2, .int .u32 q.1.2.const][r]? = some u
  | [], j, u, h => by cases h
  | x :: l, 0, u, h => ⟨0, x, 0, rfl, by omega, rfl, h⟩
  | x :: l, 1, u, h => ⟨0, x, 1, rfl, by omega, rfl, h⟩
  | x :: l, 2, u, h => ⟨0, x, 2, rfl, by omega, rfl, h⟩
  | x :: l, j + 3, u, h => by
    have e : rowQ (x :: l) = .string (str x.1.1) :: .slice x.2.1 x.1.2.terms.length x.2.2 :: .int .u32 x.1.2.const :: rowQ l := rfl
    rw [e] at h
    obtain ⟨i, q, r, h1, h2, h3, h4⟩ := rowQ_at l j u (by simpa using h)
    exact ⟨i + 1, q, r, by simpa using h1, h2, by omega, h4⟩
structure EqQ (w : World) (g o : Nat) (qs : List (Eqv × Option Addr × Nat)) : Prop where
  lt : g < w.heap.size
  at_ : ∀ i q, qs[i]? = some q → EqAt w g (o + i * 3) q.1 q.2.1 q.2.2
theorem EqQ.below {w w' : World} {g o : Nat} {qs : List (Eqv × Option Addr × Nat)} (h : EqQ w g o qs) (hb : Below w.heap.size w w') : EqQ w' g o qs :=
  ⟨Nat.lt_of_lt_of_le h.lt hb.size, fun i q hq => (h.at_ i q hq).below h.lt hb⟩
theorem eqIn_q {w : World} {a : Option Addr} {l : List Eqv} (h : EqIn w a l) (h0 : l ≠ []) : ∃ g o qs, a = some ⟨g, o, none⟩ ∧ qs.map (·.1) = l ∧ EqQ w g o qs := by
  rcases h with e | ⟨g, o, ha, hg, h⟩
  · exact absurd e h0
  · have : ∀ i, ∃ p : Option Addr × Nat, ∀ q, l[i]? = some q → EqAt w g (o + i * 3) q p.1 p.2 := fun i => by
      cases hq : l[i]? with
      | none => exact ⟨(none, 0), fun q hq => by cases hq⟩
      | some q =>
        obtain ⟨va, vc, h1⟩ := h i q hq
        exact ⟨(va, vc), fun q' hq' => by cases hq'; exact h1⟩
    obtain ⟨f, hf⟩ := Classical.axiomOfChoice this
    refine ⟨g, o, (List.range l.length).map fun i => ((l[i]?).getD ([], ⟨[], 0⟩), f i), ha, ?_, hg, fun i q hq => ?_⟩
    · apply List.ext_getElem?
      intro i
      rw [List.getElem?_map, List.getElem?_map]
      by_cases hi : i < l.length
      · rw [List.getElem?_range hi, List.getElem?_eq_getElem hi]; simp [hi]
      · rw [List.getElem?_eq_none (by simp; omega), List.getElem?_eq_none (by omega)]; rfl
    · rw [List.getElem?_map] at hq
      by_cases hi : i < l.length
      · rw [List.getElem?_range hi] at hq
        have hq' : ((l[i]?).getD ([], ⟨[], 0⟩), f i) = q := by simpa using hq
        subst hq'
        have := hf i l[i] (List.getElem?_eq_getElem hi)
        simpa [List.getElem?_eq_getElem hi] using this
      · rw [List.getElem?_eq_none (by simp; omega)] at hq; cases hq
theorem EqQ.cell {w : World} {g o : Nat} {qs : List (Eqv × Option Addr × Nat)} (h : EqQ w g o qs) {j : Nat} {u : Value} (hu : (rowQ qs)[j]? = some u) : w.cell? ⟨g, o + j, none⟩ = some u := by
  obtain ⟨i, q, r, h1, h2, rfl, h4⟩ := rowQ_at qs j u hu
  obtain ⟨k1, k2, k3, _⟩ := h.at_ i q h1
  match r, h2, h4 with
  | 0, _, h4 => rw [show o + (i * 3 + 0) = o + i * 3 by omega, k1]; exact h4
  | 1, _, h4 => rw [show o + (i * 3 + 1) = o + i * 3 + 1 by omega, k2]; exact h4
  | 2, _, h4 => rw [show o + (i * 3 + 2) = o + i * 3 + 2 by omega, k3]; exact h4
theorem rowQ_drop (qs : List (Eqv × Option Addr × Nat)) (k : Nat) : rowQ (qs.drop k) = (rowQ qs).drop (k * 3) := by
  have h := rowQ_app (qs.take k) (qs.drop k)
  rw [List.take_append_drop] at h
  by_cases hk : k ≤ qs.length
  · rw [h, List.drop_left' (by rw [rowQ_len, List.length_take]; omega)]
  · rw [List.drop_of_length_le (by omega), List.drop_of_length_le (by rw [rowQ_len]; omega)]; rfl
theorem rowQ_take (qs : List (Eqv × Option Addr × Nat)) (k : Nat) : rowQ (qs.take k) = (rowQ qs).take (k * 3) := by
  have h := rowQ_app (qs.take k) (qs.drop k)
  rw [List.take_append_drop] at h
  by_cases hk : k ≤ qs.length
  · rw [h, List.take_left' (by rw [rowQ_len, List.length_take]; omega)]
  · rw [List.take_of_length_le (by omega), List.take_of_length_le (by rw [rowQ_len]; omega)]
theorem add_off (g o j : Nat) : (⟨g, o, none⟩ : Addr).add j = ⟨g, o + j, none⟩ := by unfold Addr.add; split <;> simp_all
theorem EqQ.srcDrop {w : World} {g o : Nat} {qs : List (Eqv × Option Addr × Nat)} (h : EqQ w g o qs) (k c : Nat) (hk : k ≤ qs.length) : Src w (.slice (some ⟨g, o + k * 3, none⟩) (qs.length - k) c) (qs.length - k) (rowQ (qs.drop k)) :=
  .inr ⟨_, c, rfl, fun j u hu => by
    rw [rowQ_drop, List.getElem?_drop] at hu
    rw [add_off, show o + k * 3 + j = o + (k * 3 + j) by omega]
    exact h.cell hu⟩
theorem EqQ.srcTake {w : World} {g o : Nat} {qs : List (Eqv × Option Addr × Nat)} (h : EqQ w g o qs) (k c : Nat) : Src w (.slice (some ⟨g, o, none⟩) k c) k (rowQ (qs.take k)) :=
  .inr ⟨_, c, rfl, fun j u hu => by
    rw [rowQ_take, List.getElem?_take] at hu
    split at hu
    · rw [add_off]; exact h.cell hu
    · cases hu⟩
theorem own_eqIn {w : World} {lo : Nat} {a : Option Addr} {n c : Nat} {qs : List (Eqv × Option Addr × Nat)} (ho : w.ownsRow lo 31 3 (.slice a n c) n (rowQ qs)) (hn : n = qs.length) (hl : ∀ q ∈ qs, TmLies w q.2.1 q.1.2.terms) : EqIn w a (qs.map (·.1)) := by
  by_cases h0 : n = 0
  · refine .inl ?_
    rw [List.eq_nil_of_length_eq_zero (by omega : qs.length = 0)]; rfl
  · obtain ⟨g, rfl, _, hc⟩ := own_addr ho (by omega)
    rcases ho.2 with ⟨_, e⟩ | ⟨g', cap, cur, hv, k2, k3, _⟩
    · omega
    · injection hv with e1
      cases e1
      refine .inr ⟨g, 0, rfl, wblk_lt k3, fun i e hi => ?_⟩
      rw [List.getElem?_map] at hi
      cases hq : qs[i]? with
      | none => rw [hq] at hi; cases hi
      | some q =>
        rw [hq] at hi
        have : q.1 = e := by simpa using hi
        subst this
        obtain ⟨h1, h2, h3⟩ := rowQ_get qs i q hq
        exact ⟨q.2.1, q.2.2, by rw [Nat.zero_add]; exact hc _ _ h1, by rw [Nat.zero_add]; exact hc _ _ h2, by rw [Nat.zero_add]; exact hc _ _ h3, hl q (List.mem_of_getElem? hq)⟩
theorem within_any (t : Int) (n : Nat) (hn : n < 1000) (w : World) : Calls Try.prog 22 #[.int .i64 t, .int .i64 0, .int .i64 (n : Int)] w fun e w' => ∃ k : Nat, k ≤ n ∧ e = .returned (.int .i64 (k : Int)) ∧ w' = w := by
  have h1 : ((n : Int) + 1) ≠ 0 := by omega
  have hr1 := Int.tmod_lt_of_pos t (show (0 : Int) < (n : Int) + 1 by omega)
  have hr2 : -((n : Int) + 1) < t.tmod ((n : Int) + 1) := by
    have := Int.tmod_lt_of_pos (-t) (show (0 : Int) < (n : Int) + 1 by omega)
    rw [Int.neg_tmod] at this
    omega
  have hw1 : ¬ ((n : Int) + 1 = 0) := h1
  obtain ⟨r, hr⟩ : ∃ r, r = t.tmod ((n : Int) + 1) := ⟨_, rfl⟩
  rw [← hr] at hr1 hr2
  go_enter Try.func22, Try.ntmps22
  go_upto_region 2 with fail
  all_goals first | omega | skip
  rw [← hr]
  clear hr hw1
  by_cases h0 : r < 0
  · obtain ⟨k, hk⟩ : ∃ k : Nat, (k : Int) = r + n + 1 := ⟨(r + n + 1).toNat, by omega⟩
    obtain rfl : r = (k : Int) - n - 1 := by omega
    clear hk
    go_wp2
    all_goals first | omega | skip
    go_ret
    refine ⟨k, by omega, ?_, rfl⟩
    first | rfl | (refine congrArg (fun z => Ending.returned (Value.int .i64 z)) ?_; omega)
  · obtain ⟨k, rfl⟩ : ∃ k : Nat, r = (k : Int) := ⟨r.toNat, by omega⟩
    go_wp2
    all_goals first | omega | skip
    go_ret
    refine ⟨k, by omega, ?_, rfl⟩
    first | rfl | (refine congrArg (fun z => Ending.returned (Value.int .i64 z)) ?_; omega)
end Go.Proofs.Ytebbbefknfldoaa
namespace Go.Proofs.Ytebbbefknfldoaa
open Go.ChangeShapes Go.WideShapes Go.ChangeAt Go.RowKit
set_option linter.unusedVariables false
set_option linter.unusedSimpArgs false
set_option maxRecDepth 100000
theorem sz_all (adj : Nat → List Nat) (self : Nat → Bool) (n : Nat) : ∀ (is : List Nat) (s : Ta.St), Sz s → Sz (Ta.allF adj self n is s)
  | [], s, h => h
  | i :: is, s, h => by
    rw [Ta.allF]
    by_cases h0 : s.met i = 0
    · rw [if_pos h0]; exact sz_all adj self n is _ (sz_visit adj self n i s h)
    · rw [if_neg h0]; exact sz_all adj self n is s h
theorem walk_len {l : List Eqv} (hnd : (l.map (·.1)).Nodup) (hl : l.length < Ta.big) : (walkL l).order.length ≤ l.length := by
  have h1 := (Ta.all_is (self := selfF l) hl (adj_lt l) (self_adj hnd) (List.range l.length) Ta.zeroS (fun i hi => List.mem_range.1 hi) Ta.inv_zero rfl).1
  have h2 : Sz (walkL l) := sz_all _ _ _ _ _ (by show 0 + 0 ≤ 0; omega)
  have h3 : (walkL l).count + Ta.left l.length (walkL l).met ≤ l.length := h1.cnt
  unfold Sz at h2
  omega
structure SolvIn (l : List Eqv) : Prop where
  len : l.length ≤ 60
  nd : (l.map (·.1)).Nodup
  nm : ∀ q ∈ l, q.1.length ≤ 140737488355328
  can : ∀ q ∈ l, CanL q.2
  nms : (nmsOf l).length ≤ 4400000
  nml : ∀ s ∈ nmsOf l, s.length ≤ 140737488355328
theorem nms_mem {l : List Eqv} {q : Eqv} (hq : q ∈ l) {t : Tm} (ht : t ∈ q.2.terms) : t.name ∈ nmsOf l := List.mem_flatMap.2 ⟨q, hq, List.mem_map.2 ⟨t, ht, rfl⟩⟩
section
variable {l : List Eqv}
theorem SolvIn.big (h : SolvIn l) : l.length < Ta.big := Nat.lt_of_le_of_lt h.len (by decide)
theorem SolvIn.held (h : SolvIn l) : ∀ q ∈ l, q.1.length ≤ 140737488355328 ∧ q.2.terms.length ≤ 4400000 ∧ ∀ t ∈ q.2.terms, t.name.length ≤ 140737488355328 := fun q hq =>
  ⟨h.nm q hq, Nat.le_trans (canon_len (h.can q hq).terms fun t ht => nms_mem hq ht) h.nms, fun t ht => h.nml _ (nms_mem hq ht)⟩
theorem SolvIn.slb (h : SolvIn l) (hc : ∀ x, ¬ CycN l x) : Slb l := ⟨h.nd, h.big, hc, walk_len h.nd h.big⟩
theorem SolvIn.perm {m : List Eqv} (h : SolvIn l) (hp : m.Perm l) : SolvIn m := by
  refine ⟨by rw [hp.length_eq]; exact h.len, (hp.map _).nodup_iff.2 h.nd, fun q hq => h.nm q (hp.mem_iff.1 hq), fun q hq => h.can q (hp.mem_iff.1 hq), ?_, fun s hs => ?_⟩
  · have : (nmsOf m).Perm (nmsOf l) := hp.flatMap_right _
    rw [this.length_eq]; exact h.nms
  · have : (nmsOf m).Perm (nmsOf l) := hp.flatMap_right _
    exact h.nml s (this.mem_iff.1 hs)
theorem solL_len : (solL l).length = l.length := by simp [solL]
theorem solL_mem (h : SolvIn l) : ∀ q ∈ solL l, q.1.length ≤ 140737488355328 ∧ CanL q.2 ∧ ∀ t ∈ q.2.terms, t.name ∈ nmsOf l := fun q hq => by
  rw [solL_eq] at hq
  obtain ⟨p, hp, rfl⟩ := List.mem_map.1 hq
  refine ⟨h.nm p hp, ?_⟩
  dsimp only
  cases hs : solF l p.1 with
  | none => exact ⟨⟨Canon.nil, by decide⟩, fun t ht => by cases ht⟩
  | some e => exact svF_can l _ _ e hs
theorem solve_good (h : SolvIn l) (hc : ∀ x, ¬ CycN l x) (la : Option Addr) (lc : Nat) (w : World) (hE : EqIn w la l) :
    Calls Try.prog 8 #[.slice la l.length lc] w fun e w' => ∃ g, e = .returned (.tuple #[.slice (some ⟨g, 0, none⟩) l.length l.length, .int .i64 0, .int .i64 0]) ∧ EqIn w' (some ⟨g, 0, none⟩) (solL l) ∧ Below w.heap.size w w' := by
  refine (solve_ok l la lc (by have := h.len; omega) h.nd (fun q hq => ⟨h.nm q hq, h.can q hq⟩) h.nms h.nml hc w hE).mono ?_
  rintro e w' ⟨g, v, rfl, hS⟩
  exact ⟨g, rfl, sol_eqIn hS, hS.bel⟩
theorem solve_not (h : SolvIn l) (hc : ∃ x, CycN l x) (la : Option Addr) (lc : Nat) (w : World) (hE : EqIn w la l) :
    Calls Try.prog 8 #[.slice la l.length lc] w fun e w' => ∃ m : Nat, e = .returned (.tuple #[.slice none 0 0, .int .i64 (m : Int), .int .i64 24]) ∧ FirstC l m ∧ Below w.heap.size w w' :=
  solve_bad l la lc (by have := h.len; omega) h.nd h.held hc w hE
theorem cycle_in (h : SolvIn l) (la : Option Addr) (lc : Nat) (w : World) (hE : EqIn w la l) :
    Calls Try.prog 10 #[.slice la l.length lc] w fun e w' => Below w.heap.size w w' ∧ ∃ (v : Value) (ss : List (List UInt8)), e = .returned v ∧ w'.ownsRow w.heap.size 9 1 v ss.length (ss.map encStr) ∧ ss.Pairwise (fun x y => x ≤ y) ∧ ss.Nodup ∧ ∀ x, x ∈ ss ↔ CycN l x :=
  cycle_any l la lc (by have := h.len; omega) h.nd h.held w hE
theorem put_stays (h : SolvIn l) (hc : ∀ x, ¬ CycN l x) {i : Nat} {q : Eqv} (hq : (solL l)[i]? = some q) (la : Option Addr) (lc : Nat) (va : Option Addr) (vc : Nat) (w : World) (hE : EqIn w la (solL l)) (hT : TmLies w va q.2.terms) :
    Calls Try.prog 12 #[linV (.slice va q.2.terms.length vc) q.2.const, .slice la l.length lc] w fun e w' => Below w.heap.size w w' ∧ ∃ v, e = .returned (linV v q.2.const) ∧ w'.ownsRow w.heap.size 49 2 v q.2.terms.length (rowT q.2.terms) := by
  obtain ⟨_, hqc, hqn⟩ := solL_mem h q (List.mem_of_getElem? hq)
  have hst : putN (eqF (solL l)) q.2 = q.2 := putN_none hqc fun t ht => by
    cases he : eqF (solL l) t.name with
    | none => rfl
    | some e =>
      exfalso
      obtain ⟨p, hp, hpn, _⟩ := eqF_some he
      rw [solL_eq] at hp hq
      obtain ⟨r, hr, rfl⟩ := List.mem_map.1 hp
      obtain ⟨k, hk, rfl⟩ := List.getElem_of_mem hr
      rw [List.getElem?_map] at hq
      by_cases hi : i < l.length
      · rw [List.getElem?_eq_getElem hi] at hq
        have hq' : (l[i].1, (solF l l[i].1).getD ⟨[], 0⟩) = q := by simpa using hq
        subst hq'
        have hs := h.slb hc
        have hni : nmOf l i = l[i].1 := nmOf_get (List.getElem?_eq_getElem hi)
        have hnk : nmOf l k = l[k].1 := nmOf_get (List.getElem?_eq_getElem hk)
        obtain ⟨e', he'⟩ := Option.isSome_iff_exists.1 ((hs.dom l[i].1).2 ⟨i, hi, hni⟩)
        dsimp only at ht
        rw [he'] at ht
        have := hs.free i hi e' (by rw [hni]; exact he') t ht
        have h2 := (hs.none_iff t.name).1 this k hk
        exact h2 (hnk.trans hpn)
      · rw [List.getElem?_eq_none (by omega)] at hq; cases hq
  have := putL_any (solL l) q.2 (nmsOf l) h.nms h.nml hqc hqn (by rw [solL_len]; have := h.len; omega) (solL_mem h) va la vc lc w hT hE
  rw [hst, solL_len] at this
  exact this
theorem turn_perm (k : Nat) : (l.drop k ++ l.take k).Perm l := (List.perm_append_comm).trans (by rw [List.take_append_drop])
theorem turn_cyc (h : SolvIn l) (k : Nat) (x : List UInt8) : CycN l x ↔ CycN (l.drop k ++ l.take k) x := cyc_mem2 h.nd (h.perm (turn_perm k)).nd (fun q => (turn_perm k).mem_iff.symm) x
theorem turn_sol (h : SolvIn l) (hc : ∀ x, ¬ CycN l x) (k : Nat) : solL (l.drop k ++ l.take k) = (solL l).drop k ++ (solL l).take k := by
  have h2 := (h.perm (turn_perm k)).slb (fun x hx => hc x ((turn_cyc h k x).2 hx))
  have hs := sol_mem (h.slb hc) h2 (fun q => (turn_perm k).mem_iff.symm)
  rw [solL_eq, solL_eq, ← hs, List.map_append, List.map_drop, List.map_take]
end
end Go.Proofs.Ytebbbefknfldoaa

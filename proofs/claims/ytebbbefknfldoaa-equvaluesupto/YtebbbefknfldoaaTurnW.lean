/- EquTurned: its walk. -/
import Derived.Test.YtebbbefknfldoaaRBk
import Derived.Test.YtebbbefknfldoaaRefRight
import Derived.Test.YtebbbefknfldoaaPut1
import Derived.Test.YtebbbefknfldoaaWk5
import Derived.Test.YtebbbefknfldoaaRPt
import Derived.Deep.DeepCutAuto
import Derived.Deep.RegionHeld3
/- The law's right: equs that are right, each name once. -/
namespace Go.Proofs.Ytebbbefknfldoaa
open Go.ChangeShapes Go.WideShapes Go.ChangeAt Go.RowKit
set_option linter.unusedVariables false
set_option linter.unusedSimpArgs false
set_option maxRecDepth 100000
theorem right_tail {p : Option (List UInt8)} {t : Tm} {r : List Tm} (h : rightF p (t :: r) = true) : t.coef ≠ 0 ∧ legB (str t.name) = true ∧ (∀ q, p = some q → nlt q t.name = true) ∧ rightF (some t.name) r = true := by
  simp only [rightF, okT, Bool.and_eq_true, decide_eq_true_eq] at h
  refine ⟨h.1.1, h.1.2.1, fun q hq => ?_, h.2⟩
  subst hq
  exact h.1.2.2
theorem right_legal {ts : List Tm} : ∀ {p : Option (List UInt8)}, rightF p ts = true → ∀ t ∈ ts, legB (str t.name) = true := by
  induction ts with
  | nil => intro p h t ht; cases ht
  | cons x r ih =>
    intro p h t ht
    obtain ⟨_, h2, _, h4⟩ := right_tail h
    rcases List.mem_cons.1 ht with rfl | ht
    · exact h2
    · exact ih h4 t ht
theorem right_rise {ts : List Tm} : ∀ {q : List UInt8}, rightF (some q) ts = true → ∀ t ∈ ts, nlt q t.name = true := by
  induction ts with
  | nil => intro q h t ht; cases ht
  | cons x r ih =>
    intro q h t ht
    obtain ⟨_, _, h3, h4⟩ := right_tail h
    rcases List.mem_cons.1 ht with rfl | ht
    · exact h3 q rfl
    · exact nlt_trans (h3 q rfl) (ih h4 t ht)
theorem right_canon {ts : List Tm} (hc : ∀ t ∈ ts, 0 ≤ t.coef ∧ t.coef < 4294967296) : ∀ {p : Option (List UInt8)}, rightF p ts = true → Canon ts := by
  induction ts with
  | nil => intro p h; exact Canon.nil
  | cons x r ih =>
    intro p h
    obtain ⟨h1, _, _, h4⟩ := right_tail h
    have hr := ih (fun t ht => hc t (by simp [ht])) h4
    refine ⟨List.pairwise_cons.2 ⟨right_rise h4, hr.rise⟩, fun t ht => ?_⟩
    rcases List.mem_cons.1 ht with rfl | ht
    · have := hc t (by simp)
      omega
    · exact hr.some t ht
def RightP (l : List Eqv) : Prop := l.length ≤ 60 ∧ (∀ q ∈ l, legB (str q.1) = true ∧ rightF none q.2.terms = true) ∧ (l.map (·.1)).Nodup
noncomputable def rightB (l : List Eqv) : Bool := @decide (RightP l) (Classical.propDecidable _)
theorem rightB_pos {l : List Eqv} (h : RightP l) : rightB l = true := by unfold rightB; exact @decide_eq_true _ (Classical.propDecidable _) h
theorem rightB_neg {l : List Eqv} (h : ¬ RightP l) : rightB l = false := by unfold rightB; exact @decide_eq_false _ (Classical.propDecidable _) h
theorem below_drewR {B : Nat} {a w : World} (h : Below B a w) (n : Nat) : Below B a (w.drewN n) := ⟨h.os, h.tape, h.output, h.size, h.block⟩
set_option maxHeartbeats 16000000 in
theorem right11_any (l : List Eqv) (la : Option Addr) (lc : Nat) (hl : l.length ≤ 4400000) (hh : ∀ q ∈ l, q.1.length ≤ 1100000 ∧ q.2.terms.length ≤ 9000000 ∧ ∀ t ∈ q.2.terms, t.name.length ≤ 1100000) (w : World) (hE : EqIn w la l) :
    Calls Try.prog 15 #[.slice la l.length lc] w fun e w' => e = .returned (.bool (rightB l)) ∧ Below w.heap.size w w' := by
  obtain ⟨n0, hn0⟩ : ∃ n0, n0 = l.length := ⟨_, rfl⟩
  have hH := Hid.intro hn0
  rw [← hn0] at hl ⊢
  have hEH := Hid.intro hE
  have hhH := Hid.intro hh
  obtain ⟨AA, hAA⟩ : ∃ AA, AA = rightB l := ⟨_, rfl⟩
  rw [← hAA]
  have hA := Hid.intro hAA
  clear hE hh hn0 hAA
  by_cases hbig : (60 : Int) < (n0 : Int)
  · have hf : AA = false := by rw [hA.out]; exact rightB_neg fun h => by have := h.1; rw [← hH.out] at this; omega
    subst hf
    go_enter Try.func15, Try.ntmps15
    go_wp2
    all_goals first | omega | skip
    go_ret
    exact ⟨rfl, Below.refl _ _⟩
  · have hl60 : n0 ≤ 60 := by omega
    have hyes : Hid ((∀ q ∈ l.take n0, legB (str q.1) = true ∧ rightF none q.2.terms = true) → ((l.take n0).map (·.1)).Nodup → AA = true) := fun h1 h2 => by
      rw [hH.out, List.take_length] at h1 h2
      rw [hA.out]
      exact rightB_pos ⟨by rw [← hH.out]; exact hl60, h1, h2⟩
    have hno : Hid (∀ (i : Nat) (q : Eqv), l[i]? = some q → ¬ (legB (str q.1) = true ∧ rightF none q.2.terms = true) → AA = false) := fun i q hq h => by
      rw [hA.out]
      exact rightB_neg fun hr => h (hr.2.1 q (List.mem_of_getElem? hq))
    have hdup : Hid (∀ (i j : Nat), j < i → i < l.length → nmOf l j = nmOf l i → AA = false) := fun i j hji hi e => by
      rw [hA.out]
      exact rightB_neg fun hr => by have := nm_inj hr.2.2 (by omega) hi e; omega
    go_enter Try.func15, Try.ntmps15
    go_wp2
    all_goals first | omega | skip
    go_loopw [3] (fun v3 wr => ∃ i : Nat, i ≤ n0 ∧ v3 = .int .i64 (i : Int) ∧ Hid (Below w.heap.size w wr) ∧ Hid (∀ q ∈ l.take i, legB (str q.1) = true ∧ rightF none q.2.terms = true) ∧ Hid (((l.take i).map (·.1)).Nodup)) (fun v3 _ => n0 - (intOf v3).toNat)
    case atStart => exact ⟨0, by omega, by first | rfl | go_num, Below.refl _ _, (fun q hq => by cases hq), by show (([] : List Eqv).map _).Nodup; simp⟩
    case round =>
      obtain ⟨i, hi, rfl, hB, hR, hN⟩ := hrel
      by_cases hin : i < n0
      · have hil : i < l.length := by rw [← hH.out]; exact hin
        have hq : l[i]? = some l[i] := List.getElem?_eq_getElem hil
        obtain ⟨q, hqe⟩ : ∃ q, q = l[i] := ⟨_, rfl⟩
        rw [← hqe] at hq
        obtain ⟨gl, ol, rfl, hgl, va, vc, k0, k1, k2, k3⟩ := eqIn_at hEH.out hq
        have q0 := (hB.out.cell (p := ⟨gl, ol + i * 3, none⟩) hgl).trans k0
        have q1 := (hB.out.cell (p := ⟨gl, ol + i * 3 + 1, none⟩) hgl).trans k1
        have q2 := (hB.out.cell (p := ⟨gl, ol + i * 3 + 2, none⟩) hgl).trans k2
        obtain ⟨hh1, hh2, hh3⟩ := hhH.out q (List.mem_of_getElem? hq)
        have h32 := Hid.intro (fun W => refLegal_any (str q.1) (by simp [str, ByteArray.size]; omega) W)
        have h16 := Hid.intro (refRight_any va vc q.2.terms q.2.const wr (k3.below hB.out (Nat.le_refl _)) hh2 hh3)
        have hqH := Hid.intro hq
        obtain ⟨tl, htl⟩ : ∃ tl, tl = q.2.terms.length := ⟨_, rfl⟩
        rw [← htl] at h16 q1
        clear hqe k0 k1 k2 k3 htl hh1 hh2 hh3
        cases hleg : legB (str q.1) with
        | false =>
          have hf := hno.out i q hq (fun h => by rw [hleg] at h; cases h.1)
          subst hf
          rw [hleg] at h32
          clear hleg hq
          go_wp2_with (go_at_call 32; (with_reducible refine (h32.out _).mono ?_); rintro e w2 ⟨rfl, rfl⟩)
          all_goals first | omega | skip
          go_ret
          exact ⟨rfl, hB.out⟩
        | true =>
          rw [hleg] at h32
          cases hrt : rightF none q.2.terms with
          | false =>
            have hf := hno.out i q hq (fun h => by rw [hrt] at h; cases h.2)
            subst hf
            rw [hrt] at h16
            clear hleg hrt hq
            go_wp2_with (first | (go_at_call 32; (with_reducible refine (h32.out _).mono ?_); rintro e w2 ⟨rfl, rfl⟩) | (go_at_call 16; (with_reducible refine (h16.out).mono ?_); rintro e w2 ⟨rfl, hb2⟩; have hB2 := Hid.intro (hB.out.trans (hb2.mono hB.out.size)); clear hb2))
            all_goals first | omega | skip
            go_ret
            exact ⟨rfl, hB2.out⟩
          | true =>
            have hR2 : Hid (∀ p ∈ l.take (i + 1), legB (str p.1) = true ∧ rightF none p.2.terms = true) := fun p hp => by
              rw [List.take_add_one, hq] at hp
              rcases List.mem_append.1 hp with hp | hp
              · exact hR.out p hp
              · have : p = q := by simpa using hp
                rw [this]; exact ⟨hleg, hrt⟩
            rw [hrt] at h16
            clear hleg hrt hq
            go_wp2_with (first | (go_at_call 32; (with_reducible refine (h32.out _).mono ?_); rintro e w2 ⟨rfl, rfl⟩) | (go_at_call 16; (with_reducible refine (h16.out).mono ?_); rintro e w2 ⟨rfl, hb2⟩; have hB2 := Hid.intro (hB.out.trans (hb2.mono hB.out.size)); clear hb2))
            all_goals first | omega | skip
            clear h32 h16 q0 q1 q2 hB
            go_loopw [4] (fun v4 wr => ∃ j : Nat, j ≤ i ∧ v4 = .int .i64 (j : Int) ∧ Hid (Below w.heap.size w wr) ∧ Hid (∀ k, k < j → nmOf l k ≠ nmOf l i)) (fun v4 _ => i - (intOf v4).toNat)
            case atStart => exact ⟨0, by omega, by first | rfl | go_num, hB2, fun k hk => by omega⟩
            case round =>
              obtain ⟨j, hj, rfl, hB3, hne⟩ := hrel
              by_cases hji : j < i
              · have hjl : j < l.length := by omega
                have hqj : l[j]? = some l[j] := List.getElem?_eq_getElem hjl
                obtain ⟨p, hpe⟩ : ∃ p, p = l[j] := ⟨_, rfl⟩
                rw [← hpe] at hqj
                have d0 : wr.cell? ⟨gl, ol + j * 3, none⟩ = some (.string (str p.1)) := by
                  obtain ⟨gl', ol', e, hgl', va', vc', k0, _⟩ := eqIn_at hEH.out hqj
                  cases e
                  exact (hB3.out.cell (p := ⟨gl, ol + j * 3, none⟩) hgl').trans k0
                have d1 : wr.cell? ⟨gl, ol + i * 3, none⟩ = some (.string (str q.1)) := by
                  obtain ⟨gl', ol', e, hgl', va', vc', k0, _⟩ := eqIn_at hEH.out hqH.out
                  cases e
                  exact (hB3.out.cell (p := ⟨gl, ol + i * 3, none⟩) hgl').trans k0
                have hbe := str_beq p.1 q.1
                have hp1 := nmOf_get hqj
                have hq1 := nmOf_get hqH.out
                by_cases hpq : p.1 = q.1
                · have hf := hdup.out i j hji hil (by rw [hp1, hq1, hpq])
                  subst hf
                  rw [decide_eq_true hpq] at hbe
                  clear hpe hqj hp1 hq1 hpq hjl
                  go_wp2_with fail
                  all_goals first | omega | skip
                  go_quiet (fail)
                  go_wp2_with fail
                  all_goals first | omega | skip
                  go_ret
                  exact ⟨rfl, below_drewR hB3.out _⟩
                · rw [decide_eq_false hpq] at hbe
                  have hne2 : Hid (∀ k, k < j + 1 → nmOf l k ≠ nmOf l i) := fun k hk => by
                    by_cases hkj : k = j
                    · rw [hkj, hp1, hq1]; exact hpq
                    · exact hne.out k (by omega)
                  have hB4 := Hid.intro (fun n => below_drewR hB3.out n)
                  clear hpe hqj hp1 hq1 hpq hjl hB3 hne
                  go_wp2_with fail
                  all_goals first | omega | skip
                  go_quiet (fail)
                  go_wp2_with fail
                  all_goals first | omega | skip
                  go_roundw
                  case rel => exact ⟨j + 1, by omega, by go_num, hB4.out _, hne2⟩
                  case measure => simp [intOf]; omega
              · obtain rfl : j = i := by omega
                have hN2 : Hid (((l.take (j + 1)).map (·.1)).Nodup) := by
                  show List.Nodup _
                  rw [List.take_add_one, hqH.out]
                  show (List.map _ (l.take j ++ [q])).Nodup
                  rw [List.map_append]
                  refine List.nodup_append.2 ⟨hN.out, by simp, fun a ha b hb e => ?_⟩
                  have hb' : b = q.1 := by simpa using hb
                  obtain ⟨p, hp, hpa⟩ := List.mem_map.1 ha
                  obtain ⟨k, hk, hke⟩ := List.getElem_of_mem hp
                  rw [List.length_take] at hk
                  rw [List.getElem_take] at hke
                  refine hne.out k (by omega) ?_
                  rw [nmOf_get (List.getElem?_eq_getElem (show k < l.length by omega)), nmOf_get hqH.out, hke, hpa, e, hb']
                clear hN hne hR hyes hno hdup
                go_wp2_with fail
                all_goals first | omega | skip
                go_roundw
                case rel => exact ⟨j + 1, by omega, by go_num, hB3, hR2, hN2⟩
                case measure => simp [intOf]; omega
      · obtain rfl : i = n0 := by omega
        have ht := hyes.out hR.out hN.out
        subst ht
        clear hyes hno hdup hR hN
        go_wp2_with fail
        all_goals first | omega | skip
        go_ret
        exact ⟨rfl, hB.out⟩
end Go.Proofs.Ytebbbefknfldoaa
/- The law's known runs. -/
namespace Go.Proofs.Ytebbbefknfldoaa
open Go.ChangeShapes Go.WideShapes Go.ChangeAt Go.RowKit
set_option linter.unusedVariables false
set_option linter.unusedSimpArgs false
set_option maxRecDepth 100000
theorem cyc_none {l : List Eqv} (hnd : (l.map (·.1)).Nodup) (hl : l.length < Ta.big) (h : (walkL l).back = []) : ∀ x, ¬ CycN l x := fun x hx => by
  have := (back_has hnd hl x).2 hx
  rw [h] at this
  cases this
theorem cyc_mem {l : List Eqv} (hnd : (l.map (·.1)).Nodup) (hl : l.length < Ta.big) {i : Nat} (hi : i < l.length) : Ta.Cyc (adjF l) i ↔ i ∈ (walkL l).back := by
  have := (walk_right hnd hl).2.1 i
  exact ⟨fun h => this.2 ⟨hi, h⟩, fun h => (this.1 h).2⟩
def k1L : List Eqv := [eqv [97] [98] 2 1, eqv [98] [99] 1 4294967293]
def k1A : List Eqv := [eqv [97] [99] 2 4294967291, eqv [98] [99] 1 4294967293]
def k2L : List Eqv := [eqv [120] [97] 1 0, eqv [97] [98] 1 0, eqv [98] [97] 1 0]
theorem k1_sol : solL k1L = k1A := by
  have h : (walkL k1L).order = [1, 0] := by decide +kernel
  unfold solL
  rw [h]
  have e0 : svF k1L [1, 0] [97] = some ⟨[⟨[99], 2⟩], 4294967291⟩ := by
    have t : ((svF k1L [1, 0] [97]).getD ⟨[], 0⟩).terms = [⟨[99], 2⟩] := by decide +kernel
    have c : ((svF k1L [1, 0] [97]).getD ⟨[], 0⟩).const = 4294967291 := by decide +kernel
    have s : (svF k1L [1, 0] [97]).isSome = true := by decide +kernel
    obtain ⟨e, he⟩ := Option.isSome_iff_exists.1 s
    rw [he] at t c ⊢
    obtain ⟨a, b⟩ := e
    dsimp only [Option.getD_some] at t c
    rw [t, c]
  have e1 : svF k1L [1, 0] [98] = some ⟨[⟨[99], 1⟩], 4294967293⟩ := by
    have t : ((svF k1L [1, 0] [98]).getD ⟨[], 0⟩).terms = [⟨[99], 1⟩] := by decide +kernel
    have c : ((svF k1L [1, 0] [98]).getD ⟨[], 0⟩).const = 4294967293 := by decide +kernel
    have s : (svF k1L [1, 0] [98]).isSome = true := by decide +kernel
    obtain ⟨e, he⟩ := Option.isSome_iff_exists.1 s
    rw [he] at t c ⊢
    obtain ⟨a, b⟩ := e
    dsimp only [Option.getD_some] at t c
    rw [t, c]
  show [(([97] : List UInt8), (svF k1L [1, 0] [97]).getD ⟨[], 0⟩), (([98] : List UInt8), (svF k1L [1, 0] [98]).getD ⟨[], 0⟩)] = _
  rw [e0, e1]
  rfl
theorem canL_one {ot : List UInt8} {n c : Int} (hn : 0 < n ∧ n < 4294967296) (hc : 0 ≤ c ∧ c < 4294967296) : CanL ⟨[⟨ot, n⟩], c⟩ :=
  ⟨⟨by simp, fun t ht => by rw [List.mem_singleton.1 ht]; exact hn⟩, hc⟩
theorem k1_held : ∀ q ∈ k1L, q.1.length ≤ 140737488355328 ∧ CanL q.2 := fun q hq => by
  have : q = eqv [97] [98] 2 1 ∨ q = eqv [98] [99] 1 4294967293 := by simpa [k1L] using hq
  rcases this with rfl | rfl
  · exact ⟨by decide, canL_one (by decide) (by decide)⟩
  · exact ⟨by decide, canL_one (by decide) (by decide)⟩
theorem held_of {l : List Eqv} (h : ∀ q ∈ l, q.1.length ≤ 100 ∧ q.2.terms.length ≤ 100 ∧ ∀ t ∈ q.2.terms, t.name.length ≤ 100) : ∀ q ∈ l, q.1.length ≤ 140737488355328 ∧ q.2.terms.length ≤ 4400000 ∧ ∀ t ∈ q.2.terms, t.name.length ≤ 140737488355328 := fun q hq => ⟨by have := (h q hq).1; omega, by have := (h q hq).2.1; omega, fun t ht => by have := (h q hq).2.2 t ht; omega⟩
theorem k1_run (b1 b2 : Nat) (W : World) (h1 : OfL W b1 ⟨#[98]⟩ 2) (h2 : OfL W b2 ⟨#[99]⟩ 1) :
    Calls Try.prog 8 #[.slice (some ⟨W.heap.size, 0, none⟩) 2 2] (W.alloc (.cells #[.string ⟨#[97]⟩, .slice (some ⟨b1, 0, none⟩) 1 1, .int .u32 1, .string ⟨#[98]⟩, .slice (some ⟨b2, 0, none⟩) 1 1, .int .u32 4294967293] 31)) fun e w' => ∃ g, e = .returned (.tuple #[.slice (some ⟨g, 0, none⟩) 2 2, .int .i64 0, .int .i64 0]) ∧ EqIn w' (some ⟨g, 0, none⟩) k1A ∧ Below W.heap.size W w' := by
  have hE := eqs_made W [([97], [98], 2, 1, b1), ([98], [99], 1, 4294967293, b2)] (fun q hq => by
    have : q = ([97], [98], 2, 1, b1) ∨ q = ([98], [99], 1, 4294967293, b2) := by simpa using hq
    rcases this with rfl | rfl
    · exact h1
    · exact h2)
  have hb := below_alloc W (.cells #[.string ⟨#[97]⟩, .slice (some ⟨b1, 0, none⟩) 1 1, .int .u32 1, .string ⟨#[98]⟩, .slice (some ⟨b2, 0, none⟩) 1 1, .int .u32 4294967293] 31)
  refine (solve_ok k1L _ 2 (by decide) (by decide) k1_held (by decide) (by decide) (cyc_none (by decide) (by decide) (by decide +kernel)) _ hE).mono ?_
  rintro e w' ⟨g, v, rfl, hS⟩
  have h3 := sol_eqIn hS
  rw [k1_sol] at h3
  exact ⟨g, rfl, h3, hb.trans (hS.bel.mono hb.size)⟩
theorem k2_first (m : Nat) (h : FirstC k2L m) : m = 1 := by
  obtain ⟨h1, h2, h3⟩ := h
  have hb : (walkL k2L).back = [1, 2] := by decide +kernel
  have hc : ∀ i, i < k2L.length → (Ta.Cyc (adjF k2L) i ↔ i ∈ [1, 2]) := fun i hi => by rw [cyc_mem (by decide) (by decide) hi, hb]
  have h4 := (hc m h1).1 h2
  have h5 := h3 1 (by decide) ((hc 1 (by decide)).2 (by simp))
  simp at h4
  omega
theorem k2_run (b1 b2 b3 : Nat) (W : World) (h1 : OfL W b1 ⟨#[97]⟩ 1) (h2 : OfL W b2 ⟨#[98]⟩ 1) (h3 : OfL W b3 ⟨#[97]⟩ 1) :
    Calls Try.prog 8 #[.slice (some ⟨W.heap.size, 0, none⟩) 3 3] (W.alloc (.cells #[.string ⟨#[120]⟩, .slice (some ⟨b1, 0, none⟩) 1 1, .int .u32 0, .string ⟨#[97]⟩, .slice (some ⟨b2, 0, none⟩) 1 1, .int .u32 0, .string ⟨#[98]⟩, .slice (some ⟨b3, 0, none⟩) 1 1, .int .u32 0] 31)) fun e w' => e = .returned (.tuple #[.slice none 0 0, .int .i64 1, .int .i64 24]) ∧ Below W.heap.size W w' := by
  have hE := eqs_made W [([120], [97], 1, 0, b1), ([97], [98], 1, 0, b2), ([98], [97], 1, 0, b3)] (fun q hq => by
    have : q = ([120], [97], 1, 0, b1) ∨ q = ([97], [98], 1, 0, b2) ∨ q = ([98], [97], 1, 0, b3) := by simpa using hq
    rcases this with rfl | rfl | rfl
    · exact h1
    · exact h2
    · exact h3)
  have hb := below_alloc W (.cells #[.string ⟨#[120]⟩, .slice (some ⟨b1, 0, none⟩) 1 1, .int .u32 0, .string ⟨#[97]⟩, .slice (some ⟨b2, 0, none⟩) 1 1, .int .u32 0, .string ⟨#[98]⟩, .slice (some ⟨b3, 0, none⟩) 1 1, .int .u32 0] 31)
  refine (solve_bad k2L _ 3 (by decide) (by decide) (held_of (by decide)) ?_ _ hE).mono ?_
  · exact ⟨[97], 1, by decide, (cyc_mem (by decide) (by decide) (by decide)).2 (by decide +kernel), rfl⟩
  · rintro e w' ⟨m, rfl, hm, hb2⟩
    rw [k2_first m hm]
    exact ⟨rfl, hb.trans (hb2.mono hb.size)⟩
theorem k3_run (g b1 b2 : Nat) (W : World) (hE : EqIn W (some ⟨g, 0, none⟩) k1A) (h1 : OfL W b1 ⟨#[99]⟩ 2) (h2 : OfL W b2 ⟨#[99]⟩ 1) :
    Calls Try.prog 18 #[.slice (some ⟨g, 0, none⟩) 2 2, .slice (some ⟨W.heap.size, 0, none⟩) 2 2] (W.alloc (.cells #[.string ⟨#[97]⟩, .slice (some ⟨b1, 0, none⟩) 1 1, .int .u32 4294967291, .string ⟨#[98]⟩, .slice (some ⟨b2, 0, none⟩) 1 1, .int .u32 4294967293] 31)) fun e w' => e = .returned (.bool true) ∧ Below W.heap.size W w' := by
  have hE2 := eqs_made W [([97], [99], 2, 4294967291, b1), ([98], [99], 1, 4294967293, b2)] (fun q hq => by
    have : q = ([97], [99], 2, 4294967291, b1) ∨ q = ([98], [99], 1, 4294967293, b2) := by simpa using hq
    rcases this with rfl | rfl
    · exact h1
    · exact h2)
  have hb := below_alloc W (.cells #[.string ⟨#[97]⟩, .slice (some ⟨b1, 0, none⟩) 1 1, .int .u32 4294967291, .string ⟨#[98]⟩, .slice (some ⟨b2, 0, none⟩) 1 1, .int .u32 4294967293] 31)
  have ht : ∀ x ∈ k1A, x.2.terms.length ≤ 9000000 := by decide
  refine (sameEqus_is k1A k1A (by decide) (by decide) ht ht (some ⟨g, 0, none⟩) (some ⟨W.heap.size, 0, none⟩) 2 2 _ (hE.below hb) hE2).mono ?_
  rintro e w' ⟨rfl, hb2⟩
  exact ⟨by rw [sqB_pos rfl], hb.trans (hb2.mono hb.size)⟩
end Go.Proofs.Ytebbbefknfldoaa
/- The law's known. -/
namespace Go.Proofs.Ytebbbefknfldoaa
open Go.ChangeShapes Go.WideShapes Go.ChangeAt Go.RowKit
set_option linter.unusedVariables false
set_option linter.unusedSimpArgs false
set_option maxRecDepth 100000
set_option maxHeartbeats 16000000 in
theorem known_any (w : World) : Calls Try.prog 14 #[] w fun e w' => e = .returned (.bool true) ∧ Below w.heap.size w w' := by
  have p1 := Hid.intro (fun W => of_any ⟨#[97]⟩ ⟨#[98]⟩ 2 1 W)
  have p2 := Hid.intro (fun W => of_any ⟨#[98]⟩ ⟨#[99]⟩ 1 4294967293 W)
  have p3 := Hid.intro (fun W => of_any ⟨#[120]⟩ ⟨#[97]⟩ 1 0 W)
  have p4 := Hid.intro (fun W => of_any ⟨#[97]⟩ ⟨#[98]⟩ 1 0 W)
  have p5 := Hid.intro (fun W => of_any ⟨#[98]⟩ ⟨#[97]⟩ 1 0 W)
  have p6 := Hid.intro (fun W => of_any ⟨#[97]⟩ ⟨#[99]⟩ 2 4294967291 W)
  have r1 := Hid.intro k1_run
  have r2 := Hid.intro k2_run
  have r3 := Hid.intro k3_run
  have hb0 := Hid.intro (Below.refl w.heap.size w)
  go_enter Try.func14, Try.ntmps14
  go_upto_region 3 with (first
    | (go_at_call 9; (with_reducible refine (p1.out _).mono ?_); rintro e w1 ⟨b1, rfl, o1, hb1⟩; replace o1 := Hid.intro (show OfL w1 b1 ⟨#[98]⟩ 2 from o1); replace hb1 := Hid.intro hb1)
    | (go_at_call 9; (with_reducible refine (p2.out _).mono ?_); rintro e w2 ⟨b2, rfl, o2, hb2⟩; replace o2 := Hid.intro (show OfL w2 b2 ⟨#[99]⟩ 1 from o2); have o1' := Hid.intro (o1.out.below hb2); replace hb2 := Hid.intro (hb1.out.trans (hb2.mono hb1.out.size)))
    | (go_at_call 9; (with_reducible refine (p3.out _).mono ?_); rintro e w4 ⟨b3, rfl, o3, hb4⟩; replace o3 := Hid.intro (show OfL w4 b3 ⟨#[97]⟩ 1 from o3); have hE4 := Hid.intro (hE3.out.below hb4); replace hb4 := Hid.intro (hb3.out.trans (hb4.mono hb3.out.size)))
    | (go_at_call 9; (with_reducible refine (p4.out _).mono ?_); rintro e w5 ⟨b4, rfl, o4, hb5⟩; replace o4 := Hid.intro (show OfL w5 b4 ⟨#[98]⟩ 1 from o4); have o3' := Hid.intro (o3.out.below hb5); have hE5 := Hid.intro (hE4.out.below hb5); replace hb5 := Hid.intro (hb4.out.trans (hb5.mono hb4.out.size)))
    | (go_at_call 9; (with_reducible refine (p5.out _).mono ?_); rintro e w6 ⟨b5, rfl, o5, hb6⟩; replace o5 := Hid.intro (show OfL w6 b5 ⟨#[97]⟩ 1 from o5); have o3'' := Hid.intro (o3'.out.below hb6); have o4' := Hid.intro (o4.out.below hb6); have hE6 := Hid.intro (hE5.out.below hb6); replace hb6 := Hid.intro (hb5.out.trans (hb6.mono hb5.out.size)))
    | (go_at_call 8; (with_reducible refine (r1.out b1 b2 w2 o1'.out o2.out).mono ?_); rintro e w3 ⟨g, rfl, hE3, hb3⟩; replace hE3 := Hid.intro hE3; replace hb3 := Hid.intro (hb2.out.trans (hb3.mono hb2.out.size)))
    | (go_at_call 8; (with_reducible refine (r2.out b3 b4 b5 w6 o3''.out o4'.out o5.out).mono ?_); rintro e w7 ⟨rfl, hb7⟩; have hE7 := Hid.intro (hE6.out.below hb7); replace hb7 := Hid.intro (hb6.out.trans (hb7.mono hb6.out.size))))
  all_goals first | omega | skip
  go_wp2_with (first
    | (go_at_call 9; (with_reducible refine (p6.out _).mono ?_); rintro e w8 ⟨b6, rfl, o6, hb8⟩; replace o6 := Hid.intro (show OfL w8 b6 ⟨#[99]⟩ 2 from o6); have hE8 := Hid.intro (hE7.out.below hb8); replace hb8 := Hid.intro (hb7.out.trans (hb8.mono hb7.out.size)))
    | (go_at_call 9; (with_reducible refine (p2.out _).mono ?_); rintro e w9 ⟨b7, rfl, o7, hb9⟩; replace o7 := Hid.intro (show OfL w9 b7 ⟨#[99]⟩ 1 from o7); have o6' := Hid.intro (o6.out.below hb9); have hE9 := Hid.intro (hE8.out.below hb9); replace hb9 := Hid.intro (hb8.out.trans (hb9.mono hb8.out.size)))
    | (go_at_call 18; (with_reducible refine (r3.out g b6 b7 w9 hE9.out o6'.out o7.out).mono ?_); rintro e w10 ⟨rfl, hb10⟩; replace hb10 := Hid.intro (hb9.out.trans (hb10.mono hb9.out.size))))
  all_goals first | omega | skip
  go_ret
  exact ⟨rfl, hb10.out⟩
end Go.Proofs.Ytebbbefknfldoaa
/- EquNumbers: its walk. -/
namespace Go.Proofs.Ytebbbefknfldoaa
open Go.ChangeShapes Go.WideShapes Go.ChangeAt Go.RowKit Go.Sort
set_option linter.unusedVariables false
set_option linter.unusedSimpArgs false
set_option maxRecDepth 100000
theorem StIn.below {w w' : World} {a : Option Addr} {l : List (List UInt8)} (h : StIn w a l) (hb : Below w.heap.size w w') : StIn w' a l := by
  rcases h with h | ⟨g, o, ha, hg, h⟩
  · exact .inl h
  · exact .inr ⟨g, o, ha, Nat.lt_of_lt_of_le hg hb.size, fun i s hi => (hb.cell (p := ⟨g, _, none⟩) hg).trans (h i s hi)⟩
end Go.Proofs.Ytebbbefknfldoaa
/- Equs laid behind equs. -/
namespace Go.Proofs.Ytebbbefknfldoaa
open Go.ChangeShapes Go.WideShapes Go.ChangeAt Go.RowKit
set_option linter.unusedVariables false
set_option linter.unusedSimpArgs false
set_option maxRecDepth 100000
def rowQ (qs : List (Eqv × Option Addr × Nat)) : List Value := qs.flatMap fun q => [.string (str q.1.1), .slice q.2.1 q.1.2.terms.length q.2.2, .int .u32 q.1.2.const]
theorem rowQ_get : ∀ (qs : List (Eqv × Option Addr × Nat)) (i : Nat) (q : Eqv × Option Addr × Nat), qs[i]? = some q → (rowQ qs)[i * 3]? = some (.string (str q.1.1)) ∧ (rowQ qs)[i * 3 + 1]? = some (.slice q.2.1 q.1.2.terms.length q.2.2) ∧ (rowQ qs)[i * 3 + 2]? = some (.int .u32 q.1.2.const)
  | [], i, q, h => by cases h
  | x :: l, 0, q, h => by
    have : x = q := by simpa using h
    subst this
    exact ⟨rfl, rfl, rfl⟩
  | x :: l, i + 1, q, h => by
    obtain ⟨h1, h2, h3⟩ := rowQ_get l i q (by simpa using h)
    have e : rowQ (x :: l) = .string (str x.1.1) :: .slice x.2.1 x.1.2.terms.length x.2.2 :: .int .u32 x.1.2.const :: rowQ l := rfl
    rw [e, show (i + 1) * 3 = i * 3 + 1 + 1 + 1 by omega]
    exact ⟨h1, h2, h3⟩
theorem rowQ_at : ∀ (qs : List (Eqv × Option Addr × Nat)) (j : Nat) (u : Value), (rowQ qs)[j]? = some u → ∃ i q r, qs[i]? = some q ∧ r < 3 ∧ j = i * 3 + r ∧ [Value.string (str q.1.1), .slice q.2.1 q.1.2.terms.length q.2.2, .int .u32 q.1.2.const][r]? = some u
  | [], j, u, h => by cases h
  | x :: l, 0, u, h => ⟨0, x, 0, rfl, by omega, rfl, h⟩
  | x :: l, 1, u, h => ⟨0, x, 1, rfl, by omega, rfl, h⟩
  | x :: l, 2, u, h => ⟨0, x, 2, rfl, by omega, rfl, h⟩
  | x :: l, j + 3, u, h => by
    have e : rowQ (x :: l) = .string (str x.1.1) :: .slice x.2.1 x.1.2.terms.length x.2.2 :: .int .u32 x.1.2.const :: rowQ l := rfl
    rw [e] at h
    obtain ⟨i, q, r, h1, h2, h3, h4⟩ := rowQ_at l j u (by simpa using h)
    exact ⟨i + 1, q, r, by simpa using h1, h2, by omega, h4⟩
structure EqQ (w : World) (g o : Nat) (qs : List (Eqv × Option Addr × Nat)) : Prop where
  lt : g < w.heap.size
  at_ : ∀ i q, qs[i]? = some q → EqAt w g (o + i * 3) q.1 q.2.1 q.2.2
theorem EqQ.below {w w' : World} {g o : Nat} {qs : List (Eqv × Option Addr × Nat)} (h : EqQ w g o qs) (hb : Below w.heap.size w w') : EqQ w' g o qs :=
  ⟨Nat.lt_of_lt_of_le h.lt hb.size, fun i q hq => (h.at_ i q hq).below h.lt hb⟩
theorem EqQ.cell {w : World} {g o : Nat} {qs : List (Eqv × Option Addr × Nat)} (h : EqQ w g o qs) {j : Nat} {u : Value} (hu : (rowQ qs)[j]? = some u) : w.cell? ⟨g, o + j, none⟩ = some u := by
  obtain ⟨i, q, r, h1, h2, rfl, h4⟩ := rowQ_at qs j u hu
  obtain ⟨k1, k2, k3, _⟩ := h.at_ i q h1
  match r, h2, h4 with
  | 0, _, h4 => rw [show o + (i * 3 + 0) = o + i * 3 by omega, k1]; exact h4
  | 1, _, h4 => rw [show o + (i * 3 + 1) = o + i * 3 + 1 by omega, k2]; exact h4
  | 2, _, h4 => rw [show o + (i * 3 + 2) = o + i * 3 + 2 by omega, k3]; exact h4
end Go.Proofs.Ytebbbefknfldoaa
/- Equs that come in as the laws take them; both ways of Solve; in another order. -/
namespace Go.Proofs.Ytebbbefknfldoaa
open Go.ChangeShapes Go.WideShapes Go.ChangeAt Go.RowKit
set_option linter.unusedVariables false
set_option linter.unusedSimpArgs false
set_option maxRecDepth 100000
theorem sz_all (adj : Nat → List Nat) (self : Nat → Bool) (n : Nat) : ∀ (is : List Nat) (s : Ta.St), Sz s → Sz (Ta.allF adj self n is s)
  | [], s, h => h
  | i :: is, s, h => by
    rw [Ta.allF]
    by_cases h0 : s.met i = 0
    · rw [if_pos h0]; exact sz_all adj self n is _ (sz_visit adj self n i s h)
    · rw [if_neg h0]; exact sz_all adj self n is s h
theorem walk_len {l : List Eqv} (hnd : (l.map (·.1)).Nodup) (hl : l.length < Ta.big) : (walkL l).order.length ≤ l.length := by
  have h1 := (Ta.all_is (self := selfF l) hl (adj_lt l) (self_adj hnd) (List.range l.length) Ta.zeroS (fun i hi => List.mem_range.1 hi) Ta.inv_zero rfl).1
  have h2 : Sz (walkL l) := sz_all _ _ _ _ _ (by show 0 + 0 ≤ 0; omega)
  have h3 : (walkL l).count + Ta.left l.length (walkL l).met ≤ l.length := h1.cnt
  unfold Sz at h2
  omega
structure SolvIn (l : List Eqv) : Prop where
  len : l.length ≤ 60
  nd : (l.map (·.1)).Nodup
  nm : ∀ q ∈ l, q.1.length ≤ 140737488355328
  can : ∀ q ∈ l, CanL q.2
  nms : (nmsOf l).length ≤ 4400000
  nml : ∀ s ∈ nmsOf l, s.length ≤ 140737488355328
theorem nms_mem {l : List Eqv} {q : Eqv} (hq : q ∈ l) {t : Tm} (ht : t ∈ q.2.terms) : t.name ∈ nmsOf l := List.mem_flatMap.2 ⟨q, hq, List.mem_map.2 ⟨t, ht, rfl⟩⟩
section
variable {l : List Eqv}
theorem SolvIn.big (h : SolvIn l) : l.length < Ta.big := Nat.lt_of_le_of_lt h.len (by decide)
theorem SolvIn.held (h : SolvIn l) : ∀ q ∈ l, q.1.length ≤ 140737488355328 ∧ q.2.terms.length ≤ 4400000 ∧ ∀ t ∈ q.2.terms, t.name.length ≤ 140737488355328 := fun q hq =>
  ⟨h.nm q hq, Nat.le_trans (canon_len (h.can q hq).terms fun t ht => nms_mem hq ht) h.nms, fun t ht => h.nml _ (nms_mem hq ht)⟩
theorem SolvIn.slb (h : SolvIn l) (hc : ∀ x, ¬ CycN l x) : Slb l := ⟨h.nd, h.big, hc, walk_len h.nd h.big⟩
theorem SolvIn.perm {m : List Eqv} (h : SolvIn l) (hp : m.Perm l) : SolvIn m := by
  refine ⟨by rw [hp.length_eq]; exact h.len, (hp.map _).nodup_iff.2 h.nd, fun q hq => h.nm q (hp.mem_iff.1 hq), fun q hq => h.can q (hp.mem_iff.1 hq), ?_, fun s hs => ?_⟩
  · have : (nmsOf m).Perm (nmsOf l) := hp.flatMap_right _
    rw [this.length_eq]; exact h.nms
  · have : (nmsOf m).Perm (nmsOf l) := hp.flatMap_right _
    exact h.nml s (this.mem_iff.1 hs)
theorem solL_len : (solL l).length = l.length := by simp [solL]
theorem solL_mem (h : SolvIn l) : ∀ q ∈ solL l, q.1.length ≤ 140737488355328 ∧ CanL q.2 ∧ ∀ t ∈ q.2.terms, t.name ∈ nmsOf l := fun q hq => by
  rw [solL_eq] at hq
  obtain ⟨p, hp, rfl⟩ := List.mem_map.1 hq
  refine ⟨h.nm p hp, ?_⟩
  dsimp only
  cases hs : solF l p.1 with
  | none => exact ⟨⟨Canon.nil, by decide⟩, fun t ht => by cases ht⟩
  | some e => exact svF_can l _ _ e hs
theorem solve_good (h : SolvIn l) (hc : ∀ x, ¬ CycN l x) (la : Option Addr) (lc : Nat) (w : World) (hE : EqIn w la l) :
    Calls Try.prog 8 #[.slice la l.length lc] w fun e w' => ∃ g, e = .returned (.tuple #[.slice (some ⟨g, 0, none⟩) l.length l.length, .int .i64 0, .int .i64 0]) ∧ EqIn w' (some ⟨g, 0, none⟩) (solL l) ∧ Below w.heap.size w w' := by
  refine (solve_ok l la lc (by have := h.len; omega) h.nd (fun q hq => ⟨h.nm q hq, h.can q hq⟩) h.nms h.nml hc w hE).mono ?_
  rintro e w' ⟨g, v, rfl, hS⟩
  exact ⟨g, rfl, sol_eqIn hS, hS.bel⟩
theorem solve_not (h : SolvIn l) (hc : ∃ x, CycN l x) (la : Option Addr) (lc : Nat) (w : World) (hE : EqIn w la l) :
    Calls Try.prog 8 #[.slice la l.length lc] w fun e w' => ∃ m : Nat, e = .returned (.tuple #[.slice none 0 0, .int .i64 (m : Int), .int .i64 24]) ∧ FirstC l m ∧ Below w.heap.size w w' :=
  solve_bad l la lc (by have := h.len; omega) h.nd h.held hc w hE
theorem cycle_in (h : SolvIn l) (la : Option Addr) (lc : Nat) (w : World) (hE : EqIn w la l) :
    Calls Try.prog 10 #[.slice la l.length lc] w fun e w' => Below w.heap.size w w' ∧ ∃ (v : Value) (ss : List (List UInt8)), e = .returned v ∧ w'.ownsRow w.heap.size 9 1 v ss.length (ss.map encStr) ∧ ss.Pairwise (fun x y => x ≤ y) ∧ ss.Nodup ∧ ∀ x, x ∈ ss ↔ CycN l x :=
  cycle_any l la lc (by have := h.len; omega) h.nd h.held w hE
end
end Go.Proofs.Ytebbbefknfldoaa
namespace Go.Proofs.Ytebbbefknfldoaa
open Go.ChangeShapes Go.WideShapes Go.ChangeAt Go.RowKit Go.Sort
set_option linter.unusedVariables false
set_option linter.unusedSimpArgs false
set_option maxRecDepth 100000
structure InL (l : List Eqv) : Prop where
  len : l.length ≤ 4400000
  nm : ∀ q ∈ l, q.1.length ≤ 1100000
  ts : ∀ q ∈ l, q.2.terms.length ≤ 4400000
  tn : ∀ q ∈ l, ∀ t ∈ q.2.terms, t.name.length ≤ 1100000
  cf : ∀ q ∈ l, ∀ t ∈ q.2.terms, 0 ≤ t.coef ∧ t.coef < 4294967296
  cs : ∀ q ∈ l, 0 ≤ q.2.const ∧ q.2.const < 4294967296
  nms : (nmsOf l).length ≤ 4400000
theorem InL.right {l : List Eqv} (h : InL l) (hr : RightP l) : SolvIn l := ⟨hr.1, hr.2.2, fun q hq => by have := h.nm q hq; omega, fun q hq => ⟨right_canon (h.cf q hq) (hr.2.1 q hq).2, h.cs q hq⟩, h.nms, fun s hs => by
  obtain ⟨q, hq, hu⟩ := List.mem_flatMap.1 hs
  obtain ⟨t, ht, rfl⟩ := List.mem_map.1 hu
  have := h.tn q hq t ht
  omega⟩
theorem InL.rightC {l : List Eqv} (h : InL l) (la : Option Addr) (lc : Nat) (w : World) (hE : EqIn w la l) : Calls Try.prog 15 #[.slice la l.length lc] w fun e w' => e = .returned (.bool (rightB l)) ∧ Below w.heap.size w w' :=
  right11_any l la lc h.len (fun q hq => ⟨h.nm q hq, by have := h.ts q hq; omega, h.tn q hq⟩) w hE
end Go.Proofs.Ytebbbefknfldoaa

/- The document's Right. -/
import Derived.Test.YtebbbefknfldoaaRight
namespace Go.Proofs.Ytebbbefknfldoaa
open Go.ChangeShapes Go.WideShapes Go.ChangeAt Go.RowKit
set_option linter.unusedVariables false
set_option maxRecDepth 100000
set_option maxHeartbeats 2000000 in
theorem refRight_any (a : Option Addr) (c : Nat) (ts : List Tm) (k0 : Int) (w : World) (hT : TmLies w a ts) (hm : ts.length ≤ 9000000) (hN : ∀ t ∈ ts, t.name.length ≤ 1100000) :
    Calls Try.prog 16 #[linV (.slice a ts.length c) k0] w fun e w' => e = .returned (.bool (rightF none ts)) ∧ Below w.heap.size w w' := by
  obtain ⟨n0, hn0⟩ : ∃ n0, n0 = ts.length := ⟨_, rfl⟩
  obtain ⟨bv, hbv⟩ : ∃ bv, bv = rightF none ts := ⟨_, rfl⟩
  rw [← hn0, ← hbv]
  rw [← hn0] at hm
  have hnH := Hid.intro hn0
  have hstart : Hid (bv = rightAt ts 0) := hbv
  have hTH := Hid.intro hT
  have hNH := Hid.intro hN
  clear hn0 hbv hT hN
  go_enter Try.func16, Try.ntmps16
  go_wp2
  have hb0 := below_alloc w (.cells #[.slice a n0 c, .int .u32 k0] 29)
  have t0 := two_new w 29 (.slice a n0 c) (.int .u32 k0)
  have hs0 : (w.alloc (.cells #[.slice a n0 c, .int .u32 k0] 29)).heap.size = w.heap.size + 1 := by simp
  generalize w.alloc (.cells #[.slice a n0 c, .int .u32 k0] 29) = w0 at *
  go_loopw [3] (fun vi wr => ∃ i : Nat, i ≤ n0 ∧ vi = .int .i64 (i : Int) ∧ Hid (bv = rightAt ts i) ∧ Below (w.heap.size + 1) w0 wr) (fun vi _ => n0 - (intOf vi).toNat)
  case atStart => exact ⟨0, Nat.zero_le _, rfl, hstart, Below.refl _ _⟩
  case round =>
    obtain ⟨i, hi, rfl, hR, hbr⟩ := hrel
    have hszr := hbr.size
    rw [hs0] at hszr
    have hall : Below w.heap.size w wr := hb0.trans (hbr.mono (by omega))
    obtain ⟨_, y0, _, _, _⟩ := t0.below hbr (by omega)
    have hwlt : w.heap.size < wr.heap.size := by omega
    by_cases hlt : i < n0
    · obtain ⟨t, ht⟩ : ∃ t, ts[i]? = some t := ⟨ts[i]'(by rw [← hnH.out]; exact hlt), List.getElem?_eq_getElem _⟩
      have hmem : t ∈ ts := List.mem_of_getElem? ht
      have hsz : (str t.name).size ≤ 1100000 := by rw [str_size]; exact hNH.out t hmem
      have hstep := rightAt_step ts i t ht
      rcases hTH.out with hx | ⟨g, o, rfl, hg, hc⟩
      · rw [hx] at ht; simp at ht
      have hq := (hc i t ht).below hall hg
      have hgr : g < wr.heap.size := Nat.lt_of_lt_of_le hg hall.size
      have q0 : ∀ p : BelowOf wr, p.wd.cell? ⟨g, o + i * 2, none⟩ = some (.string (str t.name)) := fun p => p.cell hgr hq.name
      have q1 : ∀ p : BelowOf wr, p.wd.cell? ⟨g, o + i * 2 + 1, none⟩ = some (.int .u32 t.coef) := fun p => p.cell hgr hq.coef
      have x0 : ∀ p : BelowOf wr, p.wd.cell? ⟨w.heap.size, 0, none⟩ = some (.slice (some ⟨g, o, none⟩) n0 c) := fun p => p.cell hwlt y0
      have hi1 : (0 : Int) ≤ (i : Int) := by omega
      have hi2 : (i : Int) < (n0 : Int) := by omega
      have hL : Hid (∀ w, Calls Try.prog 32 #[.string (str t.name)] w fun e w' => e = .returned (.bool (legB (str t.name))) ∧ Below w.heap.size w w') := fun w => (refLegal_any (str t.name) hsz w).mono fun e w' ⟨h1, h2⟩ => ⟨h1, by rw [h2]; exact Below.refl _ _⟩
      cases hleg : legB (str t.name)
      · have hf : bv = false := by rw [hR.out, hstep]; simp [okT, hleg]
        subst hf
        rw [hleg] at hL
        clear hstep ht hmem hc hleg hq
        go_wp2
        all_goals first | omega | skip
        refine wp_region_quiet_below (by kernel_rfl) (by kernel_rfl) ?_
        repeat (first | (with_reducible refine wpQuiet_skip (by with_unfolding_all rfl) ?_; simp only [Act.put, List.setIfInBounds_toArray, List.set_cons_zero, List.set_cons_succ]) | (with_reducible refine wpQuiet_step (fun K hK => ?_); go_simp; first | (with_reducible refine hK _ ?_; clear hK K) | (apply Exists.intro; refine ⟨fun _ => ?_, hK _ ?_⟩; (go_at_call 32; with_reducible refine below_calls (hL.out _)); clear hK K)))
        with_reducible refine wpQuiet_nil ?_
        intro _ hw'
        obtain ⟨pq, hw''⟩ := hw'
        subst hw''
        go_wp2
        all_goals first | omega | skip
        go_ret
        exact ⟨rfl, hall.trans (pq.h.mono hall.size)⟩
      · rw [hleg] at hL
        by_cases hz : t.coef = 0
        · have hf : bv = false := by rw [hR.out, hstep]; simp [okT, hz]
          subst hf
          have hz' : (t.coef == 0) = true := by simp [hz]
          clear hstep ht hmem hc hz hleg hq
          go_wp2
          all_goals first | omega | skip
          refine wp_region_quiet_below (by kernel_rfl) (by kernel_rfl) ?_
          repeat (first | (with_reducible refine wpQuiet_skip (by with_unfolding_all rfl) ?_; simp only [Act.put, List.setIfInBounds_toArray, List.set_cons_zero, List.set_cons_succ]) | (with_reducible refine wpQuiet_step (fun K hK => ?_); go_simp; first | (with_reducible refine hK _ ?_; clear hK K) | (apply Exists.intro; refine ⟨fun _ => ?_, hK _ ?_⟩; (go_at_call 32; with_reducible refine below_calls (hL.out _)); clear hK K)))
          with_reducible refine wpQuiet_nil ?_
          intro _ hw'
          obtain ⟨pq, hw''⟩ := hw'
          subst hw''
          go_wp2
          all_goals first | omega | skip
          go_ret
          exact ⟨rfl, hall.trans (pq.h.mono hall.size)⟩
        · have hz' : (t.coef == 0) = false := by simp [hz]
          cases i with
          | zero =>
            simp only [Nat.zero_mul, Nat.add_zero] at q0 q1
            have hnext : Hid (bv = rightAt ts (0 + 1)) := by show bv = _; rw [hR.out, hstep]; simp [okT, hz, hleg, prevOf]
            clear hstep ht hmem hc hz hleg hq
            go_wp2
            all_goals first | omega | skip
            refine wp_region_quiet_below (by kernel_rfl) (by kernel_rfl) ?_
            repeat (first | (with_reducible refine wpQuiet_skip (by with_unfolding_all rfl) ?_; simp only [Act.put, List.setIfInBounds_toArray, List.set_cons_zero, List.set_cons_succ]) | (with_reducible refine wpQuiet_step (fun K hK => ?_); go_simp; first | (with_reducible refine hK _ ?_; clear hK K) | (apply Exists.intro; refine ⟨fun _ => ?_, hK _ ?_⟩; (go_at_call 32; with_reducible refine below_calls (hL.out _)); clear hK K)))
            with_reducible refine wpQuiet_nil ?_
            intro _ hw'
            obtain ⟨pq, hw''⟩ := hw'
            subst hw''
            go_wp2
            all_goals first | omega | skip
            go_roundw
            case rel => exact ⟨1, by omega, by go_num, hnext, hbr.trans (pq.h.mono hszr)⟩
            case measure => simp [intOf]; omega
          | succ k =>
            obtain ⟨u, hu⟩ : ∃ u, ts[k]? = some u := ⟨ts[k]'(by rw [← hnH.out]; omega), List.getElem?_eq_getElem _⟩
            have hu0 := (hc k u hu).below hall hg
            have v0 : ∀ p : BelowOf wr, p.wd.cell? ⟨g, o + k * 2, none⟩ = some (.string (str u.name)) := fun p => p.cell hgr hu0.name
            have hprev : prevOf ts (k + 1) = some u.name := by simp [prevOf, hu]
            have hwr : IntKind.i64.wrap (k : Int) = (k : Int) := by rw [IntKind.wrap_i64]; omega
            have hk1 : (0 : Int) ≤ (k : Int) := by omega
            have hk2 : (k : Int) < (n0 : Int) := by omega
            have hk3 : k < n0 := by omega
            have hk4 : (0 : Int) ≤ (k : Int) + 1 := by omega
            have hk5 : (k : Int) + 1 < (n0 : Int) := by omega
            have hk6 : ((k : Int) + 1).toNat = k + 1 := by omega
            clear hi1 hi2
            have hcmp := leq_nlt u.name t.name
            cases hn : nlt u.name t.name
            · have hf : bv = false := by rw [hR.out, hstep]; simp [okT, hprev, hn]
              subst hf
              rw [hn] at hcmp
              have e1 : (Op.bytesLess (str t.name).toList (str u.name).toList || (str t.name).toList == (str u.name).toList) = true := by rw [str_toList, str_toList]; exact hcmp
              clear hstep ht hmem hc hz hleg hcmp hn hprev hu hq hu0
              go_wp2
              all_goals first | omega | skip
              refine wp_region_quiet_below (by kernel_rfl) (by kernel_rfl) ?_
              repeat (first | (with_reducible refine wpQuiet_skip (by with_unfolding_all rfl) ?_; simp only [Act.put, List.setIfInBounds_toArray, List.set_cons_zero, List.set_cons_succ]) | (with_reducible refine wpQuiet_step (fun K hK => ?_); go_simp; first | (with_reducible refine hK _ ?_; clear hK K) | (apply Exists.intro; refine ⟨fun _ => ?_, hK _ ?_⟩; (go_at_call 32; with_reducible refine below_calls (hL.out _)); clear hK K)))
              with_reducible refine wpQuiet_nil ?_
              intro _ hw'
              obtain ⟨pq, hw''⟩ := hw'
              subst hw''
              go_wp2
              all_goals first | omega | skip
              go_ret
              exact ⟨rfl, hall.trans (pq.h.mono hall.size)⟩
            · have hnext : Hid (bv = rightAt ts (k + 1 + 1)) := by show bv = _; rw [hR.out, hstep]; simp [okT, hz, hleg, hprev, hn]
              rw [hn] at hcmp
              have e1 : (Op.bytesLess (str t.name).toList (str u.name).toList || (str t.name).toList == (str u.name).toList) = false := by rw [str_toList, str_toList]; exact hcmp
              clear hstep ht hmem hc hz hleg hcmp hn hprev hu hq hu0
              go_wp2
              all_goals first | omega | skip
              refine wp_region_quiet_below (by kernel_rfl) (by kernel_rfl) ?_
              repeat (first | (with_reducible refine wpQuiet_skip (by with_unfolding_all rfl) ?_; simp only [Act.put, List.setIfInBounds_toArray, List.set_cons_zero, List.set_cons_succ]) | (with_reducible refine wpQuiet_step (fun K hK => ?_); go_simp; first | (with_reducible refine hK _ ?_; clear hK K) | (apply Exists.intro; refine ⟨fun _ => ?_, hK _ ?_⟩; (go_at_call 32; with_reducible refine below_calls (hL.out _)); clear hK K)))
              with_reducible refine wpQuiet_nil ?_
              intro _ hw'
              obtain ⟨pq, hw''⟩ := hw'
              subst hw''
              go_wp2
              all_goals first | omega | skip
              go_roundw
              case rel => exact ⟨k + 1 + 1, by omega, by go_num, hnext, hbr.trans (pq.h.mono hszr)⟩
              case measure => simp [intOf]; omega
    · have hf : bv = true := by
        rw [hR.out, show i = ts.length by rw [← hnH.out]; omega, rightAt_end]
      subst hf
      go_wp2
      all_goals first | omega | skip
      go_ret
      exact ⟨rfl, hall⟩
end Go.Proofs.Ytebbbefknfldoaa

/- The document's met as a search over numbers: plain facts. -/
import Derived.Test.YtebbbefknfldoaaWk7a
import Derived.BigQuiet
import Derived.Laws.EntriesVeiled
import Derived.Deep.DeepCutAuto
import Derived.Shelf.Lays
import Derived.Test.YtebbbefknfldoaaProg
import Derived.Test.YtebbbefknfldoaaWk1
import Derived.Shelf.Sort.Plain
import Derived.Shelf.Slices.In.SortNone
import Derived.Sort.OwnSorted
import Derived.Lib.OwnBridge
import Derived.Test.YtebbbefknfldoaaLinM
import Derived.Sort.KeysCollected
import Derived.Maps.RangeWalk
import Derived.Test.YtebbbefknfldoaaWk5
/- equ.walk, whole. -/
namespace Go.Proofs.Ytebbbefknfldoaa
open Go.ChangeShapes Go.WideShapes Go.ChangeAt Go.RowKit
set_option linter.unusedVariables false
set_option linter.unusedSimpArgs false
set_option maxRecDepth 100000
abbrev walkL (l : List Eqv) : Ta.St := Ta.walkF (adjF l) (selfF l) l.length
structure WalkO (w : World) (l : List Eqv) (a : Option Addr) (c B nb : Nat) (w' : World) : Prop where
  bel : Below w.heap.size w w'
  own : w'.ownsRow w.heap.size 3 1 (.slice a (walkL l).order.length c) (walkL l).order.length (rowN (walkL l).order)
  le : nb ≤ (walkL l).order.length
  ge : w.heap.size ≤ B
  map : IntIs w' B nb (backF l (walkL l).back)
  apart : (Value.slice a (walkL l).order.length c).ownBlock ≠ some B
  len : (walkL l).order.length ≤ l.length
structure WL (w : World) (b : Nat → Nat) (l : List Eqv) (la : Option Addr) (lc na i nb : Nat) (s : Ta.St) (wr : World) : Prop where
  is : Ta.allF (adjF l) (selfF l) l.length ((List.range l.length).drop i) s = walkL l
  inv : Ta.Inv (adjF l) l.length s
  opn : s.opn = []
  fs : FS w b l la lc na nb s wr
  sz : Sz s
  nb : nb ≤ s.order.length
theorem drop_range {n i : Nat} (h : i < n) : (List.range n).drop i = i :: (List.range n).drop (i + 1) := by
  rw [List.drop_eq_getElem_cons (by simpa using h)]
  simp
section
variable {w : World} {b : Nat → Nat} {l : List Eqv} {la : Option Addr} {lc na i nb : Nat} {s : Ta.St} {wr : World}
theorem WL.skip (h : WL w b l la lc na i nb s wr) (hi : i < l.length) (h0 : s.met i ≠ 0) : WL w b l la lc na (i + 1) nb s wr := by
  refine ⟨?_, h.inv, h.opn, h.fs, h.sz, h.nb⟩
  have := h.is
  rw [drop_range hi, Ta.allF, if_neg h0] at this
  exact this
theorem WL.go (h : WL w b l la lc na i nb s wr) (hl : l.length < Ta.big) (hnd : (l.map (·.1)).Nodup) (hi : i < l.length) (h0 : s.met i = 0) {nb' : Nat} {w' : World} (hn : nb' ≤ (Ta.visitF (adjF l) (selfF l) l.length i s).2.order.length) (hF : FS w b l la lc na nb' (Ta.visitF (adjF l) (selfF l) l.length i s).2 w') : WL w b l la lc na (i + 1) nb' (Ta.visitF (adjF l) (selfF l) l.length i s).2 w' := by
  obtain ⟨tail, V⟩ := Ta.visit_is (self := selfF l) hl (adj_lt l) (self_adj hnd) l.length i s h.inv h0 hi (fun v hv => by rw [h.opn] at hv; cases hv) (by have := h.inv.cnt; omega)
  have ht : tail = [] := by
    cases tail with
    | nil => rfl
    | cons x l2 =>
      obtain ⟨u, hu, _⟩ := V.hit (by simp)
      rw [h.opn] at hu
      cases hu
  refine ⟨?_, V.inv, by rw [V.opn, h.opn, ht]; rfl, hF, sz_visit _ _ _ _ _ h.sz, hn⟩
  have := h.is
  rw [drop_range hi, Ta.allF, if_pos h0] at this
  exact this
end
theorem run_makeMap_none {P : Program} {t k e : TypeId} (ht : P.underlying t = some (.map k e)) (w : World) : (Instr.makeMap t none).run P w = .ok (.map (some w.heap.size)) (w.alloc (.map #[] 0)) := by
  simp [Instr.makeMap, run_underlying ht, asInt, asIntOf]
set_option maxHeartbeats 16000000 in
theorem walk_mem (l : List Eqv) (la : Option Addr) (lc : Nat) (hl : l.length ≤ 1000) (hnd : (l.map (·.1)).Nodup) (hheld : ∀ q ∈ l, q.1.length ≤ 140737488355328 ∧ q.2.terms.length ≤ 4400000 ∧ ∀ t ∈ q.2.terms, t.name.length ≤ 140737488355328) (w : World) (hE : EqIn w la l) :
    Calls Try.prog 28 #[.slice la l.length lc] w fun e w' => ∃ a n c B nb, n = (walkL l).order.length ∧ e = .returned (.tuple #[.slice a n c, .map (some B)]) ∧ WalkO w l a c B nb w' := by
  have hget : Hid (∀ i, i < l.length → ∃ q gl ol va vc, l[i]? = some q ∧ la = some ⟨gl, ol, none⟩ ∧ gl < w.heap.size ∧ EqAt w gl (ol + i * 3) q va vc) := fun i hi => by
    rcases hE with e | ⟨gl, ol, e1, e2, e3⟩
    · rw [e] at hi; simp at hi
    · obtain ⟨va, vc, hq⟩ := e3 i l[i] (List.getElem?_eq_getElem hi)
      exact ⟨l[i], gl, ol, va, vc, List.getElem?_eq_getElem hi, e1, e2, hq⟩
  have hstart : Hid (∀ wr, WA w l la lc l.length wr → FS w (wkB w.heap.size wr.heap.size) l la lc l.length 0 Ta.zeroS (alls wr (wkO w.heap.size wr.heap.size l.length))) := fun wr h => fs_start h hE hl
  have hvis : Hid (∀ (b : Nat → Nat) (i nb : Nat) (s : Ta.St) (wr : World), WL w b l la lc l.length i nb s wr → i < l.length → s.met i = 0 → Calls Try.prog 44 (visA b i) wr fun e w' => ViO w b l la lc l.length (Ta.visitF (adjF l) (selfF l) l.length i s) e w') := fun b i nb s wr h hi h0 =>
    visit_mem hl hnd hheld l.length i s nb wr h.fs h.nb h.sz h.inv h0 hi (fun v hv => by rw [h.opn] at hv; cases hv) (by have := h.inv.cnt; omega)
  have hgo : Hid (∀ (b : Nat → Nat) (i nb nb' : Nat) (s : Ta.St) (wr w' : World), WL w b l la lc l.length i nb s wr → i < l.length → s.met i = 0 → nb' ≤ (Ta.visitF (adjF l) (selfF l) l.length i s).2.order.length → FS w b l la lc l.length nb' (Ta.visitF (adjF l) (selfF l) l.length i s).2 w' → WL w b l la lc l.length (i + 1) nb' (Ta.visitF (adjF l) (selfF l) l.length i s).2 w') := fun b i nb nb' s wr w' h hi h0 h1 h2 => h.go (Nat.lt_of_le_of_lt hl (by decide)) hnd hi h0 h1 h2
  have hnm : Hid (∀ i q, l[i]? = some q → nmOf l i = q.1 ∧ q.1.length ≤ 140737488355328) := fun i q hq => ⟨nmOf_get hq, (hheld q (List.mem_of_getElem? hq)).1⟩
  have hmm : ∀ (z : Int) (W : World), (Instr.makeMap 66 (some (.int .i64 z))).run Try.prog W = .ok (.map (some W.heap.size)) (W.alloc (.map #[] 0)) := fun z W => run_makeMap_hint Try.underlying66 z W
  have hmk0 : ∀ W : World, (Instr.makeMap 66 none).run Try.prog W = .ok (.map (some W.heap.size)) (W.alloc (.map #[] 0)) := fun W => run_makeMap_none Try.underlying66 W
  obtain ⟨n0, hn0⟩ : ∃ n0, n0 = l.length := ⟨_, rfl⟩
  obtain ⟨M, hM, hms0, hmsn⟩ : ∃ M : Array Value, M = madeCells #[.int .i64 0] n0 ∧ (∀ W : World, (Instr.makeSlice 65 (.int .i64 0) (.int .i64 (n0 : Int))).run Try.prog W = .ok (.slice (some ⟨W.heap.size, 0, none⟩) 0 n0) (W.alloc (.cells M 3))) ∧ ∀ W : World, (Instr.makeSlice 65 (.int .i64 (n0 : Int)) (.int .i64 (n0 : Int))).run Try.prog W = .ok (.slice (some ⟨W.heap.size, 0, none⟩) n0 n0) (W.alloc (.cells M 3)) := by
    obtain ⟨i3, hi3, hz0, hz1, hz2⟩ := info_parts info3
    refine ⟨_, rfl, fun W => ?_, fun W => ?_⟩
    · have h := run_make (P := Try.prog) W 65 3 i3 (.int .i64 0) Try.underlying65 hi3 hz0 .i64 .i64 0 (n0 : Int) (by omega) (by omega) (by rw [hz2]; omega) (by omega)
      rw [hz1] at h
      simp only [Int.toNat_natCast, Int.toNat_zero, Nat.mul_one] at h
      exact h
    · have h := run_make (P := Try.prog) W 65 3 i3 (.int .i64 0) Try.underlying65 hi3 hz0 .i64 .i64 (n0 : Int) (n0 : Int) (by omega) (by omega) (by rw [hz2]; omega) (by omega)
      rw [hz1] at h
      simp only [Int.toNat_natCast, Nat.mul_one] at h
      exact h
  replace hM := Hid.intro hM
  have hend : Hid (∀ (b : Nat → Nat) (nb : Nat) (s : Ta.St) (wr : World), WL w b l la lc l.length n0 nb s wr → s = walkL l) := fun b nb s wr h => by
    have := h.is
    rw [hn0, List.drop_of_length_le (by simp), Ta.allF] at this
    exact this
  have hH := Hid.intro hn0
  rw [← hn0] at hl ⊢
  clear hn0 hE hnd hheld
  go_enter Try.func28, Try.ntmps28
  go_wp2
  all_goals first | omega | skip
  go_loopw [20] (fun v20 wr => ∃ (i : Nat), i ≤ n0 ∧ v20 = .int .i64 (i : Int) ∧ Hid (WA w l la lc i wr)) (fun v20 _ => n0 - (intOf v20).toNat)
  case atStart =>
    refine ⟨0, by omega, rfl, ?_⟩
    have hb1 := below_alloc w (.cells #[.slice la n0 lc] 22)
    have h1 := heap_alloc_new w (.cells #[.slice la n0 lc] 22)
    have hs1 : (w.alloc (.cells #[.slice la n0 lc] 22)).heap.size = w.heap.size + 1 := by simp
    rw [hH.out] at *
    generalize w.alloc (.cells #[.slice la l.length lc] 22) = W1 at *
    have hm1 := IntIs.made W1
    have hb2 := below_alloc W1 (.map #[] 0)
    have hs2 : (W1.alloc (.map #[] 0)).heap.size = w.heap.size + 1 + 1 := by simp [hs1]
    rw [hs1] at hm1
    generalize W1.alloc (.map #[] 0) = W2 at *
    have hb3 := below_alloc W2 (.cells #[.map (some (w.heap.size + 1))] 66)
    have h3 := heap_alloc_new W2 (.cells #[.map (some (w.heap.size + 1))] 66)
    rw [hs2] at h3
    generalize W2.alloc (.cells #[.map (some (w.heap.size + 1))] 66) = W3 at *
    have hb23 : Below W1.heap.size W1 W3 := hb2.trans (hb3.mono (by omega))
    exact ⟨hb1.trans (hb23.mono (by omega)), (hb23.block _ (by omega)).trans h1, h3, hm1.kept (row := none) ⟨hb3.os, hb3.tape, hb3.output, hb3.size, fun k hk _ => hb3.block k hk⟩ (by simp)⟩
  case round =>
    obtain ⟨i, hi, rfl, hA⟩ := hrel
    by_cases hin : i < n0
    · obtain ⟨q, gl, ol, va, vc, hq, rfl, hgl, hqa⟩ := hget.out i (by rw [← hH.out]; exact hin)
      have hq' := hqa.below hgl hA.out.bel
      have q0 := hq'.name
      have q1 := hq'.terms
      have q2 := hq'.const
      obtain ⟨tl, htl⟩ : ∃ tl, tl = q.2.terms.length := ⟨_, rfl⟩
      rw [← htl] at q1
      have hA2 := Hid.intro (hA.out.below (below_alloc wr (.cells #[.string (str q.1), .slice va tl vc, .int .u32 q.2.const] 31)))
      obtain ⟨wu, hrun, hIs, hgu⟩ := intput_run hA2.out.aa (by omega) q.1 (i : Int) (hnm.out i q hq).2
      have hA3 : Hid (WA w l (some ⟨gl, ol, none⟩) lc (i + 1) wu) := hA2.out.put (by rw [(hnm.out i q hq).1]; exact hIs) hgu
      have x4 := (Joins.cell_of_block hA2.out.ab 0).trans rfl
      clear hq hqa hq' htl hIs hgu hA hA2
      go_wp2_with fail
      all_goals first | omega | skip
      go_roundw
      case rel => exact ⟨i + 1, by omega, by go_num, hA3⟩
      case measure => simp [intOf]; omega
    · obtain rfl : i = n0 := by omega
      have hA4 : Hid (WA w l la lc l.length wr) := by
        show WA _ _ _ _ _ _
        rw [← hH.out]
        exact hA.out
      have hF0 := hstart.out wr hA4.out
      rw [← hH.out] at hF0
      replace hF0 := Hid.intro hF0
      have hlb : wr.cell? ⟨w.heap.size, 0, none⟩ = some (.slice la i lc) := by rw [hH.out]; exact (Joins.cell_of_block hA4.out.lb 0).trans rfl
      have hsl := wblk_lt hA4.out.ab
      have hbA := fun (W : World) (o : Obj) => below_alloc W o
      have hl1 : ∀ o1 o2 o3 o4, ((((wr.alloc o1).alloc o2).alloc o3).alloc o4).cell? ⟨w.heap.size, 0, none⟩ = some (.slice la i lc) := fun o1 o2 o3 o4 => by
        have hb := ((((below_alloc wr o1).alloc (by simp) o2).alloc (by simp; omega) o3).alloc (by simp; omega) o4)
        exact (hb.cell (p := ⟨w.heap.size, 0, none⟩) (by show w.heap.size < wr.heap.size; omega)).trans hlb
      clear hA hA4 hbA
      go_upto_region 13 with fail
      all_goals first | omega | skip
      have hMo := hM.out
      rw [hMo]
      change Code.wp _ _ _ _ (alls wr (wkO w.heap.size wr.heap.size i))
      generalize alls wr (wkO w.heap.size wr.heap.size i) = W0 at *
      obtain ⟨b, hb⟩ : ∃ b, b = wkB w.heap.size wr.heap.size := ⟨_, rfl⟩
      have e8 : wr.heap.size + 1 + 1 + 1 + 1 + 1 + 1 + 1 + 1 + 1 = b 8 := by rw [hb]; rfl
      have e7 : wr.heap.size + 1 + 1 + 1 + 1 + 1 + 1 + 1 + 1 = b 7 := by rw [hb]; rfl
      have e0 : wr.heap.size + 1 + 1 + 1 + 1 + 1 + 1 + 1 = b 0 := by rw [hb]; rfl
      have e5 : wr.heap.size + 1 + 1 + 1 + 1 + 1 + 1 = b 5 := by rw [hb]; rfl
      have e1 : wr.heap.size + 1 + 1 + 1 + 1 + 1 = b 1 := by rw [hb]; rfl
      have e9 : wr.heap.size + 1 + 1 + 1 + 1 = b 9 := by rw [hb]; rfl
      have e3 : wr.heap.size + 1 + 1 + 1 = b 3 := by rw [hb]; rfl
      have e4 : wr.heap.size + 1 + 1 = b 4 := by rw [hb]; rfl
      have e10 : wr.heap.size + 1 = b 10 := by rw [hb]; rfl
      have e6 : w.heap.size + 1 + 1 = b 6 := by rw [hb]; rfl
      have e11 : w.heap.size + 1 = b 11 := by rw [hb]; rfl
      have e2 : w.heap.size = b 2 := by rw [hb]; rfl
      have hWL0 : Hid (WL w b l la lc l.length 0 0 Ta.zeroS W0) := by
        refine ⟨rfl, Ta.inv_zero, rfl, ?_, by show 0 + 0 ≤ 0; omega, Nat.le_refl _⟩
        rw [hb, ← hH.out] at *
        exact hF0.out
      rw [e8, e7, e0, e5, e1, e9, e3, e4, e10, e6, e11, e2]
      have hi2 := Hid.intro hH.out
      clear e8 e7 e0 e5 e1 e9 e3 e4 e10 e6 e11 hb hF0 hlb hl1 hsl hstart hget hnm hms0 hmsn hMo hM hmm hmk0 M
      have x2 := (Joins.cell_of_block hWL0.out.fs.lb 0).trans rfl
      rw [← hi2.out] at x2
      go_wp2_with fail
      all_goals first | omega | skip
      clear x2
      go_loopw [41] (fun v41 wr => ∃ (j nb : Nat) (s : Ta.St), j ≤ i ∧ v41 = .int .i64 (j : Int) ∧ Hid (WL w b l la lc l.length j nb s wr)) (fun v41 _ => i - (intOf v41).toNat)
      case atStart => exact ⟨0, 0, _, by omega, rfl, hWL0⟩
      case round =>
        obtain ⟨j, nb, s, hj, rfl, hW⟩ := hrel
        clear hWL0
        by_cases hji : j < i
        · have hjl : j < l.length := by rw [← hi2.out]; exact hji
          have x1 := (Joins.cell_of_block hW.out.fs.mb 0).trans rfl
          have x9 := (Joins.cell_of_block hW.out.fs.mm j).trans (metR_get l.length _ j hjl)
          have x8 := (Joins.cell_of_block hW.out.fs.vb 0).trans rfl
          rw [← hi2.out] at x1
          by_cases h0 : s.met j = 0
          · have hcall := Hid.intro (hvis.out b j nb s wr hW.out hjl h0)
            have hgo2 : Hid (∀ nb' w', nb' ≤ (Ta.visitF (adjF l) (selfF l) l.length j s).2.order.length → FS w b l la lc l.length nb' (Ta.visitF (adjF l) (selfF l) l.length j s).2 w' → WL w b l la lc l.length (j + 1) nb' (Ta.visitF (adjF l) (selfF l) l.length j s).2 w') := fun nb' w' h1 h2 => hgo.out b j nb nb' s wr w' hW.out hjl h0 h1 h2
            unfold ViO at hcall
            generalize (Ta.visitF (adjF l) (selfF l) l.length j s).1 = rv at *
            generalize (Ta.visitF (adjF l) (selfF l) l.length j s).2 = rs at *
            rw [h0] at x9
            have hjl2 := Hid.intro hjl
            clear h0 hjl hW
            go_wp2_with (go_at_call 44; (with_reducible refine (hcall.out).mono ?_); rintro e w8 ⟨rfl, nb2, h1, h2⟩; have hW2 := Hid.intro (hgo2.out nb2 w8 h1 h2); clear h1 h2)
            all_goals first | omega | skip
            go_roundw
            case rel => exact ⟨j + 1, nb2, rs, by omega, by go_num, hW2⟩
            case measure => simp [intOf]; omega
          · have hW2 := Hid.intro (hW.out.skip hjl h0)
            have hmz : ((s.met j : Int) == 0) = false := by simp; exact h0
            generalize s.met j = mj at *
            have hjl2 := Hid.intro hjl
            clear h0 hjl hW
            go_wp2_with fail
            all_goals first | omega | skip
            go_roundw
            case rel => exact ⟨j + 1, nb, s, by omega, by go_num, hW2⟩
            case measure => simp [intOf]; omega
        · obtain rfl : j = i := by omega
          have hs := hend.out b nb s wr hW.out
          subst hs
          obtain ⟨a0, c0, o1, o2, o3, a2, c2, r1, r2, r3⟩ := hW.out.fs.op
          have y4 := (Joins.cell_of_block r1 0).trans rfl
          have y3 := (Joins.cell_of_block hW.out.fs.kb 0).trans rfl
          have hlen9 : (walkL l).order.length ≤ l.length := by
            have h1 := hW.out.sz
            have h2 := hW.out.inv.cnt
            unfold Sz at h1
            omega
          have hres : Hid (∀ k, WalkO w l a2 c2 (b 10) nb (wr.drewN k)) := fun k => by
            have hd : Below wr.heap.size wr (wr.drewN k) := below_drewV (Below.refl _ _) k
            have hg : wr.grownBy (wr.drewN k) none := ⟨hd.os, hd.tape, hd.output, hd.size, fun k hk _ => hd.block k hk⟩
            exact ⟨hW.out.fs.bel.trans (hd.mono hW.out.fs.bel.size), own_row r2 (fun g _ e => by cases e) hg, hW.out.nb, hW.out.fs.ap.ge 10 (by decide), hW.out.fs.kk.kept hg (by simp), fun e => (r3 _ e).1 10 (by decide) rfl, hlen9⟩
          obtain ⟨n2, hn2⟩ : ∃ n2, n2 = (walkL l).order.length := ⟨_, rfl⟩
          rw [← hn2] at y4
          have hn3 := Hid.intro hn2
          clear hW o1 o2 o3 r1 r2 r3 hn2 hlen9
          go_wp2_with fail
          all_goals first | omega | skip
          go_quiet (fail)
          go_wp2_with fail
          all_goals first | omega | skip
          refine bodyPost_ret (by simp [results, Try.results28, go_sem]; try rfl) rfl ?_
          exact ⟨a2, n2, c2, b 10, nb, hn3.out, rfl, hres.out _⟩
end Go.Proofs.Ytebbbefknfldoaa
/-
  DERIVED: THE SHELF's CONTRACTS AT THIS DUMP, IN PLAIN WORDS (tools/lay-plain.mjs out of 'YtebbbefknfldoaaShT0.lean', which tools/lay-shelf.mjs wrote): THE SAME DECLARATIONS UNDER THE SAME NAMES: 'import', 'namespace', 'open', 'def', 'theorem' AND NOTHING ELSE: no command of the shelf's: FOR A HAND-IN. Each laying: the table of numbers ('.._ren') and one theorem, a field a fact of the dump's own or the kernel's comparison; each contract: ONE APPLICATION.
-/
namespace Go.Proofs
open Go.Shelf
def Try.laysStrSort_ren : Go.Shelf.Ren := ⟨fun | 190 => 31 | 125 => 49 | 258 => 48 | 128 => 66 | 129 => 67 | 302 => 57 | 303 => 58 | 304 => 59 | 305 => 60 | 306 => 61 | 307 => 62 | 308 => 63 | 309 => 64 | 310 => 65 | 333 => 71 | 329 => 72 | 330 => 73 | 334 => 74 | 335 => 75 | 336 => 76 | 344 => 81 | n => n, fun | 31 => 33 | 9 => 9 | 3 => 3 | 46 => 82 | 0 => 0 | 51 => 27 | 53 => 114 | 4 => 4 | 183 => 106 | 182 => 105 | 131 => 86 | 5 => 5 | 218 => 119 | 222 => 123 | 228 => 129 | 229 => 130 | n => n, fun | n => n⟩
theorem Try.laysStrSort : Go.Proofs.Lays.n190 Try.prog Try.laysStrSort_ren := {
  mixed := by kernel_rfl
  f125 := Try.func49.trans (congrArg some (by kernel_rfl))
  f128 := Try.func66.trans (congrArg some (by kernel_rfl))
  f129 := Try.func67.trans (congrArg some (by kernel_rfl))
  f190 := Try.func31.trans (congrArg some (by kernel_rfl))
  f258 := Try.func48.trans (congrArg some (by kernel_rfl))
  f302 := Try.func57.trans (congrArg some (by kernel_rfl))
  f303 := Try.func58.trans (congrArg some (by kernel_rfl))
  f304 := Try.func59.trans (congrArg some (by kernel_rfl))
  f305 := Try.func60.trans (congrArg some (by kernel_rfl))
  f306 := Try.func61.trans (congrArg some (by kernel_rfl))
  f307 := Try.func62.trans (congrArg some (by kernel_rfl))
  f308 := Try.func63.trans (congrArg some (by kernel_rfl))
  f309 := Try.func64.trans (congrArg some (by kernel_rfl))
  f310 := Try.func65.trans (congrArg some (by kernel_rfl))
  f329 := Try.func72.trans (congrArg some (by kernel_rfl))
  f330 := Try.func73.trans (congrArg some (by kernel_rfl))
  f333 := Try.func71.trans (congrArg some (by kernel_rfl))
  f334 := Try.func74.trans (congrArg some (by kernel_rfl))
  f335 := Try.func75.trans (congrArg some (by kernel_rfl))
  f336 := Try.func76.trans (congrArg some (by kernel_rfl))
  f344 := Try.func81.trans (congrArg some (by kernel_rfl))
  t0 := Try.underlying0
  a0 := Try.isAgg0
  z0 := Try.sizeOf0
  v0 := Try.zeroValue0
  t3 := Try.underlying3
  a3 := Try.isAgg3
  z3 := Try.sizeOf3
  v3 := Try.zeroValue3
  t4 := Try.underlying4
  a4 := Try.isAgg4
  z4 := Try.sizeOf4
  v4 := Try.zeroValue4
  t5 := Try.underlying5
  a5 := Try.isAgg5
  z5 := Try.sizeOf5
  v5 := Try.zeroValue5
  t9 := Try.underlying9
  a9 := Try.isAgg9
  z9 := Try.sizeOf9
  v9 := Try.zeroValue9
  t31 := Try.underlying33
  a31 := Try.isAgg33
  z31 := Try.sizeOf33
  v31 := Try.zeroValue33
  t46 := Try.underlying82
  a46 := Try.isAgg82
  z46 := Try.sizeOf82
  v46 := Try.zeroValue82
  t51 := Try.underlying27
  a51 := Try.isAgg27
  z51 := Try.sizeOf27
  v51 := Try.zeroValue27
  t53 := Try.underlying114
  a53 := Try.isAgg114
  z53 := Try.sizeOf114
  v53 := Try.zeroValue114
  t131 := Try.underlying86
  a131 := Try.isAgg86
  z131 := Try.sizeOf86
  v131 := Try.zeroValue86
  t182 := Try.underlying105
  a182 := Try.isAgg105
  z182 := Try.sizeOf105
  v182 := Try.zeroValue105
  t183 := Try.underlying106
  a183 := Try.isAgg106
  z183 := Try.sizeOf106
  v183 := Try.zeroValue106
  t218 := Try.underlying119
  a218 := Try.isAgg119
  z218 := Try.sizeOf119
  v218 := Try.zeroValue119
  t222 := Try.underlying123
  a222 := Try.isAgg123
  z222 := Try.sizeOf123
  v222 := Try.zeroValue123
  t228 := Try.underlying129
  a228 := Try.isAgg129
  z228 := Try.sizeOf129
  v228 := Try.zeroValue129
  t229 := Try.underlying130
  a229 := Try.isAgg130
  z229 := Try.sizeOf130
  v229 := Try.zeroValue130 }
end Go.Proofs
/- Texts sorted: the library's, at lists that are owned. -/
namespace Go.Proofs.Ytebbbefknfldoaa
open Go.ChangeShapes Go.WideShapes Go.ChangeAt Go.RowKit Go.Sort
set_option linter.unusedVariables false
set_option maxRecDepth 100000
def sortS (ss : List (List UInt8)) : List (List UInt8) := ss.mergeSort fun x y => decide (x ≤ y)
theorem sortS_len (ss : List (List UInt8)) : (sortS ss).length = ss.length := List.length_mergeSort ss
theorem sortS_any (v : Value) (ss : List (List UInt8)) (B : Nat) (w : World) (hl : ss.length ≤ 9000000) (hown : w.ownsRow B 9 1 v ss.length (ss.map encStr)) :
    Calls Try.prog 31 #[v] w fun e w' => e = .returned (.tuple #[]) ∧ w'.ownsRow B 9 1 v ss.length ((sortS ss).map encStr) ∧ w.grownBy w' v.ownBlock := by
  rcases hown.2 with ⟨rfl, h0⟩ | ⟨g, cap, cur, rfl, hbase, hb, h1, h2, h3, h4⟩
  · have he : ss = [] := List.eq_nil_of_length_eq_zero h0
    subst he
    refine (Any.slices_Sort_string_none Try.laysStrSort none 0 w).mono ?_
    rintro e w' ⟨rfl, rfl⟩
    exact ⟨rfl, by simpa [sortS] using World.ownsRow_nil _ B 9 1, World.grownBy.refl _ _⟩
  · have hv : (Value.slice (some ⟨g, 0, none⟩) ss.length cap) ≠ .slice none 0 0 := by simp
    obtain ⟨g', cap', e1, _, hlt, _, _, _, hH⟩ := Lib.holds_of_ownsRow hown hv
    injection e1 with e1 _ e3
    injection e1 with e1
    injection e1 with e1
    subst e1 e3
    refine (Any.slices_Sort_string Try.laysStrSort g 0 cap ss w hH hlt (by omega)).mono ?_
    rintro e w' ⟨rfl, n, os, rfl⟩
    exact ⟨rfl, ownsRow_sorted (sortS_len ss) hbase hb h1 h2 h3, grownBy_sorted _⟩
end Go.Proofs.Ytebbbefknfldoaa
/- equ.Cycle. -/
namespace Go.Proofs.Ytebbbefknfldoaa
open Go.ChangeShapes Go.WideShapes Go.ChangeAt Go.RowKit Go.Sort Go.Maps
set_option linter.unusedVariables false
set_option linter.unusedSimpArgs false
set_option maxRecDepth 100000
theorem info9 : (Try.prog.info? 9).map (fun i => (i.zero, i.size, i.bytes)) = some (some (.string ⟨#[]⟩), 1, 16) := by kernel_rfl
theorem size_le {w : World} {b n : Nat} {D : DataW Unit} (h : w.ownsMap Try.prog 9 intE b n D) : Maps.size D ≤ n := by
  obtain ⟨es, clock, h1, F, h2, rfl⟩ := h
  rw [Maps.size_eq]
  rw [length_sorted]
  simpa using h2
def CycN (l : List Eqv) (x : List UInt8) : Prop := ∃ i, i < l.length ∧ Ta.Cyc (adjF l) i ∧ nmOf l i = x
theorem back_has {l : List Eqv} (hnd : (l.map (·.1)).Nodup) (hl : l.length < Ta.big) (x : List UInt8) : (backF l (walkL l).back x).isSome = true ↔ CycN l x := by
  obtain ⟨h1, h2, h3⟩ := walk_right hnd hl
  constructor
  · intro h
    obtain ⟨z, hz⟩ := Option.isSome_iff_exists.1 h
    obtain ⟨i, hi, _, hn⟩ := backF_some l _ x z hz
    obtain ⟨h4, h5⟩ := (h2 i).1 hi
    exact ⟨i, h4, h5, hn⟩
  · rintro ⟨i, h4, h5, h6⟩
    cases hb : backF l (walkL l).back x with
    | some z => rfl
    | none => exact absurd h6 (backF_none l _ x hb i ((h2 i).2 ⟨h4, h5⟩))
theorem iter_ne {w : World} {b r n : Nat} {D : DataW Unit} {left : Lit → Bool} {cnt : Nat} (h : w.ranges Try.prog 9 intE b r n D left cnt) {lo : Nat} {T : TypeId} {sz : Nat} {v : Value} {m : Nat} {xs : List Value} (ho : w.ownsRow lo T sz v m xs) : some b ≠ v.ownBlock ∧ some r ≠ v.ownBlock := by
  obtain ⟨es, clock, since, seen, c0, hb, _, _, _, hr, _⟩ := h
  refine ⟨fun e => ?_, fun e => ?_⟩
  · obtain ⟨cur, hc⟩ := own_type ho e.symm
    rw [hb] at hc; cases hc
  · obtain ⟨cur, hc⟩ := own_type ho e.symm
    rw [hr] at hc; cases hc
structure CSt (w : World) (l : List Eqv) (B r nb : Nat) (D : DataW Unit) (ss : List (List UInt8)) (v5 : Value) (left : Lit → Bool) (cnt : Nat) (wr : World) : Prop where
  rg : wr.ranges Try.prog 9 intE B r nb D left cnt
  co : Collected D left ss
  own : wr.ownsRow w.heap.size 9 1 v5 ss.length (ss.map encStr)
  bel : Below w.heap.size w wr
  cnt : ss.length + cnt ≤ Maps.size D
  ge : w.heap.size ≤ r
theorem CSt.below {w : World} {l : List Eqv} {B r nb : Nat} {D : DataW Unit} {ss : List (List UInt8)} {v5 : Value} {left : Lit → Bool} {cnt : Nat} {wr w' : World} (h : CSt w l B r nb D ss v5 left cnt wr) (hb : Below wr.heap.size wr w') : CSt w l B r nb D ss v5 left cnt w' :=
  ⟨h.rg.kept (row := none) ⟨hb.os, hb.tape, hb.output, hb.size, fun k hk _ => hb.block k hk⟩ (by simp) (by simp), h.co, own_row h.own (k := none) (fun g _ e => by cases e) ⟨hb.os, hb.tape, hb.output, hb.size, fun k hk _ => hb.block k hk⟩, h.bel.trans (hb.mono h.bel.size), h.cnt, h.ge⟩
theorem CSt.step {w : World} {l : List Eqv} {B r nb : Nat} {D : DataW Unit} {ss : List (List UInt8)} {v5 v5' : Value} {left : Lit → Bool} {cnt cnt2 : Nat} {wr w2 w3 w4 : World} (h : CSt w l B r nb D ss v5 left cnt wr) {x : List UInt8} {y : DataW Unit} (hlk : left (.string x) = true) (hat : ∀ zd, D.atKey (.string x) zd = y) (hrg : w2.ranges Try.prog 9 intE B r nb D (fun z => left z && !z.sameKey (.string x)) cnt2) (hlt : cnt2 < cnt) (hg : wr.grownBy w2 (some r)) (hb : Below w2.heap.size w2 w3) (ho : w4.ownsRow w.heap.size 9 1 v5' (ss.length + 1) (ss.map encStr ++ [encStr x])) (hg4 : w3.grownBy w4 v5.ownBlock) : CSt w l B r nb D (ss ++ [x]) v5' (fun z => left z && !z.sameKey (.string x)) cnt2 w4 := by
  have h2 := iter_ne h.rg h.own
  have hrg3 := hrg.kept (row := none) (w' := w3) ⟨hb.os, hb.tape, hb.output, hb.size, fun k hk _ => hb.block k hk⟩ (by simp) (by simp)
  have hb3 := (h.bel.grown hg h.bel.size (fun g e => by cases e; exact h.ge)).trans (hb.mono (Nat.le_trans h.bel.size hg.size))
  refine ⟨hrg3.kept hg4 h2.1 h2.2, h.co.step hlk hat, by simpa using ho, hb3.grown hg4 hb3.size (fun g e => (h.own.lt g e).1), ?_, h.ge⟩
  have := h.cnt
  simp
  omega
theorem CSt.own3 {w : World} {l : List Eqv} {B r nb : Nat} {D : DataW Unit} {ss : List (List UInt8)} {v5 : Value} {left : Lit → Bool} {cnt : Nat} {wr w2 w3 : World} (h : CSt w l B r nb D ss v5 left cnt wr) (hg : wr.grownBy w2 (some r)) (hb : Below w2.heap.size w2 w3) : w3.ownsRow w.heap.size 9 1 v5 ss.length (ss.map encStr) :=
  own_row (own_row h.own (fun g e e' => (iter_ne h.rg h.own).2 (by rw [e, e'])) hg) (k := none) (fun g _ e => by cases e) ⟨hb.os, hb.tape, hb.output, hb.size, fun k hk _ => hb.block k hk⟩
set_option maxHeartbeats 16000000 in
theorem cycle_any (l : List Eqv) (la : Option Addr) (lc : Nat) (hl : l.length ≤ 1000) (hnd : (l.map (·.1)).Nodup) (hheld : ∀ q ∈ l, q.1.length ≤ 140737488355328 ∧ q.2.terms.length ≤ 4400000 ∧ ∀ t ∈ q.2.terms, t.name.length ≤ 140737488355328) (w : World) (hE : EqIn w la l) :
    Calls Try.prog 10 #[.slice la l.length lc] w fun e w' => Below w.heap.size w w' ∧ ∃ (v : Value) (ss : List (List UInt8)), e = .returned v ∧ w'.ownsRow w.heap.size 9 1 v ss.length (ss.map encStr) ∧ ss.Pairwise (fun x y => x ≤ y) ∧ ss.Nodup ∧ ∀ x, x ∈ ss ↔ CycN l x := by
  have h28 := Hid.intro (walk_mem l la lc hl hnd hheld w hE)
  have hbk := Hid.intro (back_has hnd (Nat.lt_of_le_of_lt hl (by decide)))
  have hl2 := Hid.intro hl
  have hhd := Hid.intro hheld
  obtain ⟨i9, hi9, z0, z1, z2⟩ := info_parts info9
  obtain ⟨n0, hn0⟩ : ∃ n0, n0 = l.length := ⟨_, rfl⟩
  rw [← hn0] at h28 ⊢
  clear hE hnd hl hheld hn0
  go_enter Try.func10, Try.ntmps10
  go_wp2_with (first
    | (go_at_call 28; (with_reducible refine (h28.out).mono ?_); rintro e w1 ⟨a, n, c, B, nb, hn, rfl, hW⟩; obtain ⟨D, hown, hD1, hD2⟩ := hW.map; have hWH := Hid.intro hW; have hnH := Hid.intro hn; have hDH := Hid.intro hD2; clear hW hn hD1 hD2)
    | (at_range; refine wpList_range_own _ rfl _ 66 rfl 9 3 lawS Try.underlying66 intE B nb D rfl hown ?_; intro w2 hrg hg2 hs2))
  go_frame
  have hS0 : Hid (CSt w l B w1.heap.size nb D [] (.slice none 0 0) (has D) (size D) w2) := by
    have hb2 : Below w1.heap.size w1 w2 := ⟨hg2.os, hg2.tape, hg2.output, hg2.size, fun k hk => hg2.block k hk (by simp)⟩
    exact ⟨hrg, Collected.start D, World.ownsRow_nil _ _ _ _, hWH.out.bel.trans (hb2.mono hWH.out.bel.size), by simp, hWH.out.bel.size⟩
  have hsz : size D ≤ 1000 := Nat.le_trans (size_le hown) (Nat.le_trans hWH.out.le (Nat.le_trans hWH.out.len hl2.out))
  have hkey : Hid (∀ x, has D (.string x) = true ↔ CycN l x) := fun x => by rw [(hDH.out x).1]; exact hbk.out x
  have hlen : Hid (∀ x, has D (.string x) = true → x.length ≤ 140737488355328) := fun x hx => by
    obtain ⟨i, h1, _, h2⟩ := (hkey.out x).1 hx
    rw [← h2, nmOf_get (List.getElem?_eq_getElem h1)]
    exact (hhd.out _ (List.getElem_mem h1)).1
  generalize hr : w1.heap.size = r at *
  clear hown hWH hDH hbk h28 hrg hg2 hs2 hr hhd
  go_loopw [5] (fun v5 wr => ∃ (left : Lit → Bool) (cnt : Nat) (ss : List (List UInt8)), CSt w l B r nb D ss v5 left cnt wr) (fun _ wr => wr.rangeLeft B r)
  case atStart => exact ⟨_, _, _, hS0.out⟩
  case round =>
    obtain ⟨left, cnt, ss, hC⟩ := hrel
    clear hS0
    obtain ⟨a5, c5, rfl⟩ := own_slice hC.own
    have hrg := hC.rg
    have hCH := Hid.intro hC
    obtain ⟨n5, hn5⟩ : ∃ n5, n5 = ss.length := ⟨_, rfl⟩
    have hn5H := Hid.intro hn5
    have hn52 : n5 ≤ 1000 := by have := hC.cnt; omega
    rw [← hn5]
    clear hC hn5
    go_wp2_with (at_next; refine wpList_next_ranges _ rfl _ rfl 9 lawS intE encStr (Value.int .i64) (fun key kl hk => by obtain ⟨x, hx, _⟩ := Maps.keyOf_str Try.underlying9 hk; exact ⟨x, hx⟩) (fun v y hv => by unfold intE at hv; split at hv; exact ⟨_, rfl⟩; cases hv) B r nb D left cnt rfl hrg ?_ ?_)
    · intro _ hl0
      have hmem : Hid ((∀ x, x ∈ ss ↔ CycN l x) ∧ ss.Nodup) := ⟨fun x => by rw [hCH.out.co.2 x, hl0]; simp; exact hkey.out x, hCH.out.co.1⟩
      have hown4 := Hid.intro hCH.out.own
      rw [← hn5H.out] at hown4
      have hsort : Hid (Calls Try.prog 31 #[.slice a5 n5 c5] wr fun e w4 => e = .returned (.tuple #[]) ∧ Hid (w4.ownsRow w.heap.size 9 1 (.slice a5 n5 c5) n5 ((sortS ss).map encStr)) ∧ Hid (RowKit.Below w.heap.size w w4)) := by
        refine (sortS_any (.slice a5 n5 c5) ss w.heap.size wr (by rw [← hn5H.out]; omega) (by rw [← hn5H.out]; exact hown4.out)).mono ?_
        rintro e w4 ⟨rfl, ho, hg⟩
        exact ⟨rfl, by rw [← hn5H.out] at ho; exact ho, hCH.out.bel.grown hg hCH.out.bel.size (fun g e => (hown4.out.lt g e).1)⟩
      clear hrg hl0 hown4
      go_wp2_with (go_at_call 31; (with_reducible refine (hsort.out).mono ?_); rintro e w4 ⟨rfl, ho4, hb4⟩)
      all_goals first | omega | skip
      go_ret
      refine ⟨hb4.out, _, sortS ss, rfl, ?_, ?_, ?_, fun x => ?_⟩
      · rw [sortS_len, ← hn5H.out]; exact ho4.out
      · have := List.pairwise_mergeSort (le := fun x y : List UInt8 => decide (x ≤ y)) (fun a b c h1 h2 => by simp at *; exact List.le_trans h1 h2) (fun a b => by simp; exact List.le_total a b) ss
        exact this.imp fun h => by simpa using h
      · exact (List.mergeSort_perm ss _).nodup_iff.2 hmem.out.2
      · exact ((List.mergeSort_perm ss _).mem_iff).trans (hmem.out.1 x)
    · intro x c1 kl yd yp w2 cnt2 hkey2 hlk hv hat hrg2 hlt hg2 hs2 hen
      obtain ⟨x', ex, rfl, _⟩ := Maps.keyOf_str Try.underlying9 hkey2
      obtain rfl : x = x' := encStr_inj ex
      have hxl := hlen.out x (has_true_of_atKey hat)
      have hown2 := Hid.intro (fun w3 hb => hCH.out.own3 (w3 := w3) hg2 hb)
      have hstep : Hid (∀ v5' w3 w4, Hid (RowKit.Below w2.heap.size w2 w3) → w4.ownsRow w.heap.size 9 1 v5' (n5 + 1) (ss.map encStr ++ [encStr x]) → w3.grownBy w4 (Value.slice a5 n5 c5).ownBlock → CSt w l B r nb D (ss ++ [x]) v5' (fun z => left z && !z.sameKey (.string x)) cnt2 w4) := fun v5' w3 w4 h1 h2 h3 => hCH.out.step hlk hat hrg2 hlt hg2 h1.out (by rw [← hn5H.out]; exact h2) (by rw [← hn5H.out]; exact h3)
      rw [← hn5H.out] at hown2
      have hcl : Hid (Calls Try.prog 29 #[encStr x] w2 fun e w3 => e = .returned (encStr x) ∧ Hid (RowKit.Below w2.heap.size w2 w3) ∧ Hid (w3.ownsRow w.heap.size 9 1 (.slice a5 n5 c5) n5 (ss.map encStr)) ∧ w.heap.size ≤ w3.heap.size) := by
        refine (clone_any ⟨x.toArray⟩ w2 (by simp [ByteArray.size]; omega)).mono ?_
        rintro e w3 ⟨rfl, hb⟩
        exact ⟨rfl, hb, hown2.out w3 hb, by have := hb.size; have := hg2.size; have := hCH.out.bel.size; omega⟩
      have hle2 : Hid (wr.rangeLeft B r = cnt) := hCH.out.rg.left_eq
      clear hs2 hkey2 hv hat hrg2 hrg hlk hg2 hown2
      go_wp2_with (first
        | (go_at_call 29; (with_reducible refine (hcl.out).mono ?_); rintro e w3 ⟨rfl, hb3, ho3, hs3⟩)
        | (at_builtin; go_must (refine wpList_app rfl (.tmp 18) (.tmp 21) 33 rfl w.heap.size 9 i9 _ 1 16 Try.underlying33 hi9 z0 z1 z2 rfl (by decide) (.slice a5 n5 c5) n5 (ss.map encStr) rfl (ho3.out.alloc _) (.slice (some ⟨w3.heap.size, 0, none⟩) 1 1) 1 [encStr x] rfl (.inr ⟨_, _, rfl, cells_new w3 #[encStr x] 9⟩) rfl (by simp [Value.oneCell', encStr]) (by unfold maxLen; omega) (by omega) (by simp; omega) ?_; intro v5 w5 ho5 hg5 hw5; have hC5 := hstep.out v5 _ w5 (Hid.intro (hb3.out.trans ((below_alloc w3 (.cells #[encStr x] 9)).mono hb3.out.size))) ho5 hg5; clear ho5 hg5 hw5)))
      all_goals first | omega | skip
      go_roundw
      case rel => exact ⟨_, _, _, hC5⟩
      case measure => rw [hC5.rg.left_eq, hle2.out]; exact hlt
end Go.Proofs.Ytebbbefknfldoaa
namespace Go.Proofs.Ytebbbefknfldoaa
set_option linter.unusedVariables false
set_option linter.unusedSimpArgs false
set_option maxRecDepth 100000
def Met (adj : Nat → List Nat) (f t : Nat) : Prop := ∃ b ∈ adj f, Ta.Rch adj b t
structure MI (adj : Nat → List Nat) (n f t : Nat) (m : Nat → Nat) (ws : List Nat) : Prop where
  lt : ∀ k ∈ ws, k < n
  from_ : ∀ j, m j ≠ 0 → j < n ∧ Met adj f j
  work : ∀ k ∈ ws, k = f ∨ m k ≠ 0
  shut : ∀ k, (k = f ∨ m k ≠ 0) → k ∉ ws → ∀ j ∈ adj k, j ≠ t ∧ m j ≠ 0
theorem rch_snoc {adj : Nat → List Nat} {a b c : Nat} (h : Ta.Rch adj a b) (g : c ∈ adj b) : Ta.Rch adj a c := h.trans (.head g (.refl c))
theorem MI.start {adj : Nat → List Nat} {n f t : Nat} (hf : f < n) : MI adj n f t (fun _ => 0) [f] :=
  ⟨fun k hk => by rw [List.mem_singleton.1 hk]; exact hf, fun j hj => absurd rfl hj, fun k hk => .inl (List.mem_singleton.1 hk), fun k hk hn => by
    rcases hk with rfl | hk
    · exact absurd (List.mem_singleton.2 rfl) hn
    · exact absurd rfl hk⟩
theorem MI.no {adj : Nat → List Nat} {n f t : Nat} {m : Nat → Nat} (h : MI adj n f t m []) : ¬ Met adj f t := by
  rintro ⟨b, hb, hr⟩
  have h1 := h.shut f (.inl rfl) (by simp) b hb
  have h2 := Ta.Rch.stay (P := fun a => a ≠ t ∧ m a ≠ 0) (fun a ha c hc => h.shut a (.inr ha.2) (by simp) c hc) hr h1
  exact h2.1 rfl
structure MJ (adj : Nat → List Nat) (n f t k : Nat) (ds : List Nat) (m : Nat → Nat) (ws : List Nat) : Prop where
  kn : k < n
  ko : k = f ∨ m k ≠ 0
  lt : ∀ k ∈ ws, k < n
  from_ : ∀ j, m j ≠ 0 → j < n ∧ Met adj f j
  work : ∀ k ∈ ws, k = f ∨ m k ≠ 0
  shut : ∀ a, (a = f ∨ m a ≠ 0) → a ∉ ws → a ≠ k → ∀ j ∈ adj a, j ≠ t ∧ m j ≠ 0
  done : ∀ j ∈ ds, j ≠ t ∧ m j ≠ 0
theorem MI.pop {adj : Nat → List Nat} {n f t k : Nat} {m : Nat → Nat} {ws : List Nat} (h : MI adj n f t m (ws ++ [k])) : MJ adj n f t k [] m ws :=
  ⟨h.lt k (by simp), h.work k (by simp), fun a ha => h.lt a (by simp [ha]), h.from_, fun a ha => h.work a (by simp [ha]), fun a ha hn hk => h.shut a ha (by simp [hn, hk]), fun j hj => by cases hj⟩
theorem MJ.met {adj : Nat → List Nat} {n f t k : Nat} {ds : List Nat} {m : Nat → Nat} {ws : List Nat} (h : MJ adj n f t k ds m ws) (hj : t ∈ adj k) : Met adj f t := by
  rcases h.ko with rfl | hk
  · exact ⟨t, hj, .refl t⟩
  · obtain ⟨_, b, hb, hr⟩ := h.from_ k hk
    exact ⟨b, hb, rch_snoc hr hj⟩
theorem MJ.seen {adj : Nat → List Nat} {n f t k j : Nat} {ds : List Nat} {m : Nat → Nat} {ws : List Nat} (h : MJ adj n f t k ds m ws) (hj : j ≠ t) (hm : m j ≠ 0) : MJ adj n f t k (ds ++ [j]) m ws :=
  ⟨h.kn, h.ko, h.lt, h.from_, h.work, h.shut, fun a ha => by
    rcases List.mem_append.1 ha with ha | ha
    · exact h.done a ha
    · rw [List.mem_singleton.1 ha]; exact ⟨hj, hm⟩⟩
theorem upd_ne {m : Nat → Nat} {j a : Nat} (h : m a ≠ 0) : Ta.upd m j 1 a ≠ 0 := by
  unfold Ta.upd
  split
  · omega
  · exact h
theorem upd_or {m : Nat → Nat} {j a : Nat} (h : Ta.upd m j 1 a ≠ 0) : a = j ∨ m a ≠ 0 := by
  unfold Ta.upd at h
  split at h
  · exact .inl ‹_›
  · exact .inr h
theorem MJ.push {adj : Nat → List Nat} {n f t k j : Nat} {ds : List Nat} {m : Nat → Nat} {ws : List Nat} (h : MJ adj n f t k ds m ws) (hj : j ≠ t) (hn : j < n) (ha : j ∈ adj k) : MJ adj n f t k (ds ++ [j]) (Ta.upd m j 1) (ws ++ [j]) := by
  have hmet : Met adj f j := by
    rcases h.ko with rfl | hk
    · exact ⟨j, ha, .refl j⟩
    · obtain ⟨_, b, hb, hr⟩ := h.from_ k hk
      exact ⟨b, hb, rch_snoc hr ha⟩
  refine ⟨h.kn, h.ko.imp id upd_ne, fun a hm => ?_, fun a hm => ?_, fun a hm => ?_, fun a hm hw hk b hb => ?_, fun a hm => ?_⟩
  · rcases List.mem_append.1 hm with hm | hm
    · exact h.lt a hm
    · rw [List.mem_singleton.1 hm]; exact hn
  · rcases upd_or hm with rfl | hm
    · exact ⟨hn, hmet⟩
    · exact h.from_ a hm
  · rcases List.mem_append.1 hm with hm | hm
    · exact (h.work a hm).imp id upd_ne
    · rw [List.mem_singleton.1 hm]; exact .inr (by simp [Ta.upd])
  · have hw2 : a ∉ ws := fun h => hw (List.mem_append_left _ h)
    have haj : a ≠ j := fun e => hw (by rw [e]; simp)
    have hm2 : a = f ∨ m a ≠ 0 := by
      rcases hm with hm | hm
      · exact .inl hm
      · rcases upd_or hm with e | hm
        · exact absurd e haj
        · exact .inr hm
    have := h.shut a hm2 hw2 hk b hb
    exact ⟨this.1, upd_ne this.2⟩
  · rcases List.mem_append.1 hm with hm | hm
    · exact ⟨(h.done a hm).1, upd_ne (h.done a hm).2⟩
    · rw [List.mem_singleton.1 hm]; exact ⟨hj, by simp [Ta.upd]⟩
theorem MJ.out {adj : Nat → List Nat} {n f t k : Nat} {ds : List Nat} {m : Nat → Nat} {ws : List Nat} (h : MJ adj n f t k ds m ws) (hd : ∀ j ∈ adj k, j ∈ ds) : MI adj n f t m ws :=
  ⟨h.lt, h.from_, h.work, fun a ha hn j hj => by
    by_cases hk : a = k
    · subst hk; exact h.done j (hd j hj)
    · exact h.shut a ha hn hk j hj⟩
end Go.Proofs.Ytebbbefknfldoaa

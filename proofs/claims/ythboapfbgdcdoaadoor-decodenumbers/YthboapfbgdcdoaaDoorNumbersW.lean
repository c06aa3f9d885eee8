/- The walk of DecodeNumbers. -/
import Derived.Test.YthboapfbgdcdoaaDoorRng
import Derived.Test.YthboapfbgdcdoaaDoorKnown
import Derived.Deep.RegionWith
import Derived.BigRegionIn
import Derived.Deep.RegionHeld3
import Derived.Deep.CutRange
import Derived.Deep.DeepCutAuto
namespace Go.Proofs.YthboapfbgdcdoaaDoor
open Go.ChangeShapes Go.WideShapes Go.ChangeAt Go.RowKit Go.Shelf
set_option linter.unusedVariables false
set_option maxRecDepth 100000
attribute [local go_sem] Oper.semAt_some

/-- the bytes of the runs, the places, the answers -/
def nbB : Nat → List Int
  | 0 => [16]
  | 1 => [255]
  | 2 => []
  | 3 => []
  | 4 => [51, 0, 0, 16]
  | 5 => [38, 1, 131]
  | _ => [1]
def nbA : Nat → Int
  | 3 => 1
  | 6 => -1
  | _ => 0
def nbE : Nat → Int
  | 0 => 10
  | 1 => 11
  | 2 => 10
  | 3 => 1
  | 4 => 13
  | 5 => 12
  | _ => 1

theorem nb_dec (k : Nat) (hk : k < 7) : decV (nbB k) (nbA k) = .tuple #[instV 0 0 0 0 0, .int .i64 0, .int .i64 (nbE k)] := by
  have : k = 0 ∨ k = 1 ∨ k = 2 ∨ k = 3 ∨ k = 4 ∨ k = 5 ∨ k = 6 := by omega
  rcases this with rfl | rfl | rfl | rfl | rfl | rfl | rfl <;> exact decV_is (by decide +kernel)
theorem nb_jmp : decV [65, 253, 255] 0 = .tuple #[instV 40 0 0 (-3) 2, .int .i64 3, .int .i64 0] := decV_is (by decide +kernel)
theorem nb_bytes (k : Nat) : AreBytes (nbB k) := by
  unfold nbB
  intro z hz
  split at hz <;> simp at hz <;> omega

theorem nb_lies (w : World) (o : Obj) : Lies ((w.alloc o).alloc (.cells #[.int .u8 0, .int .u8 0, .int .u8 255] 5)) (some ⟨w.heap.size + 1, 0, none⟩) [0, 0, 255] := by
  have := lies_new (w.alloc o) [0, 0, 255] (by intro z hz; simp at hz; omega)
  rw [World.size_alloc] at this
  exact this

theorem nb_rest : restL [0, 0, 255] 0 = [0, 0, 255] := by rfl
abbrev nopI : Ins := ⟨1, 0, 0, 0, 0⟩
theorem nb_steps : stepsL [0, 0, 255] 0 = [(0, 1, nopI), (1, 1, nopI)] := by kernel_rfl
theorem nb_at (pre : List StA) (x : StA) (h : (pre ++ [x]) <+: [(0, 1, nopI), (1, 1, nopI)]) : x = ((pre.length : Int), 1, nopI) := by
  obtain ⟨r, hr⟩ := h
  match pre, hr with
  | [], hr => simp at hr; rw [hr.1]; rfl
  | [y], hr => simp at hr; rw [hr.2.1]; rfl
  | y :: z :: pre, hr => simp at hr
theorem CI.drewN {W : World} {b k : Nat} {v : Value} (h : CI W b k v) (n : Nat) : CI (W.drewN n) b k v := ⟨h.cell, h.froz⟩
theorem step_ne_run (x y : StA) (h : x ≠ y) (W : World) : Sem.run Tryd.prog (binOp BinOp.neq 34 (.agg #[.int .i64 x.1, .int .i64 x.2.1, .int .i64 x.2.2.o, .int .i64 x.2.2.a, .int .i64 x.2.2.b, .int .i32 x.2.2.n, .int .i64 x.2.2.f]) (.agg #[.int .i64 y.1, .int .i64 y.2.1, .int .i64 y.2.2.o, .int .i64 y.2.2.a, .int .i64 y.2.2.b, .int .i32 y.2.2.n, .int .i64 y.2.2.f])) W = .ok (.bool true) W := by
  go_simp
  obtain ⟨x1, x2, a, b, c, d, e⟩ := x
  obtain ⟨y1, y2, a', b', c', d', e'⟩ := y
  simp only
  intro h6 h7 h1 h2 h3 h4 h5
  subst h1 h2 h3 h4 h5 h6 h7
  exact h rfl

set_option maxHeartbeats 4000000 in
theorem numbers_law (w : World) (hT : Tab w) : Calls Tryd.prog 3 #[] w fun e w' => e = .returned (.bool true) ∧ Below w.heap.size w w' := by
  have hTH := Hid.intro hT
  clear hT
  refine (callsIn_wide (n := 8)).1 ?_
  refine callsIn_of_wp_marks Tryd.func3 rfl trivial ?_ rfl
  simp only [Tryd.ntmps3, List.size_toArray, List.length_nil, Nat.reduceSub, Array.replicate_succ, Array.replicate_zero, List.push_toArray, List.append_toArray, List.nil_append, List.cons_append]
  gi_wp2
  obtain ⟨W0, hW0⟩ : ∃ W0, (((((((((((w.alloc (.cells #[.bool false] 4)).alloc (.cells #[.int .u8 16] 5)).alloc (.cells #[.int .u8 255] 5)).alloc (.cells #[] 5)).alloc (.cells #[] 5)).alloc (.cells #[.int .u8 51, .int .u8 0, .int .u8 0, .int .u8 16] 5)).alloc (.cells #[.int .u8 38, .int .u8 1, .int .u8 131] 5)).alloc (.cells #[.int .u8 1] 5)).alloc (.cells #[.slice (some ⟨w.heap.size + 1, 0, none⟩) 1 1, .slice (some ⟨w.heap.size + 1 + 1, 0, none⟩) 1 1, .slice (some ⟨w.heap.size + 1 + 1 + 1, 0, none⟩) 0 0, .slice (some ⟨w.heap.size + 1 + 1 + 1 + 1, 0, none⟩) 0 0, .slice (some ⟨w.heap.size + 1 + 1 + 1 + 1 + 1, 0, none⟩) 4 4, .slice (some ⟨w.heap.size + 1 + 1 + 1 + 1 + 1 + 1, 0, none⟩) 3 3, .slice (some ⟨w.heap.size + 1 + 1 + 1 + 1 + 1 + 1 + 1, 0, none⟩) 1 1] 22)).alloc (.cells #[.int .i64 0, .int .i64 0, .int .i64 0, .int .i64 1, .int .i64 0, .int .i64 0, .int .i64 (-1)] 3)).alloc (.cells #[.int .i64 10, .int .i64 11, .int .i64 10, .int .i64 1, .int .i64 13, .int .i64 12, .int .i64 1] 3)) = W0 := ⟨_, rfl⟩
  rw [hW0]
  have hsz : W0.heap.size = w.heap.size + 11 := by rw [← hW0]; simp
  have hb0 : Hid (Below w.heap.size w W0) := by
    rw [← hW0]
    repeat (first | exact below_alloc w _ | refine chain2 ?_ (below_alloc _ _))
  have hr0 : Hid (W0.heap[w.heap.size]? = some (.cells #[.bool false] 4 (0, 0))) := by
    rw [← hW0]
    repeat (first | exact heap_alloc_new w _ | refine alloc_heapN ?_ _)
  have hnew : ∀ (X : World) (o : Obj) (g : Nat), X.heap.size = g → (X.alloc o).heap[g]? = some o := fun X o g h => h ▸ heap_alloc_new X o
  have hby : Hid (∀ k, k < 7 → ∃ b, W0.heap[b]? = some (.cells (cellsOf (nbB k)).toArray 5 (0, 0)) ∧ W0.cell? ⟨w.heap.size + 1 + 1 + 1 + 1 + 1 + 1 + 1 + 1 , k, none⟩ = some (.slice (some ⟨b, 0, none⟩) (nbB k).length (nbB k).length)) := by
    intro k hk
    have hrow : W0.heap[w.heap.size + 1 + 1 + 1 + 1 + 1 + 1 + 1 + 1 ]? = some (.cells #[.slice (some ⟨w.heap.size + 1, 0, none⟩) 1 1, .slice (some ⟨w.heap.size + 1 + 1, 0, none⟩) 1 1, .slice (some ⟨w.heap.size + 1 + 1 + 1, 0, none⟩) 0 0, .slice (some ⟨w.heap.size + 1 + 1 + 1 + 1, 0, none⟩) 0 0, .slice (some ⟨w.heap.size + 1 + 1 + 1 + 1 + 1, 0, none⟩) 4 4, .slice (some ⟨w.heap.size + 1 + 1 + 1 + 1 + 1 + 1, 0, none⟩) 3 3, .slice (some ⟨w.heap.size + 1 + 1 + 1 + 1 + 1 + 1 + 1, 0, none⟩) 1 1] 22 (0, 0)) := by
      rw [← hW0]
      exact alloc_heapN (alloc_heapN (hnew _ _ _ (by simp)) _) _
    have : k = 0 ∨ k = 1 ∨ k = 2 ∨ k = 3 ∨ k = 4 ∨ k = 5 ∨ k = 6 := by omega
    rcases this with rfl | rfl | rfl | rfl | rfl | rfl | rfl
    · exact ⟨w.heap.size + 1, by rw [← hW0]; exact alloc_heapN (alloc_heapN (alloc_heapN (alloc_heapN (alloc_heapN (alloc_heapN (alloc_heapN (alloc_heapN (alloc_heapN (hnew _ _ _ (by simp)) _) _) _) _) _) _) _) _) _, (cell_block hrow 0).trans rfl⟩
    · exact ⟨w.heap.size + 1 + 1, by rw [← hW0]; exact alloc_heapN (alloc_heapN (alloc_heapN (alloc_heapN (alloc_heapN (alloc_heapN (alloc_heapN (alloc_heapN (hnew _ _ _ (by simp)) _) _) _) _) _) _) _) _, (cell_block hrow 1).trans rfl⟩
    · exact ⟨w.heap.size + 1 + 1 + 1, by rw [← hW0]; exact alloc_heapN (alloc_heapN (alloc_heapN (alloc_heapN (alloc_heapN (alloc_heapN (alloc_heapN (hnew _ _ _ (by simp)) _) _) _) _) _) _) _, (cell_block hrow 2).trans rfl⟩
    · exact ⟨w.heap.size + 1 + 1 + 1 + 1, by rw [← hW0]; exact alloc_heapN (alloc_heapN (alloc_heapN (alloc_heapN (alloc_heapN (alloc_heapN (hnew _ _ _ (by simp)) _) _) _) _) _) _, (cell_block hrow 3).trans rfl⟩
    · exact ⟨w.heap.size + 1 + 1 + 1 + 1 + 1, by rw [← hW0]; exact alloc_heapN (alloc_heapN (alloc_heapN (alloc_heapN (alloc_heapN (hnew _ _ _ (by simp)) _) _) _) _) _, (cell_block hrow 4).trans rfl⟩
    · exact ⟨w.heap.size + 1 + 1 + 1 + 1 + 1 + 1, by rw [← hW0]; exact alloc_heapN (alloc_heapN (alloc_heapN (alloc_heapN (hnew _ _ _ (by simp)) _) _) _) _, (cell_block hrow 5).trans rfl⟩
    · exact ⟨w.heap.size + 1 + 1 + 1 + 1 + 1 + 1 + 1, by rw [← hW0]; exact alloc_heapN (alloc_heapN (alloc_heapN (hnew _ _ _ (by simp)) _) _) _, (cell_block hrow 6).trans rfl⟩
  have hat : Hid (∀ k, k < 7 → W0.cell? ⟨w.heap.size + 1 + 1 + 1 + 1 + 1 + 1 + 1 + 1 + 1, k, none⟩ = some (.int .i64 (nbA k))) := by
    intro k hk
    have hrow : W0.heap[w.heap.size + 1 + 1 + 1 + 1 + 1 + 1 + 1 + 1 + 1]? = some (.cells #[.int .i64 0, .int .i64 0, .int .i64 0, .int .i64 1, .int .i64 0, .int .i64 0, .int .i64 (-1)] 3 (0, 0)) := by
      rw [← hW0]
      exact alloc_heapN (hnew _ _ _ (by simp)) _
    have : k = 0 ∨ k = 1 ∨ k = 2 ∨ k = 3 ∨ k = 4 ∨ k = 5 ∨ k = 6 := by omega
    rcases this with rfl | rfl | rfl | rfl | rfl | rfl | rfl <;> exact (cell_block hrow _).trans rfl
  have hwy : Hid (∀ k, k < 7 → W0.cell? ⟨w.heap.size + 1 + 1 + 1 + 1 + 1 + 1 + 1 + 1 + 1 + 1, k, none⟩ = some (.int .i64 (nbE k))) := by
    intro k hk
    have hrow : W0.heap[w.heap.size + 1 + 1 + 1 + 1 + 1 + 1 + 1 + 1 + 1 + 1]? = some (.cells #[.int .i64 10, .int .i64 11, .int .i64 10, .int .i64 1, .int .i64 13, .int .i64 12, .int .i64 1] 3 (0, 0)) := by
      rw [← hW0]
      exact hnew _ _ _ (by simp)
    have : k = 0 ∨ k = 1 ∨ k = 2 ∨ k = 3 ∨ k = 4 ∨ k = 5 ∨ k = 6 := by omega
    rcases this with rfl | rfl | rfl | rfl | rfl | rfl | rfl <;> exact (cell_block hrow _).trans rfl
  clear hW0 hnew
  gi_loopw [4] (fun vi wr => ∃ k : Nat, k ≤ 7 ∧ vi = .int .i64 (k : Int) ∧ Hid (Below W0.heap.size W0 wr)) (fun vi _ => 7 - (intOf vi).toNat)
  case atStart => exact ⟨0, by omega, rfl, Hid.intro (Below.refl _ _)⟩
  case round =>
    obtain ⟨k, hk, rfl, hbr⟩ := hrel
    by_cases hlt : k < 7
    · obtain ⟨b, hbb, hbs⟩ := hby.out k hlt
      have hblt : b < W0.heap.size := (Array.getElem?_eq_some_iff.1 hbb).1
      have hq : Hid (∀ W, Below W0.heap.size W0 W → W.cell? ⟨w.heap.size + 1 + 1 + 1 + 1 + 1 + 1 + 1 + 1 , k, none⟩ = some (.slice (some ⟨b, 0, none⟩) (nbB k).length (nbB k).length) ∧ W.cell? ⟨w.heap.size + 1 + 1 + 1 + 1 + 1 + 1 + 1 + 1 + 1, k, none⟩ = some (.int .i64 (nbA k)) ∧ W.cell? ⟨w.heap.size + 1 + 1 + 1 + 1 + 1 + 1 + 1 + 1 + 1 + 1, k, none⟩ = some (.int .i64 (nbE k))) := fun W hW =>
        ⟨(hW.cell (p := ⟨w.heap.size + 1 + 1 + 1 + 1 + 1 + 1 + 1 + 1 , k, none⟩) (by show w.heap.size + 1 + 1 + 1 + 1 + 1 + 1 + 1 + 1  < _; omega)).trans hbs, (hW.cell (p := ⟨w.heap.size + 1 + 1 + 1 + 1 + 1 + 1 + 1 + 1 + 1, k, none⟩) (by show w.heap.size + 1 + 1 + 1 + 1 + 1 + 1 + 1 + 1 + 1 < _; omega)).trans (hat.out k hlt), (hW.cell (p := ⟨w.heap.size + 1 + 1 + 1 + 1 + 1 + 1 + 1 + 1 + 1 + 1, k, none⟩) (by show w.heap.size + 1 + 1 + 1 + 1 + 1 + 1 + 1 + 1 + 1 + 1 < _; omega)).trans (hwy.out k hlt)⟩
      have hD : Hid (∀ W, Below W0.heap.size W0 W → Calls Tryd.prog 8 #[.slice (some ⟨b, 0, none⟩) (nbB k).length (nbB k).length, .int .i64 (nbA k)] W fun e w' => e = .returned (.tuple #[instV 0 0 0 0 0, .int .i64 0, .int .i64 (nbE k)]) ∧ Below W.heap.size W w') := fun W hW => by
        rw [← nb_dec k hlt]
        refine decode_any _ _ _ (nbB k) (nbA k) W rfl (hTH.out.below (hb0.out.trans (hW.mono (by omega))) hTH.out.size) ?_ (Nat.le_refl _) ?_ ?_
        · refine ⟨nb_bytes k, ?_⟩
          by_cases h0 : nbB k = []
          · exact .inl h0
          · refine .inr ⟨b, 0, rfl, fun i hi => ?_⟩
            rw [Nat.zero_add, (hW.cell (p := ⟨b, i, none⟩) hblt), cell_block hbb i, List.getElem?_toArray]
            exact cellsOf_get _ i hi
        · unfold nbB; split <;> simp
        · unfold nbA; split <;> omega
      obtain ⟨q1, q2, q3⟩ := hq.out wr hbr.out
      clear hbb hbs hblt
      generalize nbB k = NB at *
      generalize nbA k = NA at *
      generalize nbE k = NE at *
      gi_wp2
      have hk0 : (0 : Int) ≤ (k : Int) := by omega
      have hk7 : (k : Int) < 7 := by omega
      have m1 : ¬ (wr.heap.size = w.heap.size + 1 + 1 + 1 + 1 + 1 + 1 + 1 + 1 ) := (by have := hbr.out.size; omega)
      have m2 : ¬ (wr.heap.size = w.heap.size + 1 + 1 + 1 + 1 + 1 + 1 + 1 + 1 + 1) := (by have := hbr.out.size; omega)
      have m3 : ¬ (w.heap.size + 1 + 1 + 1 + 1 + 1 + 1 + 1 + 1  = wr.heap.size) := (by have := hbr.out.size; omega)
      have m4 : ¬ (w.heap.size + 1 + 1 + 1 + 1 + 1 + 1 + 1 + 1 + 1 = wr.heap.size) := (by have := hbr.out.size; omega)
      have q1a := fun o => (hq.out (wr.alloc o) (hbr.out.alloc hbr.out.size o)).1
      have q2a := fun o => (hq.out (wr.alloc o) (hbr.out.alloc hbr.out.size o)).2.1
      have hZ := Hid.intro (zblk_new wr)
      have hcal1 := Hid.intro (hD.out wr.drew hbr.out.drew)
      have hcal2 := Hid.intro (hD.out (wr.alloc (.cells #[.int .i64 0, .int .i64 0, .int .i64 0, .int .i32 0, .int .i64 0] 26)).drew ((hbr.out.alloc hbr.out.size _).drew))
      refine wpIn_wide.2 ?_
      go_cut [5, 6, 7] from 24 to 57 (fun v5 v6 v7 wx => ∃ gx, v5 = .pointer (some ⟨gx, 0, none⟩) ∧ v6 = .int .i64 0 ∧ v7 = .int .i64 NE ∧ InstAt wx gx 0 0 0 0 0 ∧ Below W0.heap.size W0 wx)
      case first =>
        go_region_held3 (fun W => W.cell? ⟨w.heap.size + 1 + 1 + 1 + 1 + 1 + 1 + 1 + 1 , k, none⟩ = some (.slice (some ⟨b, 0, none⟩) NB.length NB.length) ∧ W.cell? ⟨w.heap.size + 1 + 1 + 1 + 1 + 1 + 1 + 1 + 1 + 1, k, none⟩ = some (.int .i64 NA)) (go_keep)
          ((first
          | (go_at_call 8; (with_reducible refine hcal1.out.mono ?_); rintro e w1 ⟨rfl, hb1⟩; have hB1 : Hid (Below W0.heap.size W0 w1) := (hbr.out.drew.trans (hb1.mono hbr.out.size)); have q1' := (hq.out w1 hB1.out).1; have q2' := (hq.out w1 hB1.out).2.1; have n1 : ¬ (w1.heap.size = w.heap.size + 1 + 1 + 1 + 1 + 1 + 1 + 1 + 1 ) := (by have := hB1.out.size; omega); have n2 : ¬ (w1.heap.size = w.heap.size + 1 + 1 + 1 + 1 + 1 + 1 + 1 + 1 + 1) := (by have := hB1.out.size; omega); have n3 : ¬ (w.heap.size + 1 + 1 + 1 + 1 + 1 + 1 + 1 + 1  = w1.heap.size) := (by have := hB1.out.size; omega); have n4 : ¬ (w.heap.size + 1 + 1 + 1 + 1 + 1 + 1 + 1 + 1 + 1 = w1.heap.size) := (by have := hB1.out.size; omega); have hI1 := Hid.intro (inst_new w1 0 0 0 0 0))
          | (go_at_call 8; (with_reducible refine hcal2.out.mono ?_); rintro e w1 ⟨rfl, hb1⟩; have hB1 : Hid (Below W0.heap.size W0 w1) := ((hbr.out.alloc hbr.out.size _).drew.trans (hb1.mono (by have := hbr.out.size; simp; omega))); have q1' := (hq.out w1 hB1.out).1; have q2' := (hq.out w1 hB1.out).2.1; have hz1 := Hid.intro (ZBlk.below (show ZBlk (wr.alloc (.cells #[.int .i64 0, .int .i64 0, .int .i64 0, .int .i32 0, .int .i64 0] 26)).drew wr.heap.size from hZ.out) hb1 (by simp)); obtain ⟨z0, z1, z2, z3, z4, zf⟩ := hz1.out.cells)))
        all_goals go_wp2_with fail
        all_goals go_meet
        · exact ⟨w1.heap.size, rfl, rfl, rfl, inst_new w1 0 0 0 0 0, hB1.out.alloc hB1.out.size _⟩
        · exact ⟨wr.heap.size, rfl, rfl, rfl, hz1.out.set 0 0 0 0 0, below_setInst hB1.out hbr.out.size 0 0 0 0 0⟩
      case rest =>
        obtain ⟨gx, rfl, rfl, rfl, hIx, hBx⟩ := hcut
        have q5 := (hq.out wc hBx).2.2
        obtain ⟨i0, i1, i2, i3, i4, _⟩ := hIx
        have hBH := Hid.intro hBx
        clear hBx q1 q2 q3 q1a q2a m1 m2 m3 m4
        gi_wp2
        go_roundw
        case rel => exact ⟨k + 1, by omega, by go_num, hBH⟩
        case measure => simp [intOf]; omega
    · have e : k = 7 := by omega
      subst e
      clear hby hat hwy hlt
      have hbW : Hid (Below w.heap.size w wr) := hb0.out.trans (hbr.out.mono (by omega))
      have hres : Hid (CI wr w.heap.size 0 (.bool false)) := (ci_of hr0.out rfl).below hbr.out (by omega)
      have hzr : w.heap.size < wr.heap.size := by have := hbr.out.size; omega
      have hTr := Hid.intro (hTH.out.below hbW.out hTH.out.size)
      have hP1 : Hid (Calls Tryd.prog 8 #[.slice (some ⟨wr.heap.size, 0, none⟩) 3 3, .int .i64 0] (wr.alloc (.cells #[.int .u8 65, .int .u8 253, .int .u8 255] 5)) fun e w' => e = .returned (.tuple #[instV 40 0 0 (-3) 2, .int .i64 3, .int .i64 0]) ∧ Below wr.heap.size wr w') := decode_lit [65, 253, 255] 3 rfl (by intro z hz; simp at hz; omega) wr hTr.out 0 (by omega) (by omega) _ nb_jmp
      have hse := seq_some
      clear hb0 hr0 hbr hsz
      gi_wp2_with (first
        | (refine ⟨trivial, ?_⟩; gi_at_call 8; (with_reducible refine (callsIn_wide.2 hP1.out).mono ?_); clear hP1; rintro e w1 ⟨rfl, hb1⟩; replace hb1 := Hid.intro hb1)
        | (refine ⟨trivial, ?_⟩; gi_at_call 9; refine (callsIn_wide.2 (dall_any _ 3 3 [0, 0, 255] 0 _ rfl (nb_lies w1 _) (by omega) (by omega) (by omega))).mono ?_; rintro e w3 ⟨gr, ga, rfl, ⟨aR, mR, cR', hSq⟩, hgr, hga, hb3⟩; replace hSq := Hid.intro hSq; replace hb3 := Hid.intro hb3))
      rw [nb_rest] at hSq
      obtain ⟨Wl, hWl⟩ : ∃ Wl, (w3.alloc (.cells #[.int .i64 0] 3)) = Wl := ⟨_, rfl⟩
      rw [hWl]
      have hsl : Wl.heap.size = w3.heap.size + 1 := by rw [← hWl]; simp
      have hbl : Below w3.heap.size w3 Wl := by rw [← hWl]; exact below_alloc w3 _
      have cK : CI Wl w3.heap.size 0 (.int .i64 0) := by
        rw [← hWl]
        exact ci_of (heap_alloc_new w3 _) rfl
      have hs1 := hb1.out.size
      have hs3 := hb3.out.size
      simp at hs3
      have hjb : Wl.heap[w1.heap.size]? = some (.cells #[.int .i64 40, .int .i64 0, .int .i64 0, .int .i32 (-3), .int .i64 2] 26) := (hbl.block w1.heap.size (by omega)).trans ((hb3.out.block w1.heap.size (by simp; omega)).trans (alloc_heapN (heap_alloc_new w1 _) _))
      have j0 : CI Wl w1.heap.size 0 (.int .i64 40) := ci_of hjb rfl
      have j1 : CI Wl w1.heap.size 1 (.int .i64 0) := ci_of hjb rfl
      have j2 : CI Wl w1.heap.size 2 (.int .i64 0) := ci_of hjb rfl
      have j3 : CI Wl w1.heap.size 3 (.int .i32 (-3)) := ci_of hjb rfl
      have j4 : CI Wl w1.heap.size 4 (.int .i64 2) := ci_of hjb rfl
      have hB2 : Below wr.heap.size wr ((w1.alloc (.cells #[.int .i64 40, .int .i64 0, .int .i64 0, .int .i32 (-3), .int .i64 2] 26)).alloc (.cells #[.int .u8 0, .int .u8 0, .int .u8 255] 5)) := chain2 (chain2 hb1.out (below_alloc w1 _)) (below_alloc _ _)
      have cR : CI Wl w.heap.size 0 (.bool false) := (((hres.out.below hB2 hzr).below hb3.out (by simp; omega)).below hbl (by omega))
      have hBl : Below w.heap.size w Wl := chain2 (chain2 (chain2 hbW.out hB2) hb3.out) hbl
      have hSl : SeqAt Wl ((w1.alloc (.cells #[.int .i64 40, .int .i64 0, .int .i64 0, .int .i32 (-3), .int .i64 2] 26)).alloc (.cells #[.int .u8 0, .int .u8 0, .int .u8 255] 5)).heap.size gr ga 0 [0, 0, 255] aR mR cR' := ⟨(hbl.cell (p := ⟨gr, 0, none⟩) hgr).trans hSq.out.hr, (hbl.cell (p := ⟨ga, 0, none⟩) hga).trans hSq.out.ha, hSq.out.hs.below hbl⟩
      have hstep := all_stops 7 (by decide) w3.heap.size _ gr ga 0 [0, 0, 255] aR mR cR' Wl (hTH.out.below hBl hTH.out.size) hSl hgr hga (fun b off h => by
        have hl := hSq.out.hs.got
        exact (World.ownsRow.lt hl b (by rw [h]; rfl)).2) (by have := hTr.out.size; omega) (by omega) (by rw [hSl.hs.len]; simp) (fun _ => by omega)
      rw [nb_steps] at hstep
      clear hWl
      refine range_boxed 13 (by decide) rfl hstep (by omega) (Below.refl _ _) rfl
        (fun pre W => (CI W w3.heap.size 0 (.int .i64 (pre.length : Int)) ∧ CI W w.heap.size 0 (.bool false) ∧ CI W w1.heap.size 0 (.int .i64 40) ∧ CI W w1.heap.size 1 (.int .i64 0) ∧ CI W w1.heap.size 2 (.int .i64 0) ∧ CI W w1.heap.size 3 (.int .i32 (-3)) ∧ CI W w1.heap.size 4 (.int .i64 2)) ∧ Below w.heap.size w W ∧ Wl.heap.size ≤ W.heap.size)
        (fun c' pre W => c' = .ret ∧ ¬ (pre <+: [(0, 1, nopI), (1, 1, nopI)]))
        (fun s A B row hs hg hr => ⟨⟨hs.1.1.kept hg (fun r e => (hr r e).2), hs.1.2.1.kept hg (fun r e => (hr r e).2), hs.1.2.2.1.kept hg (fun r e => (hr r e).2), hs.1.2.2.2.1.kept hg (fun r e => (hr r e).2), hs.1.2.2.2.2.1.kept hg (fun r e => (hr r e).2), hs.1.2.2.2.2.2.1.kept hg (fun r e => (hr r e).2), hs.1.2.2.2.2.2.2.kept hg (fun r e => (hr r e).2)⟩, hs.2.1.grown hg hs.2.1.size (fun k e => Nat.le_trans hBl.size (hr k e).1), Nat.le_trans hs.2.2 hg.size⟩)
        (fun c' s A B row hs hg hr => hs)
        ⟨⟨cK, cR, j0, j1, j2, j3, j4⟩, hBl, Nat.le_refl _⟩ ?assign (fun pre W h => h.2.2) ?body ?done ?stop
      case assign =>
        intro l pre x W K hi hsz hK
        gi_wp2
        refine (congrArg (fun t => K t _) ?_).mp (hK W.heap.size _ hsz (keeps_alloc _ _ _) ((Below.refl _ W).alloc (by omega) _) ⟨⟨hi.1.1.alloc _, hi.1.2.1.alloc _, hi.1.2.2.1.alloc _, hi.1.2.2.2.1.alloc _, hi.1.2.2.2.2.1.alloc _, hi.1.2.2.2.2.2.1.alloc _, hi.1.2.2.2.2.2.2.alloc _⟩, hi.2.1.alloc hi.2.1.size _, by have := hi.2.2; simp; omega⟩ (stepAt_new W x))
        simp [roundAct]
      case body =>
        rintro l pre x gx W hgx ⟨⟨hK, hR, h0, h1, h2, h3, h4⟩, hB, hsz⟩ hst hlen
        have hKH := Hid.intro hK
        have hRH := Hid.intro hR
        have h0H := Hid.intro h0
        have h1H := Hid.intro h1
        have h2H := Hid.intro h2
        have h3H := Hid.intro h3
        have h4H := Hid.intro h4
        have hBH := Hid.intro hB
        have hszH := Hid.intro hsz
        obtain ⟨k1, k2⟩ := hK
        obtain ⟨r1, r2⟩ := hR
        obtain ⟨s0, s1, s2, s3, s4, s5, s6⟩ := hst.cells
        have hp2 : (pre.length : Int) < 2 := by simp at hlen; omega
        clear h0 h1 h2 h3 h4 hB hsz hst hlen
        simp only [roundAct, List.zip_toArray, List.zip_cons_cons, List.zip_nil_right, List.size_toArray, List.length_cons, List.length_nil, Nat.zero_add, List.foldl_toArray', List.foldl_cons, List.setIfInBounds_toArray, List.set_cons_succ, List.set_cons_zero, List.foldl_nil]
        by_cases hx : x = ((pre.length : Int), 1, nopI)
        · subst hx
          simp only at s0 s1 s2 s3 s4 s5 s6
          gi_wp2
          refine ⟨keeps_set _ _ _ _, (Below.refl _ W).setCell (p := ⟨w3.heap.size, 0, none⟩) (Nat.le_refl _) _, ⟨⟨?_, hRH.out.other (by omega), h0H.out.other (by omega), h1H.out.other (by omega), h2H.out.other (by omega), h3H.out.other (by omega), h4H.out.other (by omega)⟩, hBH.out.setCell (p := ⟨w3.heap.size, 0, none⟩) (by show w.heap.size ≤ w3.heap.size; omega) _, by have := hszH.out; simpa using this⟩⟩
          have := hKH.out.set (.int .i64 ((pre.length : Int) + 1))
          simpa using this
        · have hxr := step_ne_run x ((pre.length : Int), 1, nopI) hx
          have hxH := Hid.intro hx
          simp only at hxr
          clear hx
          gi_wp2
          refine ⟨keeps_set _ _ _ _, rfl, fun h => hxH.out (nb_at pre x h)⟩
      case done =>
        rintro D xs' W hD rfl ⟨⟨hK, hR, h0, h1, h2, h3, h4⟩, hB, hsz⟩ hDf
        have hDl : D < W.heap.size := (Array.getElem?_eq_some_iff.1 hDf).1
        have hDr : w.heap.size + 1 < D := by omega
        obtain ⟨k1, k2⟩ := hK
        obtain ⟨a0, b0⟩ := h0
        obtain ⟨a1, b1⟩ := h1
        obtain ⟨a2, b2⟩ := h2
        obtain ⟨a3, b3⟩ := h3
        obtain ⟨a4, b4⟩ := h4
        simp only [List.length_cons, List.length_nil] at k1
        have h2H := Hid.intro hR
        have hBH := Hid.intro hB
        have hDH := Hid.intro hDf
        have hTW := Hid.intro (hTH.out.below hB hTH.out.size)
        clear hR hB hDf
        gi_wp2_with (refine ⟨trivial, ?_⟩; gi_at_call 10; refine (callsIn_wide.2 (known_any _ hTW.out)).mono ?_; rintro e w6 ⟨rfl, hb6⟩; obtain ⟨r61, r62⟩ := h2H.out.below hb6 h2H.out.lt; replace hb6 := Hid.intro hb6)
        have hK6 : w6.heap[D]? = some (.deferred (some [])) := (hb6.out.block D hDl).trans hDH.out
        have hK' := (KeepsOthers.setCell w6 ⟨w.heap.size, 0, none⟩ (.bool true)).same D _ hK6 rfl
        have hBf : Below w.heap.size w (w6.setCell ⟨w.heap.size, 0, none⟩ (.bool true)) := (chain2 hBH.out hb6.out).setCell (p := ⟨w.heap.size, 0, none⟩) (Nat.le_refl _) _
        refine ⟨by simp, .inl ⟨_, _, rfl, run_takeDeferred hK', ?_⟩⟩
        have hc5 := cell_kept (World.cell?_setCell_same' w6 ⟨w.heap.size, 0, none⟩ (.bool true) (by rw [r61]; rfl)) (grownBy_putObj' _ D (.deferred none)) (fun r e => by cases e; exact ⟨_, hK', rfl⟩)
        refine ⟨.bool true, ?_, rfl, hBf.trans (belowK_b (w := w) (Nat.le_refl _) _ D _ _ (by omega) hK' rfl rfl)⟩
        simp [results, Tryd.results3, go_sem, hc5]
      case stop =>
        rintro D c' pre W hD hpre ⟨rfl, hno⟩ hK
        exact absurd hpre hno
end Go.Proofs.YthboapfbgdcdoaaDoor

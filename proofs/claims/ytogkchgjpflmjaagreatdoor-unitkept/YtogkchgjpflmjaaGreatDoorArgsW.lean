/- line.arguments: the walk. -/
import Derived.Test.YtogkchgjpflmjaaGreatDoorNum
import Derived.Test.YtogkchgjpflmjaaGreatDoorShelf
import Derived.Shelf.Sort.Plain
import Derived.Shelf.Slices.In.SortNone
import Derived.Shelf.Slices.CompactS
import Derived.Sort.OwnSorted
import Derived.Lib.OwnBridge
import Derived.Test.YtogkchgjpflmjaaGreatDoorUnk
import Derived.Test.YtogkchgjpflmjaaGreatDoorArgsO
/- Texts sorted, and each of them once: the library's, at lists that are owned. -/
namespace Go.Proofs.YtogkchgjpflmjaaGreatDoor
open Go.ChangeShapes Go.WideShapes Go.ChangeAt Go.RowKit Go.Sort
set_option linter.unusedVariables false
set_option maxRecDepth 100000
def sortS (ss : List (List UInt8)) : List (List UInt8) := ss.mergeSort fun x y => decide (x ≤ y)
theorem sortS_len (ss : List (List UInt8)) : (sortS ss).length = ss.length := List.length_mergeSort ss
theorem sortS_any (v : Value) (ss : List (List UInt8)) (B : Nat) (w : World) (hl : ss.length ≤ 9000000) (hown : w.ownsRow B 9 1 v ss.length (ss.map encStr)) :
    Calls Tryz.prog 74 #[v] w fun e w' => e = .returned (.tuple #[]) ∧ w'.ownsRow B 9 1 v ss.length ((sortS ss).map encStr) ∧ w.grownBy w' v.ownBlock := by
  rcases hown.2 with ⟨rfl, h0⟩ | ⟨g, cap, cur, rfl, hbase, hb, h1, h2, h3, h4⟩
  · have he : ss = [] := List.eq_nil_of_length_eq_zero h0
    subst he
    refine (Any.slices_Sort_string_none Tryz.laysStrSort none 0 w).mono ?_
    rintro e w' ⟨rfl, rfl⟩
    exact ⟨rfl, by simpa [sortS] using World.ownsRow_nil _ B 9 1, World.grownBy.refl _ _⟩
  · have hv : (Value.slice (some ⟨g, 0, none⟩) ss.length cap) ≠ .slice none 0 0 := by simp
    obtain ⟨g', cap', e1, _, hlt, _, _, _, hH⟩ := Lib.holds_of_ownsRow hown hv
    injection e1 with e1 _ e3
    injection e1 with e1
    injection e1 with e1
    subst e1 e3
    refine (Any.slices_Sort_string Tryz.laysStrSort g 0 cap ss w hH hlt (by omega)).mono ?_
    rintro e w' ⟨rfl, n, os, rfl⟩
    exact ⟨rfl, ownsRow_sorted (sortS_len ss) hbase hb h1 h2 h3, grownBy_sorted _⟩
theorem grownBy_putRow {w : World} {g q : Nat} {d : Array (List UInt8)} : w.grownBy (putRow encStr (Sort.ahead w q) g 0 d) (some g) := by
  refine ⟨rfl, rfl, rfl, by simp [putRow, mapBlock, Sort.ahead], fun k hk hne => ?_⟩
  have : g ≠ k := fun e => hne (by rw [e])
  simp [putRow, mapBlock, Sort.ahead, Array.getElem?_modify, this]
theorem compactS_any (v : Value) (ss : List (List UInt8)) (B : Nat) (w : World) (hl : ss.length ≤ 9000000) (hown : w.ownsRow B 9 1 v ss.length (ss.map encStr)) :
    Calls Tryz.prog 75 #[v] w fun e w' => ∃ v', e = .returned v' ∧ w'.ownsRow B 9 1 v' (Lib.compact ss).length ((Lib.compact ss).map encStr) ∧ v'.ownBlock = v.ownBlock ∧ w.grownBy w' v.ownBlock := by
  rcases hown.2 with ⟨rfl, h0⟩ | ⟨g, cap, cur, rfl, hbase, hb, h1, h2, h3, h4⟩
  · have he : ss = [] := List.eq_nil_of_length_eq_zero h0
    subst he
    refine (Any.slices_Compact_string_empty Tryz.laysCompact none 0 w).mono ?_
    rintro e w' ⟨rfl, rfl⟩
    exact ⟨_, rfl, World.ownsRow_nil _ B 9 1, rfl, World.grownBy.refl _ _⟩
  · have hv : (Value.slice (some ⟨g, 0, none⟩) ss.length cap) ≠ .slice none 0 0 := by simp
    obtain ⟨g', cap', e1, _, hlt, _, _, _, hH⟩ := Lib.holds_of_ownsRow hown hv
    injection e1 with e1 _ e3
    injection e1 with e1
    injection e1 with e1
    subst e1 e3
    have hle := Lib.compact_length_le ss
    refine (Any.slices_Compact_string Tryz.laysCompact g 0 cap ss w hH (by omega) h1).mono ?_
    rintro e w' ⟨rfl, q, rfl⟩
    have hc := Lib.ownsRow_putRow (q := q) (k := (Lib.compact ss).length) (ys := Lib.compact ss ++ List.replicate (ss.length - (Lib.compact ss).length) []) hown (by simp; omega) hle
    rw [List.take_left] at hc
    exact ⟨_, rfl, hc, rfl, grownBy_putRow⟩
end Go.Proofs.YtogkchgjpflmjaaGreatDoor
/- unit's whole: the unit, when all lines are taken. -/
namespace Go.Proofs.YtogkchgjpflmjaaGreatDoor
open Go.ChangeShapes Go.WideShapes Go.ChangeAt Go.RowKit Go.Sort
set_option linter.unusedVariables false
set_option maxRecDepth 100000
theorem info9 : (Tryz.prog.info? 9).map (fun i => (i.zero, i.size, i.bytes)) = some (some (.string ⟨#[]⟩), 1, 16) := by kernel_rfl
variable {lo b m N : Nat} {w : World} {A : Asm} {pt pd : List (Itm × Value)} {pe : List ((List UInt8 × Lin) × Value)} {tv dv ev av : Value}
def globF (A : Asm) : List (List UInt8) := Lib.compact (sortS (A.asked.map (·.1)))
abbrev unit4 (a b c d : Value) : Array Value := #[a, b, c, d]
structure WhS (w : World) (tv dv ev gv : Value) (ns : List (List UInt8)) (wr : World) : Prop where
  bel : Below w.heap.size w wr
  res : wr.heap[w.heap.size]? = some (.cells (unit4 (.slice none 0 0) (.slice none 0 0) (.slice none 0 0) (.slice none 0 0)) 26 (0, 0))
  var : wr.heap[w.heap.size + 1]? = some (.cells (unit4 tv dv ev gv) 26 (0, 0))
  own : wr.ownsRow (w.heap.size + 2) 9 1 gv ns.length (ns.map encStr)
theorem WhS.below {gv : Value} {ns : List (List UInt8)} {wr w' : World} (h : WhS w tv dv ev gv ns wr) (hb : Below wr.heap.size wr w') : WhS w tv dv ev gv ns w' := by
  have h1 := blk_lt h.res
  have h2 := blk_lt h.var
  exact ⟨h.bel.trans (hb.mono h.bel.size), by rw [hb.block _ h1]; exact h.res, by rw [hb.block _ h2]; exact h.var, own_keptB h.own hb⟩
theorem WhS.put {gv gv' : Value} {ns ns' : List (List UInt8)} {wr w1 : World} (h : WhS w tv dv ev gv ns wr) (hg : wr.grownBy w1 gv.ownBlock) (ho : w1.ownsRow (w.heap.size + 2) 9 1 gv' ns'.length (ns'.map encStr)) :
    w1.heap[w.heap.size + 1]? = some (.cells (unit4 tv dv ev gv) 26 (0, 0)) ∧ WhS w tv dv ev gv' ns' (w1.setCell ⟨w.heap.size + 1, 3, none⟩ gv') := by
  have h1 := blk_lt h.res
  have h2 := blk_lt h.var
  have e1 : w1.heap[w.heap.size]? = some (.cells (unit4 (.slice none 0 0) (.slice none 0 0) (.slice none 0 0) (.slice none 0 0)) 26 (0, 0)) := by
    rw [hg.block _ h1 (fun e => blk_other h.own h.res (by decide) e.symm)]; exact h.res
  have e2 : w1.heap[w.heap.size + 1]? = some (.cells (unit4 tv dv ev gv) 26 (0, 0)) := by
    rw [hg.block _ h2 (fun e => blk_other h.own h.var (by decide) e.symm)]; exact h.var
  obtain ⟨s1, s2⟩ := row_set e2 3 gv'
  have hsz := hg.size
  have hbs := h.bel.size
  refine ⟨e2, ⟨?_, ?_, s1, ho.kept s2 (.inr (blk_other ho e2 (by decide)))⟩⟩
  · have hB1 : Below w.heap.size w w1 := h.bel.grown hg (by omega) (fun j hj => by have := (h.own.lt _ hj).1; omega)
    exact hB1.grown s2 (by omega) (fun j hj => by cases hj; omega)
  · rw [s2.block _ (blk_lt e1) (by simp)]; exact e1
theorem WhS.turned {gv : Value} {ns ns' : List (List UInt8)} {wr w1 : World} (h : WhS w tv dv ev gv ns wr) (hg : wr.grownBy w1 gv.ownBlock) (ho : w1.ownsRow (w.heap.size + 2) 9 1 gv ns'.length (ns'.map encStr)) : WhS w tv dv ev gv ns' w1 := by
  have h1 := blk_lt h.res
  have h2 := blk_lt h.var
  have hbs := h.bel.size
  exact ⟨h.bel.grown hg (by omega) (fun j hj => by have := (h.own.lt _ hj).1; omega), by rw [hg.block _ h1 (fun e => blk_other h.own h.res (by decide) e.symm)]; exact h.res, by rw [hg.block _ h2 (fun e => blk_other h.own h.var (by decide) e.symm)]; exact h.var, ho⟩
theorem four_set {w : World} {g : Nat} {c0 c1 c2 c3 : Value} {T : TypeId} (h : w.heap[g]? = some (.cells #[c0, c1, c2, c3] T (0, 0))) (v0 v1 v2 v3 : Value) :
    ((((w.setCell ⟨g, 0, none⟩ v0).setCell ⟨g, 1, none⟩ v1).setCell ⟨g, 2, none⟩ v2).setCell ⟨g, 3, none⟩ v3).heap[g]? = some (.cells #[v0, v1, v2, v3] T (0, 0)) ∧ w.grownBy ((((w.setCell ⟨g, 0, none⟩ v0).setCell ⟨g, 1, none⟩ v1).setCell ⟨g, 2, none⟩ v2).setCell ⟨g, 3, none⟩ v3) (some g) := by
  obtain ⟨a0, b0⟩ := row_set h 0 v0
  obtain ⟨a1, b1⟩ := row_set a0 1 v1
  obtain ⟨a2, b2⟩ := row_set a1 2 v2
  obtain ⟨a3, b3⟩ := row_set a2 3 v3
  refine ⟨?_, grown_trans (grown_trans (grown_trans b0 b1) b2) b3⟩
  rw [a3]
  rfl
theorem four_read {T : TypeId} {w : World} {g : Nat} {v0 v1 v2 v3 : Value} (h : w.heap[g]? = some (.cells #[v0, v1, v2, v3] T (0, 0))) : w.cell? ⟨g, 0, none⟩ = some v0 ∧ w.cell? ⟨g, 1, none⟩ = some v1 ∧ w.cell? ⟨g, 2, none⟩ = some v2 ∧ w.cell? ⟨g, 3, none⟩ = some v3 :=
  ⟨(cell_blockT h 0).trans rfl, (cell_blockT h 1).trans rfl, (cell_blockT h 2).trans rfl, (cell_blockT h 3).trans rfl⟩
set_option maxHeartbeats 4000000 in
theorem whole_any (h : AsmAt lo w b m N A pt pd pe tv dv ev av) (hfa : A.asked.length ≤ 1100000) :
    Calls Tryz.prog 37 #[.pointer (some ⟨b, 0, none⟩)] w fun e w' => Below w.heap.size w w' ∧ ∃ gv, e = .returned (.agg (unit4 tv dv ev gv)) ∧ w'.ownsRow w.heap.size 9 1 gv (globF A).length ((globF A).map encStr) := by
  obtain ⟨ta, tc, da, dc, ea, ec, aa, ac, rfl, rfl, rfl, rfl⟩ := h.vals
  have hA := h.below (below_alloc w (.cells (unit4 (.slice none 0 0) (.slice none 0 0) (.slice none 0 0) (.slice none 0 0)) 26))
  have hc := hA.cell
  have c0 := (hc 0).trans rfl
  have c1 := (hc 1).trans rfl
  have c2 := (hc 2).trans rfl
  have c3 := (hc 3).trans rfl
  clear hc
  have hs1 : (w.alloc (.cells (unit4 (.slice none 0 0) (.slice none 0 0) (.slice none 0 0) (.slice none 0 0)) 26)).heap.size = w.heap.size + 1 := by simp
  generalize hW1 : w.alloc (.cells (unit4 (.slice none 0 0) (.slice none 0 0) (.slice none 0 0) (.slice none 0 0)) 26) = w1 at *
  have hA2 := hA.below (below_alloc w1 (.cells (unit4 (.slice ta pt.length tc) (.slice da pd.length dc) (.slice ea pe.length ec) (.slice none 0 0)) 26))
  have c6 := (hA2.cell 6).trans rfl
  have hS0 : Hid (WhS w (.slice ta pt.length tc) (.slice da pd.length dc) (.slice ea pe.length ec) (.slice none 0 0) [] (w1.alloc (.cells (unit4 (.slice ta pt.length tc) (.slice da pd.length dc) (.slice ea pe.length ec) (.slice none 0 0)) 26))) := by
    have hb1 : Below w.heap.size w w1 := by rw [← hW1]; exact below_alloc w _
    refine ⟨hb1.alloc (by omega) _, ?_, ?_, World.ownsRow_nil _ _ _ _⟩
    · rw [Below.heap_alloc _ _ _ (by omega), ← hW1]; exact heap_alloc_new w _
    · rw [← hs1]; exact heap_alloc_new w1 _
  have hH := Hid.intro h
  clear h hA hA2
  obtain ⟨n0, hn0⟩ : ∃ n0, n0 = A.asked.length := ⟨_, rfl⟩
  rw [← hn0] at hfa c6
  replace hn0 := Hid.intro hn0
  obtain ⟨i0, hi9, hz0, hz1, hz2⟩ := info_parts info9
  go_enter Tryz.func37, Tryz.ntmps37
  go_wp2
  all_goals first | omega | skip
  clear c0 c1 c2 c3 c6
  go_loopw [15] (fun v15 wr => ∃ (i : Nat) (ga : Option Addr) (gc : Nat), i ≤ n0 ∧ v15 = .int .i64 (i : Int) ∧ Hid (WhS w (.slice ta pt.length tc) (.slice da pd.length dc) (.slice ea pe.length ec) (.slice ga i gc) ((A.asked.take i).map (·.1)) wr)) (fun v15 wr => n0 - (intOf v15).toNat)
  case atStart => exact ⟨0, none, 0, by omega, rfl, hS0⟩
  case round =>
    clear hS0
    obtain ⟨i, ga, gc, hi, rfl, hS⟩ := hrel
    by_cases hlt : i < n0
    · obtain ⟨q, hq⟩ : ∃ q, A.asked[i]? = some q := ⟨A.asked[i]'(by rw [← hn0.out]; exact hlt), List.getElem?_eq_getElem _⟩
      have hA := hH.out.below hS.out.bel
      obtain ⟨G, c, hv, hG, k0, k1⟩ := hA.ask hq
      injection hv with hv _ hv3
      subst hv hv3
      have hlt2 : (i : Int) < (n0 : Int) := by omega
      have hlen : ((A.asked.take i).map (·.1)).length = i := by rw [List.length_map, List.length_take, ← hn0.out]; omega
      have hnext : (A.asked.take (i + 1)).map (·.1) = (A.asked.take i).map (·.1) ++ [q.1] := by rw [List.take_add_one, hq]; simp
      have hS1 := hS.out.below (below_alloc wr (.cells #[.string (str q.1), .int .i64 (q.2 : Int)] 144))
      have hbx := (cell_blockT (heap_alloc_new wr (.cells #[.string (str q.1), .int .i64 (q.2 : Int)] 144)) 0).trans rfl
      generalize hwa : wr.alloc (.cells #[.string (str q.1), .int .i64 (q.2 : Int)] 144) = wa at *
      have v3 := (cell_blockT hS1.var 3).trans rfl
      have hS2 := hS1.below (below_alloc wa (.cells #[.string (str q.1)] 9))
      have hown : Hid ((wa.alloc (.cells #[.string (str q.1)] 9)).ownsRow (w.heap.size + 2) 9 1 (.slice ga i gc) i (((A.asked.take i).map (·.1)).map encStr)) := by
        have := hS2.own
        rw [hlen] at this
        exact this
      have hws : wa.heap.size = wr.heap.size + 1 := by rw [← hwa]; simp
      have hsrc : Hid (Src (wa.alloc (.cells #[.string (str q.1)] 9)) (.slice (some ⟨wr.heap.size + 1, 0, none⟩) 1 1) 1 [encStr q.1]) := by
        rw [← hws]
        exact .inr ⟨_, _, rfl, cells_new wa #[.string (str q.1)] 9⟩
      have hfin : Hid (∀ v' w3, w3.ownsRow (w.heap.size + 2) 9 1 v' (i + 1) (((A.asked.take i).map (·.1)).map encStr ++ [encStr q.1]) → (wa.alloc (.cells #[.string (str q.1)] 9)).grownBy w3 (Value.slice ga i gc).ownBlock → w3.cell? ⟨w.heap.size + 1, 3, none⟩ = some (.slice ga i gc) ∧ w3.frozen? ⟨w.heap.size + 1, 3, none⟩ = false ∧ WhS w (.slice ta pt.length tc) (.slice da pd.length dc) (.slice ea pe.length ec) v' ((A.asked.take (i + 1)).map (·.1)) (w3.setCell ⟨w.heap.size + 1, 3, none⟩ v')) := fun v' w3 g1 g2 => by
        obtain ⟨e1, e2⟩ := hS2.put (ns' := (A.asked.take (i + 1)).map (·.1)) g2 (by rw [hnext, List.length_append, hlen, List.map_append]; exact g1)
        exact ⟨(cell_blockT e1 3).trans rfl, frozen_of_row w3 _ 3 _ 26 e1, e2⟩
      have hbase : w.heap.size + 2 ≤ (wa.alloc (.cells #[.string (str q.1)] 9)).heap.size := by
        have := blk_lt hS2.var
        have := (below_alloc wa (.cells #[.string (str q.1)] 9)).size
        have h3 : (wa.alloc (.cells #[.string (str q.1)] 9)).heap.size = wa.heap.size + 1 := by simp
        have := blk_lt hS1.var
        omega
      have hil : i ≤ 1100000 := by omega
      clear hS1 hS2 hnext hlen hws
      replace hA := Hid.intro hA
      subst hwa
      go_wp2_with (at_builtin; go_must (refine wpList_app rfl (.tmp 20) (.tmp 23) 24 rfl (w.heap.size + 2) 9 i0 _ 1 16 Tryz.underlying24 hi9 hz0 hz1 hz2 rfl (by decide) (.slice ga i gc) i _ rfl hown.out (.slice (some ⟨_, 0, none⟩) 1 1) 1 [encStr q.1] rfl hsrc.out rfl (by simp [Value.oneCell', encStr]) (by unfold maxLen; omega) (by omega) hbase ?_; intro v' w3 ho hg hw; obtain ⟨z0, z1, z2⟩ := hfin.out v' w3 ho hg; replace z2 := Hid.intro z2; obtain ⟨a', c', rfl⟩ := own_slice ho; clear ho hg hw))
      all_goals first | omega | skip
      go_roundw
      case rel => exact ⟨i + 1, a', c', by omega, by go_num, z2⟩
      case measure => simp [intOf]; omega
    · obtain rfl : i = n0 := by omega
      have hlt3 : ¬ ((i : Int) < (i : Int)) := by omega
      have hns : (A.asked.take i).map (·.1) = A.asked.map (·.1) := by rw [hn0.out, List.take_length]
      have hlen : (A.asked.map (·.1)).length = i := by rw [List.length_map, hn0.out]
      rw [hns] at hS
      obtain ⟨_, _, _, v3⟩ := four_read hS.out.var
      have hsort := Hid.intro (sortS_any (.slice ga i gc) (A.asked.map (·.1)) (w.heap.size + 2) wr (by omega) hS.out.own)
      have hsl := sortS_len (A.asked.map (·.1))
      have hcomp := Hid.intro (fun w3 ho => compactS_any (.slice ga i gc) (sortS (A.asked.map (·.1))) (w.heap.size + 2) w3 (by omega) ho)
      have hslH := Hid.intro hsl
      clear hns hlen hsl
      go_wp2_with (first
        | (go_at_call 74; (with_reducible refine (hsort.out).mono ?_); rintro e w3 ⟨rfl, ho3, hg3⟩; rw [← hslH.out] at ho3; have hS3 := Hid.intro (hS.out.turned hg3 ho3); obtain ⟨_, _, _, u3⟩ := four_read hS3.out.var; replace ho3 := Hid.intro ho3; clear hg3)
        | (go_at_call 75; (with_reducible refine (hcomp.out w3 ho3.out).mono ?_); rintro e w4 ⟨gv, rfl, ho4, hb4, hg4⟩; obtain ⟨e4, hS4⟩ := hS3.out.put (gv' := gv) (ns' := Lib.compact (sortS (A.asked.map (·.1)))) hg4 ho4; obtain ⟨_, _, _, t3⟩ := four_read e4; have tf := frozen_of_row w4 (w.heap.size + 1) 3 _ 26 e4; obtain ⟨ga4, gc4, rfl⟩ := own_slice ho4; obtain ⟨x0, x1, x2, x3⟩ := four_read hS4.var; obtain ⟨y0, y1, y2, y3⟩ := four_read hS4.res; have yf := fun j => frozen_of_row _ w.heap.size j _ 26 hS4.res; replace hS4 := Hid.intro hS4; clear ho4 hg4 e4 hb4))
      all_goals first | omega | skip
      obtain ⟨s1, s2⟩ := four_set hS4.out.res (.slice ta pt.length tc) (.slice da pd.length dc) (.slice ea pe.length ec) (.slice ga4 (Lib.compact (sortS (A.asked.map (·.1)))).length gc4)
      have hbs := hS4.out.bel.size
      have hB9 := hS4.out.bel.grown s2 (by omega) (fun j hj => by cases hj; exact Nat.le_refl _)
      have ho9 := own_weaken (own_low hS4.out.own s2 (by omega)) (B := w.heap.size) (by omega)
      generalize (((((w4.setCell ⟨w.heap.size + 1, 3, none⟩ (.slice ga4 (Lib.compact (sortS (A.asked.map (·.1)))).length gc4)).setCell ⟨w.heap.size, 0, none⟩ (.slice ta pt.length tc)).setCell ⟨w.heap.size, 1, none⟩ (.slice da pd.length dc)).setCell ⟨w.heap.size, 2, none⟩ (.slice ea pe.length ec)).setCell ⟨w.heap.size, 3, none⟩ (.slice ga4 (Lib.compact (sortS (A.asked.map (·.1)))).length gc4)) = w9 at s1 s2 hB9 ho9 ⊢
      obtain ⟨k0, k1, k2, k3⟩ := four_read s1
      refine bodyPost_ret (by simp [results, Tryz.results37, go_sem, k0, k1, k2, k3]; try rfl) rfl ?_
      exact ⟨hB9, _, rfl, ho9⟩
end Go.Proofs.YtogkchgjpflmjaaGreatDoor
/- A refusal's place lies in the line. -/
namespace Go.Proofs.YtogkchgjpflmjaaGreatDoor
set_option linter.unusedVariables false
theorem cutT_mem (ts : List Tok) : ∀ t ∈ (cutT ts).2, t ∈ ts := by
  match ts with
  | [] => intro t ht; exact ht
  | [x] => intro t ht; exact ht
  | x :: u :: r =>
    intro t ht
    simp only [cutT] at ht
    split at ht
    · simp at ht; simp [ht]
    · exact ht
theorem argsF_few (n : Nat) (ts arg : List Tok) (acc out : List (List Tok)) (h : argsF n ts arg acc = .ok out) : out.length ≤ acc.length + ts.length + 1 ∧ ∀ xs ∈ out, xs ∈ acc ∨ xs.length ≤ arg.length + ts.length := by
  induction ts generalizing arg acc with
  | nil =>
    unfold argsF at h
    split at h
    · cases h
    · cases h
      refine ⟨by simp, fun xs hx => ?_⟩
      rcases List.mem_append.1 hx with hx | hx
      · exact .inl hx
      · simp at hx; subst hx; exact .inr (by simp)
  | cons t ts ih =>
    unfold argsF at h
    split at h
    · cases h
    · split at h
      · split at h
        · cases h
        · obtain ⟨h1, h2⟩ := ih _ _ h
          refine ⟨by simp at h1 ⊢; omega, fun xs hx => ?_⟩
          rcases h2 xs hx with k | k
          · rcases List.mem_append.1 k with k | k
            · exact .inl k
            · simp at k; subst k; exact .inr (by simp)
          · exact .inr (by simp at k ⊢; omega)
      · obtain ⟨h1, h2⟩ := ih _ _ h
        refine ⟨by simp at h1 ⊢; omega, fun xs hx => ?_⟩
        rcases h2 xs hx with k | k
        · exact .inl k
        · exact .inr (by simp at k ⊢; omega)
theorem cutT_len (ts : List Tok) : (cutT ts).2.length ≤ ts.length := by
  match ts with
  | [] => simp [cutT]
  | [t] => simp [cutT]
  | t :: u :: r =>
    simp only [cutT]
    split
    · simp; omega
    · simp
theorem parseL_few (s : List UInt8) (L : Ln) (h : parseL s = .ok L) : L.args.length ≤ s.length + 1 ∧ ∀ xs ∈ L.args, xs.length ≤ s.length := by
  unfold parseL at h
  cases hs : scan s 0 with
  | error q => rw [hs] at h; cases h
  | ok ts =>
    rw [hs] at h
    have hl := scan_len _ _ _ hs
    have hc := cutT_len ts
    unfold parseT lineT at h
    simp only at h
    split at h
    · cases h
      exact ⟨by simp, fun xs hx => by cases hx⟩
    · rename_i t r heq
      rw [heq] at hc
      simp at hc
      split at h
      · split at h
        · rename_i out hq
          cases h
          unfold argsT at hq
          split at hq
          · cases hq
            exact ⟨by simp, fun xs hx => by cases hx⟩
          · obtain ⟨h1, h2⟩ := argsF_few _ _ _ _ _ hq
            refine ⟨by simp at h1 ⊢; omega, fun xs hx => ?_⟩
            rcases h2 xs hx with k | k
            · cases k
            · simp at k; omega
        · cases h
      · cases h
theorem argsF_mem (n : Nat) (P : Tok → Prop) (ts arg : List Tok) (acc out : List (List Tok)) (h : argsF n ts arg acc = .ok out) (h1 : ∀ t ∈ ts, P t) (h2 : ∀ t ∈ arg, P t) (h3 : ∀ xs ∈ acc, ∀ t ∈ xs, P t) : ∀ xs ∈ out, ∀ t ∈ xs, P t := by
  induction ts generalizing arg acc with
  | nil =>
    unfold argsF at h
    split at h
    · cases h
    · cases h
      intro xs hx
      rcases List.mem_append.1 hx with hx | hx
      · exact h3 xs hx
      · simp at hx; subst hx; exact h2
  | cons t ts ih =>
    unfold argsF at h
    have h1' : ∀ x ∈ ts, P x := fun x hx => h1 x (by simp [hx])
    split at h
    · cases h
    · split at h
      · split at h
        · cases h
        · refine ih _ _ h h1' (fun x hx => by cases hx) (fun xs hx => ?_)
          rcases List.mem_append.1 hx with hx | hx
          · exact h3 xs hx
          · simp at hx; subst hx; exact h2
      · refine ih _ _ h h1' (fun x hx => ?_) h3
        rcases List.mem_append.1 hx with hx | hx
        · exact h2 x hx
        · simp at hx; subst hx; exact h1 x (by simp)
end Go.Proofs.YtogkchgjpflmjaaGreatDoor
/- line.arguments. -/
namespace Go.Proofs.YtogkchgjpflmjaaGreatDoor
open Go.ChangeShapes Go.WideShapes Go.ChangeAt Go.RowKit
set_option linter.unusedVariables false
set_option maxRecDepth 100000
theorem Tryz.info182 : (Tryz.prog.info? 182).map (fun i => (i.zero, i.size, i.bytes)) = some (some (.slice none 0 0), 1, 24) := by kernel_rfl
abbrev ltokO (t : Tok) : Obj := .cells #[.int .i64 t.kind, .string (str t.text), .int .u32 t.num, .int .i64 (t.place : Int)] 188
theorem box_new (w : World) (t : Tok) : TokOff (w.alloc (ltokO t)) w.heap.size 0 t := by
  have key : ∀ k, (w.alloc (ltokO t)).cell? ⟨w.heap.size, k, none⟩ = (#[Value.int .i64 t.kind, .string (str t.text), .int .u32 t.num, .int .i64 (t.place : Int)] : Array Value)[k]? := fun k => by
    rw [cell_of_row _ _ _ _ 188 (0, 0) (heap_alloc_new w _)]
  exact ⟨key 0, key 1, key 2, key 3⟩
theorem box_below {w w1 : World} {t : Tok} (hb : Below (w.alloc (ltokO t)).heap.size (w.alloc (ltokO t)) w1) : TokOff w1 w.heap.size 0 t := (box_new w t).below hb (by simp)
theorem lalloc_lt {w w1 : World} {o : Obj} (hb : Below (w.alloc o).heap.size (w.alloc o) w1) : w.heap.size < w1.heap.size := by
  have := hb.size
  simp at this
  omega
theorem lone_below {w w1 : World} {o : Obj} (hb : Below (w.alloc o).heap.size (w.alloc o) w1) : Below w.heap.size w w1 := (lbelow_alloc w o).trans (hb.mono (by simp))
theorem ltwo_below {w w1 w2 : World} {o : Obj} (hb : Below (w.alloc o).heap.size (w.alloc o) w1) (hb2 : Below w1.heap.size w1 w2) : Below w.heap.size w w2 := (lone_below hb).trans (hb2.mono (lone_below hb).size)
structure LASt (ts : List Tok) (e : Nat) (w0 : World) (R : Except Nat (List (List Tok))) (i : Nat) (arg : List Tok) (acc : List (List Tok)) (va v : Value) (vs : List Value) (m : Nat) (w : World) : Prop where
  le : i ≤ ts.length
  few : arg.length ≤ i
  fewA : acc.length ≤ i
  eq : R = argsF e (ts.drop i) arg acc
  own : w.ownsRow m 188 4 v arg.length (rowOf arg)
  args : ArgsOwn 182 188 w0.heap.size w va acc vs m
  lo : w0.heap.size ≤ m
  bel : Below w0.heap.size w0 w
def AOut (B : Nat) (w0 : World) (R : Except Nat (List (List Tok))) (e : Ending) (w' : World) : Prop := Below B w0 w' ∧
  match R with
  | .ok acc => ∃ va vs m, e = .returned (.tuple #[va, .int .i64 0, .int .i64 0]) ∧ ArgsOwn 182 188 B w' va acc vs m
  | .error p => e = .returned (.tuple #[.slice none 0 0, .int .i64 (p : Int), .int .i64 20])
theorem lown_slice {w : World} {lo : Nat} {T : TypeId} {sz : Nat} {v : Value} {n : Nat} {xs : List Value} (h : w.ownsRow lo T sz v n xs) : ∃ a c, v = .slice a n c := by
  obtain ⟨hl, ⟨hv, h0⟩ | ⟨g, cap, cur, hv, r⟩⟩ := h
  · exact ⟨none, 0, by rw [hv, h0]⟩
  · exact ⟨_, cap, hv⟩
theorem ldrop_at {α : Type} (ts : List α) (i : Nat) (t : α) (h : ts[i]? = some t) : ts.drop i = t :: ts.drop (i + 1) := by
  obtain ⟨hi, he⟩ := List.getElem?_eq_some_iff.1 h
  rw [List.drop_eq_getElem_cons hi, he]
theorem ast_more {ts : List Tok} {e : Nat} {w0 : World} {R : Except Nat (List (List Tok))} {i : Nat} {arg : List Tok} {acc : List (List Tok)} {va v : Value} {vs : List Value} {m : Nat} {w : World} (h : LASt ts e w0 R i arg acc va v vs m w)
    (t : Tok) (ht : ts[i]? = some t) (h1 : isS t 58 = false) (h2 : isS t 44 = false) (w2 w3 : World) (v2 : Value) (o : Obj) (hb : Below w.heap.size w w2) (hg : (w2.alloc o).grownBy w3 v.ownBlock)
    (ho : w3.ownsRow m 188 4 v2 (arg.length + 1) (rowOf arg ++ t.cells)) : LASt ts e w0 R (i + 1) (arg ++ [t]) acc va v2 vs m w3 := by
  have hi := (List.getElem?_eq_some_iff.1 ht).1
  have hf := h.few
  have hfA := h.fewA
  have hsz := h.bel.size
  have hb' := hb.size
  have hlo := h.lo
  have hm := h.args.le
  refine ⟨by omega, by simp; omega, by omega, ?_, ?_, ?_, h.lo, ?_⟩
  · rw [h.eq, ldrop_at ts i t ht, argsF_more _ _ _ _ _ h1 h2]
  · rw [rowOf_push, List.length_append]
    exact ho
  · exact ((h.args.below hb).below (lbelow_alloc w2 o)).arg (by decide) ((ownsRow_below h.own hb).alloc o) hg
  · exact ((h.bel.trans (hb.mono (by omega))).alloc (by omega) o).grown hg (by simp; omega) (fun k hk => by have := (h.own.lt k hk).1; omega)
theorem ast_comma {ts : List Tok} {e : Nat} {w0 : World} {R : Except Nat (List (List Tok))} {i : Nat} {arg : List Tok} {acc : List (List Tok)} {va v : Value} {vs : List Value} {m : Nat} {w : World} (h : LASt ts e w0 R i arg acc va v vs m w)
    (t : Tok) (ht : ts[i]? = some t) (h1 : isS t 58 = false) (h2 : isS t 44 = true) (h0 : arg.length ≠ 0) (w2 w3 : World) (va2 : Value) (o : Obj) (hb : Below w.heap.size w w2) (hg : (w2.alloc o).grownBy w3 va.ownBlock)
    (ho : w3.ownsRow w0.heap.size 182 1 va2 (vs.length + 1) (vs ++ [v])) : LASt ts e w0 R (i + 1) [] (acc ++ [arg]) va2 (.slice none 0 0) (vs ++ [v]) w3.heap.size w3 := by
  have hi := (List.getElem?_eq_some_iff.1 ht).1
  have hf := h.few
  have hfA := h.fewA
  have hsz := h.bel.size
  have hb' := hb.size
  have hlo := h.lo
  have hm := h.args.le
  have hg' := hg.size
  simp at hg'
  refine ⟨by omega, by simp, by simp; omega, ?_, World.ownsRow_nil _ _ _ _, ?_, by omega, ?_⟩
  · rw [h.eq, ldrop_at ts i t ht, argsF_comma _ _ _ _ _ h1 h2 h0]
  · exact ((h.args.below hb).below (lbelow_alloc w2 o)).push (by decide) h.lo h0 ((ownsRow_below h.own hb).alloc o) hg ho
  · exact ((h.bel.trans (hb.mono (by omega))).alloc (by omega) o).grown hg (by simp; omega) (fun k hk => (h.args.row.lt k hk).1)
theorem ast_end {ts : List Tok} {e : Nat} {w0 : World} {R : Except Nat (List (List Tok))} {arg : List Tok} {acc : List (List Tok)} {va v : Value} {vs : List Value} {m : Nat} {w : World} (h : LASt ts e w0 R ts.length arg acc va v vs m w)
    (h0 : arg.length ≠ 0) (w3 : World) (va2 : Value) (o : Obj) (hg : (w.alloc o).grownBy w3 va.ownBlock) (ho : w3.ownsRow w0.heap.size 182 1 va2 (vs.length + 1) (vs ++ [v])) :
    AOut w0.heap.size w0 R (.returned (.tuple #[va2, .int .i64 0, .int .i64 0])) w3 := by
  have hsz := h.bel.size
  have hm := h.args.le
  have hR : R = .ok (acc ++ [arg]) := by rw [h.eq, List.drop_length, argsF, if_neg h0]
  rw [hR]
  refine ⟨(h.bel.alloc (by omega) o).grown hg (by simp; omega) (fun k hk => (h.args.row.lt k hk).1), va2, vs ++ [v], w3.heap.size, rfl, ?_⟩
  exact (h.args.below (lbelow_alloc w o)).push (by decide) h.lo h0 (h.own.alloc o) hg ho
end Go.Proofs.YtogkchgjpflmjaaGreatDoor
namespace Go.Proofs.YtogkchgjpflmjaaGreatDoor
open Go.ChangeShapes Go.WideShapes Go.ChangeAt Go.RowKit
set_option linter.unusedVariables false
set_option maxRecDepth 100000
set_option maxHeartbeats 2000000 in
theorem arguments_any (a : Option Addr) (c : Nat) (ts : List Tok) (e : Nat) (w : World) (hm : ts.length ≤ 1100000) (he : e ≤ 1100000) (hT : TokFrom w a ts) :
    Calls Tryz.prog 103 #[.slice a ts.length c, .int .i64 (e : Int)] w fun x w' => AOut w.heap.size w (argsT e ts) x w' := by
  obtain ⟨n0, hn0⟩ : ∃ n0, n0 = ts.length := ⟨_, rfl⟩
  rw [← hn0] at hm ⊢
  by_cases h0 : n0 = 0
  · have hR : argsT e ts = .ok [] := by unfold argsT; rw [if_pos (by omega)]
    rw [hR]
    subst h0
    go_enter Tryz.func103, Tryz.ntmps103
    go_wp2
    go_ret3
    exact ⟨Below.refl _ _, _, _, w.heap.size, rfl, ArgsOwn.start _ _ _ _ _ (Nat.le_refl _)⟩
  · obtain ⟨R, hR⟩ : ∃ R, R = argsT e ts := ⟨_, rfl⟩
    rw [← hR]
    have hR' : R = argsF e ts [] [] := by rw [hR]; unfold argsT; rw [if_neg (by omega)]
    have hstart : Hid (LASt ts e w R 0 [] [] (.slice none 0 0) (.slice none 0 0) [] w.heap.size w) := ⟨by omega, by simp, by simp, by rw [List.drop_zero]; exact hR', World.ownsRow_nil _ _ _ _, ArgsOwn.start _ _ _ _ _ (Nat.le_refl _), Nat.le_refl _, Below.refl _ _⟩
    rcases hT with hT | ⟨g, o, rfl, hg, hT⟩
    · rw [hT] at hn0; simp at hn0; omega
    · have hTH := Hid.intro hT
      have hnH := Hid.intro hn0
      clear hT hR hR' hn0
      obtain ⟨i0, hi, hz0, hz1, hz2⟩ := info_parts Tryz.info188
      obtain ⟨j0, hj, hy0, hy1, hy2⟩ := info_parts Tryz.info182
      have hn1 : ((n0 : Int) == 0) = false := by simp; omega
      go_enter Tryz.func103, Tryz.ntmps103
      go_wp2
      all_goals first | omega | skip
      go_loopw [7, 8, 17] (fun v7 v8 vi wr => ∃ (i : Nat) (arg : List Tok) (acc : List (List Tok)) (vs : List Value) (m : Nat), vi = .int .i64 (i : Int) ∧ Hid (LASt ts e w R i arg acc v7 v8 vs m wr)) (fun _ _ vi _ => n0 - (intOf vi).toNat)
      case atStart => exact ⟨0, [], [], [], w.heap.size, rfl, hstart⟩
      case round =>
        clear hstart
        obtain ⟨i, arg, acc, vs, m, rfl, hS⟩ := hrel
        obtain ⟨a1, c1, rfl⟩ := lown_slice hS.out.args.row
        obtain ⟨a2, c2, rfl⟩ := lown_slice hS.out.own
        have hle := hS.out.le
        have hfew := hS.out.few
        have hfewA := hS.out.fewA
        have hvl : vs.length ≤ i := by have := hS.out.args.len; omega
        rw [← hnH.out] at hle
        obtain ⟨k7, hk7⟩ : ∃ k7, k7 = vs.length := ⟨_, rfl⟩
        obtain ⟨k8, hk8⟩ : ∃ k8, k8 = arg.length := ⟨_, rfl⟩
        rw [← hk7, ← hk8] at hS
        rw [← hk7] at hvl ⊢
        rw [← hk8] at hfew ⊢
        have hk7H := Hid.intro hk7
        have hk8H := Hid.intro hk8
        clear hk7 hk8
        have hownH : Hid (wr.ownsRow m 188 4 (.slice a2 k8 c2) k8 (rowOf arg)) := by
          have := hS.out.own
          rwa [← hk8H.out] at this
        have hrowH : Hid (wr.ownsRow w.heap.size 182 1 (.slice a1 k7 c1) k7 vs) := by
          have := hS.out.args.row
          rwa [← hk7H.out] at this
        have hmle := hS.out.args.le
        have hmlo := hS.out.lo
        by_cases hlt : i < n0
        · obtain ⟨t, ht⟩ : ∃ t, ts[i]? = some t := ⟨ts[i]'(by rw [← hnH.out]; exact hlt), List.getElem?_eq_getElem _⟩
          have htH := Hid.intro ht
          clear ht
          have hgr : g < wr.heap.size := Nat.lt_of_lt_of_le hg hS.out.bel.size
          obtain ⟨q0, q1, q2, q3⟩ := (hTH.out i t htH.out).below hS.out.bel hg
          cases h1 : isS t 58
          · cases h2 : isS t 44
            · have hc58 := Hid.intro (lineSign_b t 58 false h1)
              have hc44 := Hid.intro (lineSign_b t 44 false h2)
              have hn := Hid.intro (fun (w2 w3 : World) (v2 : Value) (o : Obj) => ast_more hS.out t htH.out h1 h2 w2 w3 v2 o)
              clear h1 h2
              go_wp2_with (first
                | (go_at_call 130; with_reducible refine (hc44.out _).mono ?_; rintro e w1 ⟨rfl, hb1⟩; obtain ⟨b0, b1, b2, b3⟩ := box_below hb1; simp only [Nat.zero_add] at b1 b2 b3)
                | (go_at_call 130; with_reducible refine (hc58.out _).mono ?_; rintro e w2 ⟨rfl, hb2⟩; obtain ⟨d0, d1, d2, d3⟩ := (box_below hb1).below hb2 (lalloc_lt hb1); simp only [Nat.zero_add] at d1 d2 d3)
                | (at_builtin; go_must (refine wpList_append_own_wide _ rfl (.tmp 23) (.tmp 25) 182 rfl m 188 i0 (.agg #[.int .i64 0, .string ⟨#[]⟩, .int .u32 0, .int .i64 0]) 4 40 Tryz.underlying182 hi hz0 hz1 hz2 rfl (by decide) (.slice a2 k8 c2) k8 (rowOf arg) rfl ((ownsRow_below hownH.out (ltwo_below hb1 hb2)).alloc _) ⟨w2.heap.size, 0, none⟩ 1 1 [.int .i64 t.kind, .string (str t.text), .int .u32 t.num, .int .i64 (t.place : Int)] rfl rfl (cells_new _ _ _) (by simp [Value.oneCell']) (by unfold maxLen; omega) (by omega) (by have := (ltwo_below hb1 hb2).size; simp; omega) ?_; intro v2 w3 hown3 hgrow3 _)))
              all_goals first | omega | skip
              go_roundw
              case rel => exact ⟨i + 1, arg ++ [t], acc, vs, m, by go_num, hn.out w2 w3 v2 _ (ltwo_below hb1 hb2) hgrow3 (by rw [← hk8H.out]; exact hown3)⟩
              case measure => simp [intOf]; omega
            · have hc58 := Hid.intro (lineSign_b t 58 false h1)
              have hc44 := Hid.intro (lineSign_b t 44 true h2)
              by_cases h0 : k8 = 0
              · have hR : Hid (R = .error t.place) := by
                  show R = _
                  rw [hS.out.eq, ldrop_at ts i t htH.out, argsF_empty _ _ _ _ _ h1 h2 (by rw [← hk8H.out]; exact h0)]
                have hz : ((k8 : Int) == 0) = true := by simp [h0]
                clear h1 h2 h0
                go_wp2_with (first
                  | (go_at_call 130; with_reducible refine (hc44.out _).mono ?_; rintro e w1 ⟨rfl, hb1⟩; obtain ⟨b0, b1, b2, b3⟩ := box_below hb1; simp only [Nat.zero_add] at b1 b2 b3)
                  | (go_at_call 130; with_reducible refine (hc58.out _).mono ?_; rintro e w2 ⟨rfl, hb2⟩; obtain ⟨d0, d1, d2, d3⟩ := (box_below hb1).below hb2 (lalloc_lt hb1); simp only [Nat.zero_add] at d1 d2 d3))
                all_goals first | omega | skip
                go_quiet (fail)
                go_wp2
                all_goals first | omega | skip
                go_ret3
                rw [hR.out]
                exact ⟨below_drewN (hS.out.bel.trans ((ltwo_below hb1 hb2).mono hS.out.bel.size)) nq, rfl⟩
              · have hn := Hid.intro (fun (w2 w3 : World) (v2 : Value) (o : Obj) => ast_comma hS.out t htH.out h1 h2 (by rw [← hk8H.out]; exact h0) w2 w3 v2 o)
                have hz : ((k8 : Int) == 0) = false := by simp [h0]
                clear h1 h2 h0
                go_wp2_with (first
                  | (go_at_call 130; with_reducible refine (hc44.out _).mono ?_; rintro e w1 ⟨rfl, hb1⟩; obtain ⟨b0, b1, b2, b3⟩ := box_below hb1; simp only [Nat.zero_add] at b1 b2 b3)
                  | (go_at_call 130; with_reducible refine (hc58.out _).mono ?_; rintro e w2 ⟨rfl, hb2⟩; obtain ⟨d0, d1, d2, d3⟩ := (box_below hb1).below hb2 (lalloc_lt hb1); simp only [Nat.zero_add] at d1 d2 d3)
                  | (at_builtin; go_must (refine wpList_append_own _ rfl (.tmp 40) (.tmp 42) 131 rfl w.heap.size 182 j0 (.slice none 0 0) 1 24 Tryz.underlying131 hj hy0 hy1 hy2 rfl (by decide) (.slice a1 k7 c1) k7 vs rfl ((ownsRow_below hrowH.out (ltwo_below hb1 hb2)).alloc _) ⟨w2.heap.size, 0, none⟩ 1 1 [.slice a2 k8 c2] rfl rfl (cells_new _ _ _) (by simp [Value.oneCell']) (by unfold maxLen; omega) (by omega) (by have := (ltwo_below hb1 hb2).size; simp; omega) ?_; intro v2 w3 hown3 hgrow3 _)))
                all_goals first | omega | skip
                go_roundw
                case rel => exact ⟨i + 1, [], acc ++ [arg], vs ++ [.slice a2 k8 c2], w3.heap.size, by go_num, Hid.intro (hn.out w2 w3 v2 _ (ltwo_below hb1 hb2) hgrow3 (by rw [← hk7H.out]; exact hown3))⟩
                case measure => simp [intOf]; omega
          · have hc58 := Hid.intro (lineSign_b t 58 true h1)
            have hc44 := Hid.intro (fun w => lineSign_b t 44 _ rfl w)
            have hR : Hid (R = .error t.place) := by
              show R = _
              rw [hS.out.eq, ldrop_at ts i t htH.out, argsF_sign _ _ _ _ _ h1]
            clear h1
            obtain ⟨bc, hbc⟩ : ∃ bc, bc = isS t 44 := ⟨_, rfl⟩
            rw [← hbc] at hc44
            clear hbc
            go_wp2_with (first
              | (go_at_call 130; with_reducible refine (hc44.out _).mono ?_; rintro e w1 ⟨rfl, hb1⟩; obtain ⟨b0, b1, b2, b3⟩ := box_below hb1; simp only [Nat.zero_add] at b1 b2 b3)
              | (go_at_call 130; with_reducible refine (hc58.out _).mono ?_; rintro e w2 ⟨rfl, hb2⟩; obtain ⟨d0, d1, d2, d3⟩ := (box_below hb1).below hb2 (lalloc_lt hb1); simp only [Nat.zero_add] at d1 d2 d3))
            all_goals first | omega | skip
            go_quiet (fail)
            go_wp2
            all_goals first | omega | skip
            go_ret3
            rw [hR.out]
            exact ⟨below_drewN (hS.out.bel.trans ((ltwo_below hb1 hb2).mono hS.out.bel.size)) nq, rfl⟩
        · have hin : Hid (i = ts.length) := by
            show i = _
            rw [← hnH.out]
            omega
          by_cases h0 : k8 = 0
          · have hR : Hid (R = .error e) := by
              show R = _
              rw [hS.out.eq, hin.out, List.drop_length, argsF, if_pos (by rw [← hk8H.out]; exact h0)]
            have hz : ((k8 : Int) == 0) = true := by simp [h0]
            clear h0
            go_wp2
            all_goals first | omega | skip
            go_ret3
            rw [hR.out]
            exact ⟨hS.out.bel, rfl⟩
          · have hS' : Hid (LASt ts e w R ts.length arg acc (.slice a1 k7 c1) (.slice a2 k8 c2) vs m wr) := by
              have := hS.out
              rwa [hin.out] at this
            have hn := Hid.intro (fun (w3 : World) (v2 : Value) (o : Obj) => ast_end hS'.out (by rw [← hk8H.out]; exact h0) w3 v2 o)
            have hz : ((k8 : Int) == 0) = false := by simp [h0]
            clear h0
            go_wp2_with (at_builtin; go_must (refine wpList_append_own _ rfl (.tmp 49) (.tmp 51) 131 rfl w.heap.size 182 j0 (.slice none 0 0) 1 24 Tryz.underlying131 hj hy0 hy1 hy2 rfl (by decide) (.slice a1 k7 c1) k7 vs rfl (hrowH.out.alloc _) ⟨wr.heap.size, 0, none⟩ 1 1 [.slice a2 k8 c2] rfl rfl (cells_new _ _ _) (by simp [Value.oneCell']) (by unfold maxLen; omega) (by omega) (by simp; omega) ?_; intro v2 w3 hown3 hgrow3 _))
            all_goals first | omega | skip
            go_ret3
            exact hn.out w3 v2 _ hgrow3 (by rw [← hk7H.out]; exact hown3)
end Go.Proofs.YtogkchgjpflmjaaGreatDoor

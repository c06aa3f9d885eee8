/- unit's note: what a line says beside its label and its items. -/
import Derived.Test.YtogkchgjpflmjaaGreatDoorUnk
namespace Go.Proofs.YtogkchgjpflmjaaGreatDoor
open Go.ChangeShapes Go.WideShapes Go.ChangeAt Go.RowKit
set_option linter.unusedVariables false
set_option maxRecDepth 100000
theorem info101 : (Tryz.prog.info? 101).map (fun i => (i.zero, i.size, i.bytes)) = some (some (.agg #[.string ⟨#[]⟩, .slice none 0 0, .int .u32 0]), 3, 48) := by kernel_rfl
theorem info144 : (Tryz.prog.info? 144).map (fun i => (i.zero, i.size, i.bytes)) = some (some (.agg #[.string ⟨#[]⟩, .int .i64 0]), 2, 24) := by kernel_rfl
def noteU (A : Asm) (n : Nat) (x : Thg) : Asm := { A with equs := if x.kind = 3 then A.equs ++ [(x.name, x.e)] else A.equs, sec := if x.kind = 5 then x.sec else A.sec, asked := if x.kind = 4 then A.asked ++ [(x.name, n)] else A.asked }
variable {lo b m N : Nat} {w : World} {A : Asm} {pt pd : List (Itm × Value)} {pe : List ((List UInt8 × Lin) × Value)} {tv dv ev av : Value}
abbrev six (k : Int) (vi : Value) (s : List UInt8) (vt : Value) (c sec : Int) : Array Value := #[.int .i64 k, vi, .string (str s), vt, .int .u32 c, .int .i64 sec]
theorem six_cells (w : World) (k : Int) (vi : Value) (s : List UInt8) (vt : Value) (c sec : Int) (j : Nat) : (w.alloc (.cells (six k vi s vt c sec) 137)).cell? ⟨w.heap.size, j, none⟩ = (six k vi s vt c sec)[j]? := cell_blockT (heap_alloc_new w _) j
set_option maxHeartbeats 4000000 in
theorem note_none (h : AsmAt lo w b m N A pt pd pe tv dv ev av) (k n : Int) (vi : Value) (ai : Option Addr) (ni ci : Nat) (hvi : vi = .slice ai ni ci) (s : List UInt8) (va : Option Addr) (nt vc : Nat) (c sec : Int) (h3 : k ≠ 3) (h4 : k ≠ 4) (h5 : k ≠ 5) :
    Calls Tryz.prog 73 #[.pointer (some ⟨b, 0, none⟩), .int .i64 n, .agg (six k vi s (.slice va nt vc) c sec)] w fun e w' => e = .returned (.tuple #[]) ∧ Below w.heap.size w w' := by
  subst hvi
  have e3 : (k == 3) = false := by simpa using h3
  have e4 : (k == 4) = false := by simpa using h4
  have e5 : (k == 5) = false := by simpa using h5
  go_enter Tryz.func73, Tryz.ntmps73
  go_wp2
  go_end0
  exact ⟨rfl, below_alloc w _⟩
set_option maxHeartbeats 4000000 in
theorem note_sec (h : AsmAt lo w b m N A pt pd pe tv dv ev av) (n : Int) (ai : Option Addr) (ni ci : Nat) (s : List UInt8) (va : Option Addr) (nt vc : Nat) (c sec : Int) :
    Calls Tryz.prog 73 #[.pointer (some ⟨b, 0, none⟩), .int .i64 n, .agg (six 5 (.slice ai ni ci) s (.slice va nt vc) c sec)] w fun e w' => e = .returned (.tuple #[]) ∧ BelN lo m w w' ∧ AsmAt lo w' b m N { A with sec := sec } pt pd pe tv dv ev av := by
  obtain ⟨g2, g3⟩ := (h.below (below_alloc w (.cells (six 5 (.slice ai ni ci) s (.slice va nt vc) c sec) 137))).laySec sec
  have hB : BelN lo m w (w.alloc (.cells (six 5 (.slice ai ni ci) s (.slice va nt vc) c sec) 137)) := BelN.of (below_alloc w _) (by have := h.blo; have := h.lt; omega)
  replace hB := Hid.intro (hB.trans g3)
  replace g2 := Hid.intro g2
  clear g3
  have h0 := h.below (below_alloc w (.cells (six 5 (.slice ai ni ci) s (.slice va nt vc) c sec) 137))
  have z4 := (h0.cell 4).trans rfl
  have zf := frozen_of_row _ b 4 _ 70 h0.blk
  clear h0 h
  go_enter Tryz.func73, Tryz.ntmps73
  go_wp2
  go_end0
  exact ⟨rfl, hB.out, g2.out⟩
set_option maxHeartbeats 4000000 in
theorem note_equ (h : AsmAt lo w b m N A pt pd pe tv dv ev av) (n : Int) (ai : Option Addr) (ni ci : Nat) (s : List UInt8) (va : Option Addr) (vc : Nat) (y : Lin) (sec : Int) (hy : w.ownsRow lo 123 2 (.slice va y.terms.length vc) y.terms.length (rowT y.terms)) (hfew : pe.length ≤ 1100000) :
    Calls Tryz.prog 73 #[.pointer (some ⟨b, 0, none⟩), .int .i64 n, .agg (six 3 (.slice ai ni ci) s (.slice va y.terms.length vc) y.const sec)] w fun e w' => e = .returned (.tuple #[]) ∧ BelN lo m w w' ∧ ∃ pe' ev', AsmAt lo w' b m N { A with equs := A.equs ++ [(s, y)] } pt pd pe' tv dv ev' av := by
  obtain ⟨ta, tc, da, dc, ea, ec, aa, ac, rfl, rfl, rfl, rfl⟩ := h.vals
  obtain ⟨i0, hi, hz0, hz1, hz2⟩ := info_parts info101
  have hbl := h.blo
  have hltb := h.lt
  have k0 := six_cells w 3 (.slice ai ni ci) s (.slice va y.terms.length vc) y.const sec
  have y0 := (k0 0).trans rfl
  have y2 := (k0 2).trans rfl
  have y3 := (k0 3).trans rfl
  have y4 := (k0 4).trans rfl
  clear k0
  have hs0 : (w.alloc (.cells (six 3 (.slice ai ni ci) s (.slice va y.terms.length vc) y.const sec) 137)).heap.size = w.heap.size + 1 := by simp
  have h0 := h.below (below_alloc w (.cells (six 3 (.slice ai ni ci) s (.slice va y.terms.length vc) y.const sec) 137))
  have hy0 := own_keptB hy (below_alloc w (.cells (six 3 (.slice ai ni ci) s (.slice va y.terms.length vc) y.const sec) 137))
  have hB0 : BelN lo m w (w.alloc (.cells (six 3 (.slice ai ni ci) s (.slice va y.terms.length vc) y.const sec) 137)) := BelN.of (below_alloc w _) (by omega)
  generalize hW : w.alloc (.cells (six 3 (.slice ai ni ci) s (.slice va y.terms.length vc) y.const sec) 137) = w0 at *
  have z2 := (h0.cell 2).trans rfl
  have zA2 : ∀ o, (w0.alloc o).cell? ⟨b, 2, none⟩ = some (.slice ea pe.length ec) := fun o => ((h0.below (below_alloc w0 o)).cell 2).trans rfl
  have hbd : Below w0.heap.size w0 (w0.alloc (.cells (equCells ((s, y), .slice va y.terms.length vc)).toArray 101)).drew := (below_alloc w0 _).drew
  have hAH := Hid.intro (h0.below hbd)
  have hownH : Hid ((w0.alloc (.cells (equCells ((s, y), .slice va y.terms.length vc)).toArray 101)).drew.ownsRow lo 101 3 (.slice ea pe.length ec) pe.length (rowE pe)) := hAH.out.equs.row
  have hsrcH : Hid (Src (w0.alloc (.cells (equCells ((s, y), .slice va y.terms.length vc)).toArray 101)).drew (.slice (some ⟨w.heap.size + 1, 0, none⟩) 1 1) 1 (equCells ((s, y), .slice va y.terms.length vc))) := by
    rw [← hs0]
    exact .inr ⟨_, _, rfl, cells_new w0 (equCells ((s, y), .slice va y.terms.length vc)).toArray 101⟩
  have hfin : Hid (∀ v' w1, w1.ownsRow lo 101 3 v' (pe.length + 1) (rowE pe ++ equCells ((s, y), .slice va y.terms.length vc)) → (w0.alloc (.cells (equCells ((s, y), .slice va y.terms.length vc)).toArray 101)).drew.grownBy w1 (Value.slice ea pe.length ec).ownBlock → w1.cell? ⟨b, 2, none⟩ = some (.slice ea pe.length ec) ∧ w1.frozen? ⟨b, 2, none⟩ = false ∧ BelN lo m w (w1.setCell ⟨b, 2, none⟩ v') ∧ AsmAt lo (w1.setCell ⟨b, 2, none⟩ v') b m N { A with equs := A.equs ++ [(s, y)] } pt pd (pe ++ [((s, y), .slice va y.terms.length vc)]) (.slice ta pt.length tc) (.slice da pd.length dc) v' (.slice aa A.asked.length ac)) := fun v' w1 k1 k2 => by
    obtain ⟨g1, g2, g3⟩ := hAH.out.layE (own_keptB hy0 hbd) k1 k2
    exact ⟨(cell_blockT g1 2).trans rfl, frozen_of_row w1 b 2 _ 70 g1, (hB0.trans (BelN.of hbd (by omega))).trans g3, g2⟩
  clear h hy hAH h0 hy0 hbd hB0
  have hlo2 : lo ≤ (w0.alloc (.cells (equCells ((s, y), .slice va y.terms.length vc)).toArray 101)).drew.heap.size := by
    have : (w0.alloc (.cells (equCells ((s, y), .slice va y.terms.length vc)).toArray 101)).drew.heap.size = w0.heap.size + 1 := by simp
    omega
  have h1 : ∀ u ∈ equCells ((s, y), .slice va y.terms.length vc), u.oneCell' = true := by simp [Value.oneCell']
  generalize y.terms.length = ny at *
  generalize pe.length = le at *
  go_enter Tryz.func73, Tryz.ntmps73
  subst hW
  go_wp2
  all_goals first | omega | skip
  go_region_law (refine step_app _ rfl (.tmp 15) (.tmp 21) 23 rfl lo 101 i0 _ 3 48 Tryz.underlying23 hi hz0 hz1 hz2 rfl (by decide) (.slice ea le ec) le (rowE pe) rfl hownH.out (.slice (some ⟨_, 0, none⟩) 1 1) 1 (equCells ((s, y), .slice va ny vc)) rfl hsrcH.out rfl h1 (by unfold maxLen; omega) (by omega) hlo2 ?_; intro v3 w3 ho3 hg3 hw3; obtain ⟨u1, uf, hB, hAs⟩ := hfin.out v3 w3 ho3 hg3; replace hB := Hid.intro hB; replace hAs := Hid.intro hAs; obtain ⟨a3, c3, rfl⟩ := own_slice ho3; clear ho3 hg3 hw3)
  all_goals clear u1 uf
  all_goals go_wp2_with fail
  all_goals go_end0
  all_goals exact ⟨rfl, hB.out, _, _, hAs.out⟩
set_option maxHeartbeats 4000000 in
theorem note_glo (h : AsmAt lo w b m N A pt pd pe tv dv ev av) (n : Nat) (ai : Option Addr) (ni ci : Nat) (s : List UInt8) (va : Option Addr) (nt vc : Nat) (c sec : Int) (hfew : A.asked.length ≤ 1100000) :
    Calls Tryz.prog 73 #[.pointer (some ⟨b, 0, none⟩), .int .i64 n, .agg (six 4 (.slice ai ni ci) s (.slice va nt vc) c sec)] w fun e w' => e = .returned (.tuple #[]) ∧ BelN lo m w w' ∧ ∃ av', AsmAt lo w' b m N { A with asked := A.asked ++ [(s, n)] } pt pd pe tv dv ev av' := by
  obtain ⟨ta, tc, da, dc, ea, ec, aa, ac, rfl, rfl, rfl, rfl⟩ := h.vals
  obtain ⟨i0, hi, hz0, hz1, hz2⟩ := info_parts info144
  have hbl := h.blo
  have hltb := h.lt
  have k0 := six_cells w 4 (.slice ai ni ci) s (.slice va nt vc) c sec
  have y0 := (k0 0).trans rfl
  have y2 := (k0 2).trans rfl
  clear k0
  have hs0 : (w.alloc (.cells (six 4 (.slice ai ni ci) s (.slice va nt vc) c sec) 137)).heap.size = w.heap.size + 1 := by simp
  have h0 := h.below (below_alloc w (.cells (six 4 (.slice ai ni ci) s (.slice va nt vc) c sec) 137))
  have hB0 : BelN lo m w (w.alloc (.cells (six 4 (.slice ai ni ci) s (.slice va nt vc) c sec) 137)) := BelN.of (below_alloc w _) (by omega)
  generalize hW : w.alloc (.cells (six 4 (.slice ai ni ci) s (.slice va nt vc) c sec) 137) = w0 at *
  have z6 := (h0.cell 6).trans rfl
  have zA6 : ∀ o, (w0.alloc o).cell? ⟨b, 6, none⟩ = some (.slice aa A.asked.length ac) := fun o => ((h0.below (below_alloc w0 o)).cell 6).trans rfl
  have hbd : Below w0.heap.size w0 (w0.alloc (.cells (askCells (s, n)).toArray 144)).drew := (below_alloc w0 _).drew
  have hAH := Hid.intro (h0.below hbd)
  have hownH : Hid ((w0.alloc (.cells (askCells (s, n)).toArray 144)).drew.ownsRow lo 144 2 (.slice aa A.asked.length ac) A.asked.length (rowA A.asked)) := hAH.out.asked
  have hsrcH : Hid (Src (w0.alloc (.cells (askCells (s, n)).toArray 144)).drew (.slice (some ⟨w.heap.size + 1, 0, none⟩) 1 1) 1 (askCells (s, n))) := by
    rw [← hs0]
    exact .inr ⟨_, _, rfl, cells_new w0 (askCells (s, n)).toArray 144⟩
  have hfin : Hid (∀ v' w1, w1.ownsRow lo 144 2 v' (A.asked.length + 1) (rowA A.asked ++ askCells (s, n)) → (w0.alloc (.cells (askCells (s, n)).toArray 144)).drew.grownBy w1 (Value.slice aa A.asked.length ac).ownBlock → w1.cell? ⟨b, 6, none⟩ = some (.slice aa A.asked.length ac) ∧ w1.frozen? ⟨b, 6, none⟩ = false ∧ BelN lo m w (w1.setCell ⟨b, 6, none⟩ v') ∧ AsmAt lo (w1.setCell ⟨b, 6, none⟩ v') b m N { A with asked := A.asked ++ [(s, n)] } pt pd pe (.slice ta pt.length tc) (.slice da pd.length dc) (.slice ea pe.length ec) v') := fun v' w1 k1 k2 => by
    obtain ⟨g1, g2, g3⟩ := hAH.out.layA k1 k2
    exact ⟨(cell_blockT g1 6).trans rfl, frozen_of_row w1 b 6 _ 70 g1, (hB0.trans (BelN.of hbd (by omega))).trans g3, g2⟩
  clear h hAH h0 hbd hB0
  have hlo2 : lo ≤ (w0.alloc (.cells (askCells (s, n)).toArray 144)).drew.heap.size := by
    have : (w0.alloc (.cells (askCells (s, n)).toArray 144)).drew.heap.size = w0.heap.size + 1 := by simp
    omega
  have h1 : ∀ u ∈ askCells (s, n), u.oneCell' = true := by simp [Value.oneCell']
  generalize A.asked.length = le at *
  go_enter Tryz.func73, Tryz.ntmps73
  subst hW
  go_wp2
  all_goals first | omega | skip
  go_region_law (refine step_app _ rfl (.tmp 32) (.tmp 37) 68 rfl lo 144 i0 _ 2 24 Tryz.underlying68 hi hz0 hz1 hz2 rfl (by decide) (.slice aa le ac) le (rowA A.asked) rfl hownH.out (.slice (some ⟨_, 0, none⟩) 1 1) 1 (askCells (s, n)) rfl hsrcH.out rfl h1 (by unfold maxLen; omega) (by omega) hlo2 ?_; intro v3 w3 ho3 hg3 hw3; obtain ⟨u1, uf, hB, hAs⟩ := hfin.out v3 w3 ho3 hg3; replace hB := Hid.intro hB; replace hAs := Hid.intro hAs; obtain ⟨a3, c3, rfl⟩ := own_slice ho3; clear ho3 hg3 hw3)
  all_goals clear u1 uf
  all_goals go_wp2_with fail
  all_goals go_end0
  all_goals exact ⟨rfl, hB.out, _, hAs.out⟩
theorem note_any (h : AsmAt lo w b m N A pt pd pe tv dv ev av) (n : Nat) (x : Thg) (ai : Option Addr) (ni ci : Nat) (va : Option Addr) (nt vc : Nat) (hx : w.ownsRow lo 123 2 (.slice va nt vc) x.e.terms.length (rowT x.e.terms)) (hfe : A.equs.length ≤ 1100000) (hfa : A.asked.length ≤ 1100000) :
    Calls Tryz.prog 73 #[.pointer (some ⟨b, 0, none⟩), .int .i64 n, thgV x.kind (.slice ai ni ci) x.name (.slice va nt vc) x.e.const x.sec] w fun e w' => e = .returned (.tuple #[]) ∧ BelN lo m w w' ∧ ∃ pe' ev' av', AsmAt lo w' b m N (noteU A n x) pt pd pe' tv dv ev' av' := by
  have hlo : lo ≤ w.heap.size := by have := h.blo; have := h.lt; omega
  have hpe : pe.length ≤ 1100000 := by rw [h.ee, List.length_map] at hfe; exact hfe
  obtain rfl : nt = x.e.terms.length := own_len hx
  by_cases h3 : x.kind = 3
  · have e : noteU A n x = { A with equs := A.equs ++ [(x.name, x.e)] } := by unfold noteU; rw [h3]; simp
    rw [e, h3]
    refine (note_equ h n ai ni ci x.name va vc x.e x.sec hx hpe).mono ?_
    rintro e w' ⟨rfl, hb, pe', ev', hA⟩
    exact ⟨rfl, hb, pe', ev', av, hA⟩
  by_cases h4 : x.kind = 4
  · have e : noteU A n x = { A with asked := A.asked ++ [(x.name, n)] } := by unfold noteU; rw [h4]; simp
    rw [e, h4]
    refine (note_glo h n ai ni ci x.name va _ vc x.e.const x.sec hfa).mono ?_
    rintro e w' ⟨rfl, hb, av', hA⟩
    exact ⟨rfl, hb, pe, ev, av', hA⟩
  by_cases h5 : x.kind = 5
  · have e : noteU A n x = { A with sec := x.sec } := by unfold noteU; rw [h5]; simp
    rw [e, h5]
    refine (note_sec h n ai ni ci x.name va _ vc x.e.const x.sec).mono ?_
    rintro e w' ⟨rfl, hb, hA⟩
    exact ⟨rfl, hb, pe, ev, av, hA⟩
  · have e : noteU A n x = A := by unfold noteU; simp [h3, h4, h5]
    rw [e]
    refine (note_none h x.kind n _ ai ni ci rfl x.name va _ vc x.e.const x.sec h3 h4 h5).mono ?_
    rintro e w' ⟨rfl, hb⟩
    exact ⟨rfl, BelN.of hb hlo, pe, ev, av, h.below hb⟩
end Go.Proofs.YtogkchgjpflmjaaGreatDoor

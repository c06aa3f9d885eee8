/- unit's take, up to what the line says. -/
import Derived.Test.YtogkchgjpflmjaaGreatDoorNote
import Derived.Test.YtogkchgjpflmjaaGreatDoorArg9
import Derived.Test.YtogkchgjpflmjaaGreatDoorDi6
import Derived.Test.YtogkchgjpflmjaaGreatDoorEr5
import Derived.Deep.RegionHeld3
namespace Go.Proofs.YtogkchgjpflmjaaGreatDoor
open Go.ChangeShapes Go.WideShapes Go.ChangeAt Go.RowKit
set_option linter.unusedVariables false
set_option maxRecDepth 100000
theorem parseL_label {s : List UInt8} {L : Ln} (h : parseL s = .ok L) : L.label.length ≤ s.length := by
  unfold parseL at h
  cases hs : scan s 0 with
  | error q => rw [hs] at h; cases h
  | ok ts =>
    rw [hs] at h
    have hc : (cutT ts).1.length ≤ s.length := by
      match ts, hs with
      | [], _ => simp [cutT]
      | [t], _ => simp [cutT]
      | t :: u :: r, hs =>
        simp only [cutT]
        split
        · exact scan_text s 0 _ hs t (by simp)
        · simp
    unfold parseT lineT at h
    simp only at h
    split at h
    · cases h; exact hc
    · split at h
      · split at h
        · cases h; exact hc
        · cases h
      · cases h
theorem bs_str (l : List UInt8) : bs (str l) = l := by simp [bs, str]
set_option maxHeartbeats 4000000 in
theorem take_bad (b : Nat) (n : Int) (s : List UInt8) (hs : s.length ≤ 65536) (p : Nat) (h : parseL s = .error p) (w : World) :
    Calls Tryz.prog 35 #[.pointer (some ⟨b, 0, none⟩), .int .i64 n, .string (str s)] w fun e w' => e = .returned (.iface 36 (.int .i64 20)) ∧ Below w.heap.size w w' := by
  have hp := Hid.intro (parse_err (str s) (by rw [show (str s).size = s.length from rfl]; omega) p (by rw [bs_str]; exact h) w)
  go_enter Tryz.func35, Tryz.ntmps35
  go_wp2_with (go_at_call 67; (with_reducible refine (hp.out).mono ?_); rintro e w1 ⟨hb1, rfl⟩)
  all_goals first | omega | skip
  go_ret
  exact ⟨rfl, hb1.alloc hb1.size _⟩
structure TkS (lo : Nat) (w : World) (b m N : Nat) (A : Asm) (pt pd : List (Itm × Value)) (pe : List ((List UInt8 × Lin) × Value)) (tv dv ev av : Value) (L : Ln) (a : Option Addr) (c g : Nat) (W : World) : Prop where
  bel : Below w.heap.size w W
  asm : AsmAt lo W b m N A pt pd pe tv dv ev av
  line : W.heap[g]? = some (.cells #[.string (str L.label), .string (str L.op), .slice a L.args.length c] 133 (0, 0))
  args : ArgsIn g W a L.args
  tab : Tab W
variable {lo b m N : Nat} {w : World} {A : Asm} {pt pd : List (Itm × Value)} {pe : List ((List UInt8 × Lin) × Value)} {tv dv ev av : Value} {L : Ln} {a : Option Addr} {c g : Nat} {W W' : World}
theorem TkS.below (h : TkS lo w b m N A pt pd pe tv dv ev av L a c g W) (hb : Below W.heap.size W W') : TkS lo w b m N A pt pd pe tv dv ev av L a c g W' := by
  have hg := blk_lt h.line
  have hts := h.tab.size
  exact ⟨h.bel.trans (hb.mono h.bel.size), h.asm.below hb, by rw [hb.block g hg]; exact h.line, h.args.below (hb.mono (by omega)), h.tab.below (hb.mono (by omega)) h.tab.size⟩
theorem TkS.cells (h : TkS lo w b m N A pt pd pe tv dv ev av L a c g W) : W.cell? ⟨g, 0, none⟩ = some (.string (str L.label)) ∧ W.cell? ⟨g, 1, none⟩ = some (.string (str L.op)) ∧ W.cell? ⟨g, 2, none⟩ = some (.slice a L.args.length c) ∧ W.cell? ⟨b, 4, none⟩ = some (.int .i64 A.sec) :=
  ⟨(cell_blockT h.line 0).trans rfl, (cell_blockT h.line 1).trans rfl, (cell_blockT h.line 2).trans rfl, (h.asm.cell 4).trans rfl⟩
theorem tks_new (h : AsmAt lo w b m N A pt pd pe tv dv ev av) (hT : Tab w) {w1 : World} (hb : Below w.heap.size w w1) {vs : List Value} {k : Nat} (hA : ArgsOwn 182 188 w.heap.size w1 (.slice a L.args.length c) L.args vs k) (hS : ∀ xs ∈ L.args, SmallP xs) :
    TkS lo w b m N A pt pd pe tv dv ev av L a c w1.heap.size (w1.alloc (.cells #[.string (str L.label), .string (str L.op), .slice a L.args.length c] 133)) := by
  have hb2 := below_alloc w1 (.cells #[.string (str L.label), .string (str L.op), .slice a L.args.length c] 133)
  have h1 := hb.size
  have h2 := hT.size
  exact ⟨hb.trans (hb2.mono h1), (h.below hb).below hb2, heap_alloc_new w1 _, (args_in9 hA hS).below hb2, (hT.below (hb.mono (by omega)) hT.size).below (hb2.mono (by omega)) (by omega)⟩
set_option maxHeartbeats 4000000 in
theorem take_illegal (h : AsmAt lo w b m N A pt pd pe tv dv ev av) (n : Int) (s : List UInt8) (hs : s.length ≤ 65536) (hL : parseL s = .ok L) (h0 : L.label ≠ []) (hl : legB (str L.label) = false) :
    Calls Tryz.prog 35 #[.pointer (some ⟨b, 0, none⟩), .int .i64 n, .string (str s)] w fun e w' => e = .returned (.iface 36 (.int .i64 21)) ∧ Below w.heap.size w w' := by
  have hp := Hid.intro (parse_line (str s) (by rw [show (str s).size = s.length from rfl]; omega) L (by rw [bs_str]; exact hL) w)
  have hll := parseL_label hL
  have hleg := Hid.intro (fun w1 => legal_any (str L.label) (by rw [show (str L.label).size = L.label.length from rfl]; omega) w1)
  rw [hl] at hleg
  have e1 := str_toList L.label
  have e2 : L.label.isEmpty = false := by simp [h0]
  clear h hL
  go_enter Tryz.func35, Tryz.ntmps35
  go_wp2_with (first | (go_at_call 67; (with_reducible refine (hp.out).mono ?_); rintro e w1 ⟨hb1, a, c, vs, k, rfl, hA⟩) | (go_at_call 68; (with_reducible refine (hleg.out _).mono ?_); rintro e w2 ⟨rfl, hb2⟩))
  all_goals first | omega | skip
  go_ret
  exact ⟨rfl, (hb1.alloc hb1.size _).trans (hb2.mono (by have := hb1.size; simp; omega))⟩
end Go.Proofs.YtogkchgjpflmjaaGreatDoor

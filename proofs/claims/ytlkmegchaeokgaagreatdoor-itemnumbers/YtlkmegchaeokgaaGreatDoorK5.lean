/- The law's same, of nothing. -/
import Derived.Test.YtlkmegchaeokgaaGreatDoorR5
import Derived.Test.YtlkmegchaeokgaaGreatDoorRefLn
/- Lines that are read for the law: their arguments in memory. -/
namespace Go.Proofs.YtlkmegchaeokgaaGreatDoor
open Go.ChangeShapes Go.WideShapes Go.ChangeAt Go.RowKit
set_option linter.unusedVariables false
set_option maxRecDepth 100000
structure Small (xs : List Tok) : Prop where
 few : xs.length <= 1000
 short : ∀ t ∈ xs, t.text.length <= 1000000
 nums : ∀ t ∈ xs, 0 <= t.num /\ t.num < 4294967296
 any : xs ≠ []
theorem tokLies_from {w : World} {a : Option Addr} {ts : List Tok} (h : TokLies w a ts) : TokFrom w a ts := by
 rcases h with h | ⟨g, ha, hg, hl⟩
 ·exact .inl h
 ·refine .inr ⟨g, 0, ha, hg, fun i t hi => ?_⟩
  obtain ⟨h0, h1, h2, h3⟩ := hl i t hi
  rw [Nat.zero_add]
  exact ⟨h0, h1, h2, h3⟩
theorem tokLies_tlies {w : World} {a : Option Addr} {ts : List Tok} (h : TokLies w a ts) : TLies w a ts := by
 rcases h with h | ⟨g, ha, hg, hl⟩
 ·exact .inl h
 ·refine .inr ⟨g, 0, ha, fun i t hi => ?_⟩
  obtain ⟨h0, h1, h2, h3⟩ := hl i t hi
  rw [Nat.zero_add]
  exact ⟨h0, h1, h2, h3⟩
theorem args_in {lo : Nat} {w : World} {a : Option Addr} {n c : Nat} {acc : List (List Tok)} {vs : List Value} {m : Nat} (h : ArgsOwn 55 64 lo w (.slice a n c) acc vs m) (hS : ∀ xs ∈ acc, Small xs) : ArgsIn w.heap.size w a acc := by
 refine ⟨?_, Nat.le_refl _⟩
 cases acc with
 | nil => exact .inl rfl
 | cons x0 acc =>
  have hl := h.len
  have hrow := h.row
  obtain ⟨hl', ⟨hv, h0⟩ | ⟨g, cap, cur, hv, hbg, hg, hle, hcap, hsz, htk⟩⟩ := h.row
  ·rw [hl] at h0; simp at h0
  ·injection hv with hv1 hv2 hv3
   subst hv1
   refine .inr ⟨g, rfl, (Array.getElem?_eq_some_iff.1 hg).1, fun i xs hi => ?_⟩
   have hi' : i < vs.length := by rw [hl]; exact (List.getElem?_eq_some_iff.1 hi).1
   obtain ⟨v, hv⟩ : ∃ v, vs[i]? = some v := ⟨vs[i], List.getElem?_eq_getElem hi'⟩
   obtain ⟨hx0, ho⟩ := h.each i v xs hv hi
   rw [hv2] at hrow
   have hcell := hrow.cellAt i (by omega)
   rw [hv] at hcell
   have hsm := hS xs (List.mem_of_getElem? hi)
   have hfw := hsm.few
   obtain ⟨a', c', rfl, hl2⟩ := own_lies ho
   rcases ho.2 with ⟨hvv, hh0⟩ | ⟨g', cap', cur', hvv, hB, hgh, hle', hcap', _⟩
   ·exact absurd hh0 hx0
   ·injection hvv with e1 e2 e3
    subst e1 e3
    have hgl := (Array.getElem?_eq_some_iff.1 hgh).1
    exact ⟨_, _, hcell, ⟨tokLies_from hl2, fun y hy => by cases hy; exact hgl, hle', by unfold maxLen at hcap'; omega, by omega, hsm.short⟩, fun y hy => by cases hy; exact hgl⟩
theorem rargs_in {w : World} {a : Option Addr} {acc : List (List Tok)} (h : ArgsLie w a acc) (hS : ∀ xs ∈ acc, Small xs) : RArgsIn w.heap.size w a acc := by
 refine ⟨?_, Nat.le_refl _⟩
 rcases h with h | ⟨G, ha, hG, hl⟩
 ·exact .inl h
 ·refine .inr ⟨G, ha, hG, fun i xs hi => ?_⟩
  obtain ⟨a', c', k1, k2, kc⟩ := hl i xs hi
  have hsm := hS xs (List.mem_of_getElem? hi)
  have hx := hsm.any
  ·have hold : ∀ y, a' = some y -> y.block < w.heap.size := by
    rcases k2 with k | ⟨g, ha', hg', _⟩
    ·exact absurd k hx
    ·intro y hy; rw [ha'] at hy; cases hy; exact hg'
   exact ⟨a', c', k1, ⟨tokLies_tlies k2, hold, hsm.few, hsm.short, hsm.nums⟩, hold, kc⟩
end Go.Proofs.YtlkmegchaeokgaaGreatDoor
/- A line that both parse. -/
namespace Go.Proofs.YtlkmegchaeokgaaGreatDoor
open Go.ChangeShapes Go.WideShapes Go.ChangeAt Go.RowKit
set_option linter.unusedVariables false
set_option maxRecDepth 100000
structure Lined (s : ByteArray) (L : Ln) : Prop where
 prog : ∀ w, Calls Tryz.prog 16 #[.string s] w fun e w' => Below w.heap.size w w' /\ ∃ a c, e = .returned (.tuple #[.agg #[.string (str L.label), .string (str L.op), .slice a L.args.length c], .int .i64 0, .int .i64 0]) /\ ArgsIn w'.heap.size w' a L.args
 doc : ∀ w, Calls Tryz.prog 28 #[.string s] w fun e w' => Below w.heap.size w w' /\ ∃ a c, e = .returned (.tuple #[.agg #[.string (str L.label), .string (str L.op), .slice a L.args.length c], .int .i64 0, .int .i64 0]) /\ RArgsIn w'.heap.size w' a L.args
end Go.Proofs.YtlkmegchaeokgaaGreatDoor
/- The law's read: its state. -/
namespace Go.Proofs.YtlkmegchaeokgaaGreatDoor
open Go.ChangeShapes Go.WideShapes Go.ChangeAt Go.RowKit
set_option linter.unusedVariables false
set_option maxRecDepth 100000
structure KSt (w wr : World) : Prop where
 bel : Below w.heap.size w wr
 r1 : wr.heap[w.heap.size]? = some (.cells zero6 37 (0, 0))
 r2 : wr.heap[w.heap.size + 1]? = some (.cells zero6 38 (0, 0))
 tab : Tab wr
theorem KSt.below {w wr w' : World} (h : KSt w wr) (hb : Below wr.heap.size wr w') : KSt w w' :=
 ⟨h.bel.trans (hb.mono h.bel.size), by rw [hb.block _ (blk_lt h.r1)]; exact h.r1, by rw [hb.block _ (blk_lt h.r2)]; exact h.r2, h.tab.below hb h.tab.size⟩
theorem kst_new {w : World} (hT : Tab w) : KSt w ((w.alloc (.cells zero6 37)).alloc (.cells zero6 38)) := by
 have hs : (w.alloc (.cells zero6 37)).heap.size = w.heap.size + 1 := by simp
 refine ⟨(below_alloc w _).alloc (by simp) _, ?_, ?_, (hT.alloc _).alloc _⟩
 ·rw [Below.heap_alloc _ _ _ (by omega)]
  exact heap_alloc_new w _
 ·rw [<- hs]
  exact heap_alloc_new _ _
abbrev lineO (T : TypeId) (L : Ln) (a : Option Addr) (n c : Nat) : Obj := .cells #[.string (str L.label), .string (str L.op), .slice a n c] T
structure KLn (w : World) (L : Ln) (a : Option Addr) (c g : Nat) (a2 : Option Addr) (c2 g2 : Nat) (wr : World) : Prop where
 st : KSt w wr
 l1 : wr.heap[g]? = some (.cells #[.string (str L.label), .string (str L.op), .slice a L.args.length c] 49 (0, 0))
 l2 : wr.heap[g2]? = some (.cells #[.string (str L.label), .string (str L.op), .slice a2 L.args.length c2] 71 (0, 0))
 a1 : ArgsIn wr.heap.size wr a L.args
 a2 : RArgsIn wr.heap.size wr a2 L.args
theorem KLn.below {w : World} {L : Ln} {a : Option Addr} {c g : Nat} {a2 : Option Addr} {c2 g2 : Nat} {wr w' : World} (h : KLn w L a c g a2 c2 g2 wr) (hb : Below wr.heap.size wr w') : KLn w L a c g a2 c2 g2 w' :=
 ⟨h.st.below hb, by rw [hb.block _ (blk_lt h.l1)]; exact h.l1, by rw [hb.block _ (blk_lt h.l2)]; exact h.l2, (h.a1.below hb).mono hb.size (Nat.le_refl _), rargs_mono (h.a2.below hb) hb.size (Nat.le_refl _)⟩
theorem kln_new {w w0 w1 w2 : World} {L : Ln} {a a2 : Option Addr} {c c2 : Nat} (hS : KSt w w0) (hb1 : Below w0.heap.size w0 w1) (hA1 : ArgsIn w1.heap.size w1 a L.args) (hb2 : Below (w1.alloc (lineO 49 L a L.args.length c)).heap.size (w1.alloc (lineO 49 L a L.args.length c)) w2) (hA2 : RArgsIn w2.heap.size w2 a2 L.args) :
  KLn w L a c w1.heap.size a2 c2 w2.heap.size (w2.alloc (lineO 71 L a2 L.args.length c2)) := by
 have hs1 : (w1.alloc (lineO 49 L a L.args.length c)).heap.size = w1.heap.size + 1 := by simp
 have hs2 := hb2.size
 have hb12 : Below w1.heap.size w1 w2 := (below_alloc w1 _).trans (hb2.mono (by omega))
 have hb3 := below_alloc w2 (lineO 71 L a2 L.args.length c2)
 have hs3 : (w2.alloc (lineO 71 L a2 L.args.length c2)).heap.size = w2.heap.size + 1 := by simp
 refine ⟨((hS.below hb1).below hb12).below hb3, ?_, heap_alloc_new w2 _, ?_, ?_⟩
 ·rw [Below.heap_alloc _ _ _ (by omega), hb2.block _ (by omega)]
  exact heap_alloc_new w1 _
 ·exact ((hA1.below hb12).below (hb3.mono (by omega))).mono (by omega) (by omega)
 ·exact rargs_mono (hA2.below hb3) (by omega) (by omega)
theorem lie_slice {w : World} {vi : Value} {l : List Itm} (h : ItemsLie w vi l) : ∃ ai ni ci, vi = .slice ai ni ci := by
 rcases h with ⟨_, h⟩ | ⟨q, c, h, _⟩ <;> exact ⟨_, _, _, h⟩
end Go.Proofs.YtlkmegchaeokgaaGreatDoor
namespace Go.Proofs.YtlkmegchaeokgaaGreatDoor
open Go.ChangeShapes Go.WideShapes Go.ChangeAt Go.RowKit
set_option linter.unusedVariables false
set_option maxRecDepth 100000
theorem sameItems_nil (w : World) : Calls Tryz.prog 30 #[.slice none 0 0, .slice none 0 0] w fun e w' => e = .returned (.bool true) /\ w' = w := by
 go_enter Tryz.func30, Tryz.ntmps30
 go_wp2
 go_loopw [5] (fun v5 wr => v5 = .int .i64 0 /\ wr = w) (fun v5 wr => 0)
 case atStart => exact ⟨rfl, rfl⟩
 case round =>
  obtain ⟨rfl, rfl⟩ := hrel
  go_wp2
  all_goals first | omega | skip
  go_ret
  exact ⟨rfl, rfl⟩
theorem two_rows (w : World) (A C : Array Value) (T1 T2 : TypeId) : ((w.alloc (.cells A T1)).alloc (.cells C T2)).heap[w.heap.size]? = some (.cells A T1 (0, 0)) /\ ((w.alloc (.cells A T1)).alloc (.cells C T2)).heap[w.heap.size + 1]? = some (.cells C T2 (0, 0)) := by
 have hs : (w.alloc (.cells A T1)).heap.size = w.heap.size + 1 := by simp
 refine ⟨?_, ?_⟩
 ·rw [Below.heap_alloc _ _ _ (by omega)]
  exact heap_alloc_new w _
 ·rw [<- hs]
  exact heap_alloc_new _ _
abbrev zs6 : Array Value := #[.int .i64 0, .slice none 0 0, .string (str []), .slice none 0 0, .int .u32 0, .int .i64 0]
theorem sameZ (w : World) : Calls Tryz.prog 13 #[thgZ, thgZ] w fun e w' => e = .returned (.bool true) /\ Below w.heap.size w w' := by
 have h31 : Hid (∀ w, Calls Tryz.prog 31 #[.agg #[.slice none 0 0, .int .u32 0], .agg #[.slice none 0 0, .int .u32 0]] w fun e w' => e = .returned (.bool true) /\ Below w.heap.size w w') := fun w => refSame_any none none 0 0 [] [] 0 0 w (TmLies.nil _ _) (TmLies.nil _ _) (by simp) (by simp)
 have h30 := Hid.intro sameItems_nil
 go_enter Tryz.func13, Tryz.ntmps13
 go_wp2_with (first | (go_at_call 30; (with_reducible refine (h30.out _).mono ?_); rintro e w1 ⟨rfl, hw1⟩; subst hw1) | (go_at_call 31; (with_reducible refine (h31.out _).mono ?_); rintro e w2 ⟨rfl, hb2⟩; have z5 : w2.cell? ⟨w.heap.size, 5, none⟩ = some (.int .i64 0) := (cell_blockT (show w2.heap[w.heap.size]? = some (.cells zs6 37 (0, 0)) from by rw [hb2.block _ (by simp; omega)]; exact (two_rows w zs6 zs6 37 38).1) 5).trans rfl; have y5 : w2.cell? ⟨w.heap.size + 1, 5, none⟩ = some (.int .i64 0) := (cell_blockT (show w2.heap[w.heap.size + 1]? = some (.cells zs6 38 (0, 0)) from by rw [hb2.block _ (by simp)]; exact (two_rows w zs6 zs6 37 38).2) 5).trans rfl))
 all_goals first | omega | skip
 go_ret
 exact ⟨rfl, ((below_alloc w _).alloc (by simp) _).trans (hb2.mono (by simp; omega))⟩
end Go.Proofs.YtlkmegchaeokgaaGreatDoor

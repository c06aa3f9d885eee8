/- line.arguments. -/
import Derived.Test.YtdmhdhmclcogoaaArgsO
namespace Go.Proofs.Ytdmhdhmclcogoaa
open Go.ChangeShapes Go.WideShapes Go.ChangeAt Go.RowKit
set_option linter.unusedVariables false
set_option maxRecDepth 100000

theorem Try.info45 : (Try.prog.info? 45).map (fun i => (i.zero, i.size, i.bytes)) = some (some (.slice none 0 0), 1, 24) := by kernel_rfl

/-- a token's block -/
abbrev tokO (t : Tok) : Obj := .cells #[.int .i64 t.kind, .string (str t.text), .int .u32 t.num, .int .i64 (t.place : Int)] 48

theorem box_new (w : World) (t : Tok) : TokOff (w.alloc (tokO t)) w.heap.size 0 t := by
  have key : ∀ k, (w.alloc (tokO t)).cell? ⟨w.heap.size, k, none⟩ = (#[Value.int .i64 t.kind, .string (str t.text), .int .u32 t.num, .int .i64 (t.place : Int)] : Array Value)[k]? := fun k => by
    rw [cell_of_row _ _ _ _ 48 (0, 0) (heap_alloc_new w _)]
  exact ⟨key 0, key 1, key 2, key 3⟩

theorem box_below {w w1 : World} {t : Tok} (hb : Below (w.alloc (tokO t)).heap.size (w.alloc (tokO t)) w1) : TokOff w1 w.heap.size 0 t := (box_new w t).below hb (by simp)

theorem alloc_lt {w w1 : World} {o : Obj} (hb : Below (w.alloc o).heap.size (w.alloc o) w1) : w.heap.size < w1.heap.size := by
  have := hb.size
  simp at this
  omega

theorem one_below {w w1 : World} {o : Obj} (hb : Below (w.alloc o).heap.size (w.alloc o) w1) : Below w.heap.size w w1 := (below_alloc w o).trans (hb.mono (by simp))

theorem two_below {w w1 w2 : World} {o : Obj} (hb : Below (w.alloc o).heap.size (w.alloc o) w1) (hb2 : Below w1.heap.size w1 w2) : Below w.heap.size w w2 := (one_below hb).trans (hb2.mono (one_below hb).size)

/-- where arguments stands -/
structure ASt (ts : List Tok) (e : Nat) (w0 : World) (R : Except Nat (List (List Tok))) (i : Nat) (arg : List Tok) (acc : List (List Tok)) (va v : Value) (vs : List Value) (m : Nat) (w : World) : Prop where
  le : i ≤ ts.length
  few : arg.length ≤ i
  fewA : acc.length ≤ i
  eq : R = argsF e (ts.drop i) arg acc
  own : w.ownsRow m 48 4 v arg.length (rowOf arg)
  args : ArgsOwn 45 48 w0.heap.size w va acc vs m
  lo : w0.heap.size ≤ m
  bel : Below w0.heap.size w0 w

def AOut (B : Nat) (w0 : World) (R : Except Nat (List (List Tok))) (e : Ending) (w' : World) : Prop := Below B w0 w' ∧
  match R with
  | .ok acc => ∃ va vs m, e = .returned (.tuple #[va, .int .i64 0, .int .i64 0]) ∧ ArgsOwn 45 48 B w' va acc vs m
  | .error p => e = .returned (.tuple #[.slice none 0 0, .int .i64 (p : Int), .int .i64 20])

theorem own_slice {w : World} {lo : Nat} {T : TypeId} {sz : Nat} {v : Value} {n : Nat} {xs : List Value} (h : w.ownsRow lo T sz v n xs) : ∃ a c, v = .slice a n c := by
  obtain ⟨hl, ⟨hv, h0⟩ | ⟨g, cap, cur, hv, r⟩⟩ := h
  · exact ⟨none, 0, by rw [hv, h0]⟩
  · exact ⟨_, cap, hv⟩

theorem drop_at {α : Type} (ts : List α) (i : Nat) (t : α) (h : ts[i]? = some t) : ts.drop i = t :: ts.drop (i + 1) := by
  obtain ⟨hi, he⟩ := List.getElem?_eq_some_iff.1 h
  rw [List.drop_eq_getElem_cons hi, he]

theorem ast_more {ts : List Tok} {e : Nat} {w0 : World} {R : Except Nat (List (List Tok))} {i : Nat} {arg : List Tok} {acc : List (List Tok)} {va v : Value} {vs : List Value} {m : Nat} {w : World} (h : ASt ts e w0 R i arg acc va v vs m w)
    (t : Tok) (ht : ts[i]? = some t) (h1 : isS t 58 = false) (h2 : isS t 44 = false) (w2 w3 : World) (v2 : Value) (o : Obj) (hb : Below w.heap.size w w2) (hg : (w2.alloc o).grownBy w3 v.ownBlock)
    (ho : w3.ownsRow m 48 4 v2 (arg.length + 1) (rowOf arg ++ t.cells)) : ASt ts e w0 R (i + 1) (arg ++ [t]) acc va v2 vs m w3 := by
  have hi := (List.getElem?_eq_some_iff.1 ht).1
  have hf := h.few
  have hfA := h.fewA
  have hsz := h.bel.size
  have hb' := hb.size
  have hlo := h.lo
  have hm := h.args.le
  refine ⟨by omega, by simp; omega, by omega, ?_, ?_, ?_, h.lo, ?_⟩
  · rw [h.eq, drop_at ts i t ht, argsF_more _ _ _ _ _ h1 h2]
  · rw [rowOf_push, List.length_append]
    exact ho
  · exact ((h.args.below hb).below (below_alloc w2 o)).arg (by decide) ((ownsRow_below h.own hb).alloc o) hg
  · exact ((h.bel.trans (hb.mono (by omega))).alloc (by omega) o).grown hg (by simp; omega) (fun k hk => by have := (h.own.lt k hk).1; omega)

theorem ast_comma {ts : List Tok} {e : Nat} {w0 : World} {R : Except Nat (List (List Tok))} {i : Nat} {arg : List Tok} {acc : List (List Tok)} {va v : Value} {vs : List Value} {m : Nat} {w : World} (h : ASt ts e w0 R i arg acc va v vs m w)
    (t : Tok) (ht : ts[i]? = some t) (h1 : isS t 58 = false) (h2 : isS t 44 = true) (h0 : arg.length ≠ 0) (w2 w3 : World) (va2 : Value) (o : Obj) (hb : Below w.heap.size w w2) (hg : (w2.alloc o).grownBy w3 va.ownBlock)
    (ho : w3.ownsRow w0.heap.size 45 1 va2 (vs.length + 1) (vs ++ [v])) : ASt ts e w0 R (i + 1) [] (acc ++ [arg]) va2 (.slice none 0 0) (vs ++ [v]) w3.heap.size w3 := by
  have hi := (List.getElem?_eq_some_iff.1 ht).1
  have hf := h.few
  have hfA := h.fewA
  have hsz := h.bel.size
  have hb' := hb.size
  have hlo := h.lo
  have hm := h.args.le
  have hg' := hg.size
  simp at hg'
  refine ⟨by omega, by simp, by simp; omega, ?_, World.ownsRow_nil _ _ _ _, ?_, by omega, ?_⟩
  · rw [h.eq, drop_at ts i t ht, argsF_comma _ _ _ _ _ h1 h2 h0]
  · exact ((h.args.below hb).below (below_alloc w2 o)).push (by decide) h.lo h0 ((ownsRow_below h.own hb).alloc o) hg ho
  · exact ((h.bel.trans (hb.mono (by omega))).alloc (by omega) o).grown hg (by simp; omega) (fun k hk => (h.args.row.lt k hk).1)

theorem ast_end {ts : List Tok} {e : Nat} {w0 : World} {R : Except Nat (List (List Tok))} {arg : List Tok} {acc : List (List Tok)} {va v : Value} {vs : List Value} {m : Nat} {w : World} (h : ASt ts e w0 R ts.length arg acc va v vs m w)
    (h0 : arg.length ≠ 0) (w3 : World) (va2 : Value) (o : Obj) (hg : (w.alloc o).grownBy w3 va.ownBlock) (ho : w3.ownsRow w0.heap.size 45 1 va2 (vs.length + 1) (vs ++ [v])) :
    AOut w0.heap.size w0 R (.returned (.tuple #[va2, .int .i64 0, .int .i64 0])) w3 := by
  have hsz := h.bel.size
  have hm := h.args.le
  have hR : R = .ok (acc ++ [arg]) := by rw [h.eq, List.drop_length, argsF, if_neg h0]
  rw [hR]
  refine ⟨(h.bel.alloc (by omega) o).grown hg (by simp; omega) (fun k hk => (h.args.row.lt k hk).1), va2, vs ++ [v], w3.heap.size, rfl, ?_⟩
  exact (h.args.below (below_alloc w o)).push (by decide) h.lo h0 (h.own.alloc o) hg ho
end Go.Proofs.Ytdmhdhmclcogoaa

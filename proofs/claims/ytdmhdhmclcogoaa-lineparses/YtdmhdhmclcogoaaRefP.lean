/- The document's Parse: what is known at each step. -/
import Derived.Test.YtdmhdhmclcogoaaRefTok
import Derived.Test.YtdmhdhmclcogoaaSameL
import Derived.Test.YtdmhdhmclcogoaaPlaceM
namespace Go.Proofs.Ytdmhdhmclcogoaa
open Go.ChangeShapes Go.WideShapes Go.ChangeAt Go.RowKit
set_option linter.unusedVariables false
set_option maxRecDepth 100000

theorem Try.info62 : (Try.prog.info? 62).map (fun i => (i.zero, i.size, i.bytes)) = some (some (.slice none 0 0), 1, 24) := by kernel_rfl

theorem refTokens_ok (s : ByteArray) (hs : s.size ≤ 1100000) (ts : List Tok) (h : scan (bs s) 0 = .ok ts) (w : World) :
    Calls Try.prog 26 #[.string s] w fun e w' => Below w.heap.size w w' ∧ ∃ a cap, e = .returned (.tuple #[.slice a ts.length cap, .int .i64 0, .int .i64 0]) ∧ TokLies w' a ts ∧ ∀ x, a = some x → w.heap.size ≤ x.block := by
  have := refTokens_any s hs w
  rw [h] at this
  refine this.mono ?_
  rintro e w' ⟨hb, v, rfl, hown⟩
  have hown' := hown
  obtain ⟨a, cap, rfl, hl⟩ := own_lies hown
  refine ⟨hb, a, cap, rfl, hl, fun x hx => ?_⟩
  subst hx
  exact (hown'.lt x.block rfl).1

theorem refTokens_no (s : ByteArray) (hs : s.size ≤ 1100000) (p : Nat) (h : scan (bs s) 0 = .error p) (w : World) :
    Calls Try.prog 26 #[.string s] w fun e w' => Below w.heap.size w w' ∧ e = .returned (.tuple #[.slice none 0 0, .int .i64 (p : Int), .int .i64 20]) := by
  have := refTokens_any s hs w
  rw [h] at this
  exact this

theorem refSign_b (t : Tok) (c : UInt8) (b : Bool) (h : isS t c = b) (w : World) :
    Calls Try.prog 27 #[tokV t, .string ⟨#[c]⟩] w fun e w' => e = .returned (.bool b) ∧ Below w.heap.size w w' := by
  refine (refSign_any t c w).mono ?_
  rintro e w' ⟨rfl, o, rfl⟩
  exact ⟨by rw [h], below_alloc w o⟩

/-- what the document's Parse answers -/
def RPOut (B : Nat) (w0 : World) (R : Except Nat Ln) (e : Ending) (w' : World) : Prop := Below B w0 w' ∧
  match R with
  | .ok L => ∃ a c, e = .returned (.tuple #[.agg #[.string (str L.label), .string (str L.op), .slice a L.args.length c], .int .i64 0, .int .i64 0]) ∧ ArgsLie w' a L.args
  | .error p => e = .returned (.tuple #[lineZ, .int .i64 (p : Int), .int .i64 20])

def lnR (lab op : List UInt8) : Except Nat (List (List Tok)) → Except Nat Ln
  | .ok xs => .ok ⟨lab, op, xs⟩
  | .error p => .error p

/-- where the document's Parse stands: br its result's block, bo the line's that it builds -/
structure PSt (ts : List Tok) (e : Nat) (w0 : World) (R : Except Nat Ln) (lab op : List UInt8) (g br bo lo i : Nat) (arg : List Tok) (acc : List (List Tok)) (va v : Value) (vs : List Value) (m : Nat) (w : World) : Prop where
  le : i ≤ ts.length
  few : arg.length ≤ i
  fewA : acc.length ≤ i
  eq : R = lnR lab op (argsF e (ts.drop i) arg acc)
  own : w.ownsRow m 69 4 v arg.length (rowOf arg)
  args : ArgsOwn 62 69 lo w va acc vs m
  lom : lo ≤ m
  out : w.heap[bo]? = some (.cells #[.string (str lab), .string (str op), va] 33 (0, 0))
  res : LineCells w br 33
  bor : br < lo ∧ bo < lo ∧ br ≠ bo
  low : w0.heap.size ≤ br ∧ w0.heap.size ≤ bo
  bel : Below w0.heap.size w0 w
  tok : ∀ k t, ts[k]? = some t → TokAt w g k t
  gb : g < lo ∧ g ≠ bo ∧ g ≠ br

/-- a token's block, the document's -/
abbrev tokR (t : Tok) : Obj := .cells #[.int .i64 t.kind, .string (str t.text), .int .u32 t.num, .int .i64 (t.place : Int)] 69

theorem boxR_new (w : World) (t : Tok) : TokOff (w.alloc (tokR t)) w.heap.size 0 t := by
  have key : ∀ k, (w.alloc (tokR t)).cell? ⟨w.heap.size, k, none⟩ = (#[Value.int .i64 t.kind, .string (str t.text), .int .u32 t.num, .int .i64 (t.place : Int)] : Array Value)[k]? := fun k => by
    rw [cell_of_row _ _ _ _ 69 (0, 0) (heap_alloc_new w _)]
  exact ⟨key 0, key 1, key 2, key 3⟩

/-- in a round, behind some calls of sign -/
structure Cur (wr : World) (bo : Nat) (lab op : List UInt8) (va : Value) (t : Tok) (w : World) : Prop where
  bel : Below wr.heap.size wr w
  lt : wr.heap.size < w.heap.size
  box : TokOff w wr.heap.size 0 t
  bolt : bo < wr.heap.size
  out : w.heap[bo]? = some (.cells #[.string (str lab), .string (str op), va] 33 (0, 0))

theorem Cur.step {wr : World} {bo : Nat} {lab op : List UInt8} {va : Value} {t : Tok} {w w2 : World} (h : Cur wr bo lab op va t w) (hb : Below w.heap.size w w2) : Cur wr bo lab op va t w2 :=
  ⟨h.bel.trans (hb.mono h.bel.size), Nat.lt_of_lt_of_le h.lt hb.size, h.box.below hb h.lt, h.bolt, by rw [hb.block bo (by have := h.lt; have := h.bolt; omega)]; exact h.out⟩

theorem Cur.cell {wr : World} {bo : Nat} {lab op : List UInt8} {va : Value} {t : Tok} {w : World} (h : Cur wr bo lab op va t w) : w.cell? ⟨bo, 2, none⟩ = some va := (line_read h.out).2.2

section
variable {ts : List Tok} {e : Nat} {w0 : World} {R : Except Nat Ln} {lab op : List UInt8} {g br bo lo i : Nat} {arg : List Tok} {acc : List (List Tok)} {va v : Value} {vs : List Value} {m : Nat} {w : World}

theorem TokAt.of_block {w w' : World} {g i : Nat} {t : Tok} (h : TokAt w g i t) (hk : w'.heap[g]? = w.heap[g]?) : TokAt w' g i t :=
  ⟨(World.cell?_of_block (a := ⟨g, i * 4, none⟩) hk).trans h.kind, (World.cell?_of_block (a := ⟨g, i * 4 + 1, none⟩) hk).trans h.text, (World.cell?_of_block (a := ⟨g, i * 4 + 2, none⟩) hk).trans h.num, (World.cell?_of_block (a := ⟨g, i * 4 + 3, none⟩) hk).trans h.place⟩

theorem PSt.cur (h : PSt ts e w0 R lab op g br bo lo i arg acc va v vs m w) (t : Tok) : Cur w bo lab op va t (w.alloc (tokR t)) := by
  have hb := (Array.getElem?_eq_some_iff.1 h.out).1
  exact ⟨below_alloc w _, by simp, boxR_new w t, hb, by rw [(below_alloc w (tokR t)).block bo hb]; exact h.out⟩

theorem res_below (h : LineCells w br 33) {w2 : World} (hb : Below w.heap.size w w2) : LineCells w2 br 33 := h.below hb (Array.getElem?_eq_some_iff.1 h.heap).1

theorem pst_more (h : PSt ts e w0 R lab op g br bo lo i arg acc va v vs m w)
    (t : Tok) (ht : ts[i]? = some t) (h1 : isS t 58 = false) (h2 : isS t 44 = false) (w2 w3 : World) (v2 : Value) (o : Obj) (hc : Cur w bo lab op va t w2) (hg : (w2.alloc o).grownBy w3 v.ownBlock)
    (ho : w3.ownsRow m 69 4 v2 (arg.length + 1) (rowOf arg ++ t.cells)) : PSt ts e w0 R lab op g br bo lo (i + 1) (arg ++ [t]) acc va v2 vs m w3 := by
  have hi := (List.getElem?_eq_some_iff.1 ht).1
  have hb := hc.bel
  have hf := h.few
  have hfA := h.fewA
  have hsz := h.bel.size
  have hb' := hb.size
  have hlo := h.lom
  have hm := h.args.le
  obtain ⟨b1, b2, b3⟩ := h.bor
  obtain ⟨l1, l2⟩ := h.low
  have hrow : ∀ k, v.ownBlock = some k → m ≤ k := fun k hk => (h.own.lt k hk).1
  have same : ∀ k, k < lo → w3.heap[k]? = w.heap[k]? := fun k hk => by
    rw [hg.block k (by simp; omega) (fun e => by have := hrow k e.symm; omega), (below_alloc w2 o).block k (by omega), hb.block k (by omega)]
  refine ⟨by omega, by simp; omega, by omega, ?_, ?_, ?_, h.lom, by rw [same bo b2]; exact h.out, lineCells_of (by rw [same br b1]; exact h.res.heap), h.bor, h.low, ?_, fun k x hx => (h.tok k x hx).of_block (same g h.gb.1), h.gb⟩
  · rw [h.eq, drop_at ts i t ht, argsF_more _ _ _ _ _ h1 h2]
  · rw [rowOf_push, List.length_append]
    exact ho
  · exact ((h.args.below hb).below (below_alloc w2 o)).arg (by decide) ((ownsRow_below h.own hb).alloc o) hg
  · exact ((h.bel.trans (hb.mono (by omega))).alloc (by omega) o).grown hg (by simp; omega) (fun k hk => by have := hrow k hk; omega)

theorem out_set {x y z z' : Value} {T : TypeId} (h : w.heap[bo]? = some (.cells #[x, y, z] T (0, 0))) : (w.setCell ⟨bo, 2, none⟩ z').heap[bo]? = some (.cells #[x, y, z'] T (0, 0)) := by
  rw [heap_setCell_same w bo 2 _ T z' h]
  rfl

theorem set_grown (w : World) (b k : Nat) (z : Value) : w.grownBy (w.setCell ⟨b, k, none⟩ z) (some b) :=
  ⟨rfl, rfl, rfl, by simp, fun j hj hne => heap_setCell_other w ⟨b, k, none⟩ j z (fun e => hne (by rw [e]))⟩

theorem pst_comma (h : PSt ts e w0 R lab op g br bo lo i arg acc va v vs m w)
    (t : Tok) (ht : ts[i]? = some t) (h1 : isS t 58 = false) (h2 : isS t 44 = true) (h0 : arg.length ≠ 0) (w2 w3 : World) (va2 : Value) (o : Obj) (hc : Cur w bo lab op va t w2) (hg : (w2.alloc o).grownBy w3 va.ownBlock)
    (ho : w3.ownsRow lo 62 1 va2 (vs.length + 1) (vs ++ [v])) : PSt ts e w0 R lab op g br bo lo (i + 1) [] (acc ++ [arg]) va2 (.slice none 0 0) (vs ++ [v]) w3.heap.size (w3.setCell ⟨bo, 2, none⟩ va2) := by
  have hi := (List.getElem?_eq_some_iff.1 ht).1
  have hb := hc.bel
  have hf := h.few
  have hfA := h.fewA
  have hsz := h.bel.size
  have hb' := hb.size
  have hlo := h.lom
  have hm := h.args.le
  have hg' := hg.size
  simp at hg'
  obtain ⟨b1, b2, b3⟩ := h.bor
  obtain ⟨l1, l2⟩ := h.low
  have hrow : ∀ k, va.ownBlock = some k → lo ≤ k := fun k hk => (h.args.row.lt k hk).1
  have same : ∀ k, k < lo → w3.heap[k]? = w.heap[k]? := fun k hk => by
    rw [hg.block k (by simp; omega) (fun e => by have := hrow k e.symm; omega), (below_alloc w2 o).block k (by omega), hb.block k (by omega)]
  have hA := ((h.args.below hb).below (below_alloc w2 o)).push (by decide) h.lom h0 ((ownsRow_below h.own hb).alloc o) hg ho
  refine ⟨by omega, by simp, by simp; omega, ?_, World.ownsRow_nil _ _ _ _, hA.lower (set_grown w3 bo 2 va2) b2, by omega, out_set (z := va) (by rw [same bo b2]; exact h.out), lineCells_of (by rw [heap_setCell_other _ _ _ _ b3, same br b1]; exact h.res.heap), h.bor, h.low, ?_, fun k x hx => (h.tok k x hx).of_block (by rw [heap_setCell_other _ _ _ _ h.gb.2.1]; exact same g h.gb.1), h.gb⟩
  · rw [h.eq, drop_at ts i t ht, argsF_comma _ _ _ _ _ h1 h2 h0]
  · exact (((h.bel.trans (hb.mono (by omega))).alloc (by omega) o).grown hg (by simp; omega) (fun k hk => by have := hrow k hk; omega)).setCell (p := ⟨bo, 2, none⟩) l2 _

/-- the end: the last argument is put behind, the line handed out -/
theorem pst_end (h : PSt ts e w0 R lab op g br bo lo ts.length arg acc va v vs m w)
    (h0 : arg.length ≠ 0) (w3 : World) (va2 : Value) (o : Obj) (hg : (w.alloc o).grownBy w3 va.ownBlock) (ho : w3.ownsRow lo 62 1 va2 (vs.length + 1) (vs ++ [v])) :
    R = .ok ⟨lab, op, acc ++ [arg]⟩ ∧ (w3.setCell ⟨bo, 2, none⟩ va2).heap[bo]? = some (.cells #[.string (str lab), .string (str op), va2] 33 (0, 0)) ∧ LineCells (w3.setCell ⟨bo, 2, none⟩ va2) br 33 ∧
    ArgsOwn 62 69 lo (w3.setCell ⟨bo, 2, none⟩ va2) va2 (acc ++ [arg]) (vs ++ [v]) w3.heap.size ∧ Below w0.heap.size w0 (w3.setCell ⟨bo, 2, none⟩ va2) ∧ w3.cell? ⟨bo, 2, none⟩ = some va ∧ w3.frozen? ⟨bo, 2, none⟩ = false := by
  have hsz := h.bel.size
  have hm := h.args.le
  have hlo := h.lom
  obtain ⟨b1, b2, b3⟩ := h.bor
  obtain ⟨l1, l2⟩ := h.low
  have hrow : ∀ k, va.ownBlock = some k → lo ≤ k := fun k hk => (h.args.row.lt k hk).1
  have same : ∀ k, k < lo → w3.heap[k]? = w.heap[k]? := fun k hk => by
    rw [hg.block k (by simp; omega) (fun e => by have := hrow k e.symm; omega), (below_alloc w o).block k (by omega)]
  have hA := (h.args.below (below_alloc w o)).push (by decide) h.lom h0 (h.own.alloc o) hg ho
  have hout : w3.heap[bo]? = _ := (same bo b2).trans h.out
  refine ⟨by rw [h.eq, List.drop_length, argsF, if_neg h0]; rfl, out_set hout, lineCells_of (by rw [heap_setCell_other _ _ _ _ b3, same br b1]; exact h.res.heap), hA.lower (set_grown w3 bo 2 va2) b2, ?_, (line_read hout).2.2, frozen_of_row _ _ _ _ _ hout⟩
  exact ((h.bel.alloc (by omega) o).grown hg (by simp; omega) (fun k hk => by have := hrow k hk; omega)).setCell (p := ⟨bo, 2, none⟩) l2 _

theorem cur_out {wr : World} {t : Tok} {w2 w3 : World} {o : Obj} (hc : Cur wr bo lab op va t w2) (hlo : bo < lo) (hva : ∀ k, va.ownBlock = some k → lo ≤ k) (hg : (w2.alloc o).grownBy w3 va.ownBlock) : w3.cell? ⟨bo, 2, none⟩ = some va ∧ w3.frozen? ⟨bo, 2, none⟩ = false := by
  have h1 := hc.lt
  have h2 := hc.bolt
  have hout : w3.heap[bo]? = some (.cells #[.string (str lab), .string (str op), va] 33 (0, 0)) := by
    rw [hg.block bo (by simp; omega) (fun e => by have := hva bo e.symm; omega), (below_alloc w2 o).block bo (by omega)]
    exact hc.out
  exact ⟨(line_read hout).2.2, frozen_of_row _ _ _ _ _ hout⟩

theorem froz {w : World} {g : Nat} {cur : Array Value} {T : TypeId} (h : w.heap[g]? = some (.cells cur T (0, 0))) : (∀ o, (w.alloc o).frozen? ⟨g, 0, none⟩ = false) ∧ (∀ o, (w.alloc o).frozen? ⟨g, 1, none⟩ = false) ∧ (∀ o, (w.alloc o).frozen? ⟨g, 2, none⟩ = false) := by
  have hg := (Array.getElem?_eq_some_iff.1 h).1
  have key : ∀ o, (w.alloc o).heap[g]? = some (.cells cur T (0, 0)) := fun o => ((below_alloc w o).block g hg).trans h
  exact ⟨fun o => frozen_of_row _ _ _ _ _ (key o), fun o => frozen_of_row _ _ _ _ _ (key o), fun o => frozen_of_row _ _ _ _ _ (key o)⟩

abbrev resO : Obj := .cells #[.string ⟨#[]⟩, .string ⟨#[]⟩, .slice none 0 0] 33

theorem pst_start {w w1 w2 wS : World} (hb1 : Below (w.alloc resO).heap.size (w.alloc resO) w1) (hb2 : Below (w1.alloc resO).heap.size (w1.alloc resO) w2)
    (hS : wS.heap[w1.heap.size]? = some (.cells #[.string (str lab), .string (str op), .slice none 0 0] 33 (0, 0))) (hg : w2.grownBy wS (some w1.heap.size)) (k : Nat) (hk : k ≤ ts.length) (hgl : w.heap.size < g) (hg1 : g < w1.heap.size)
    (ht : ∀ k t, ts[k]? = some t → TokAt w1 g k t) (heq : R = lnR lab op (argsF e (ts.drop k) [] [])) :
    PSt ts e w R lab op g w.heap.size w1.heap.size (w1.heap.size + 1) k [] [] (.slice none 0 0) (.slice none 0 0) [] wS.heap.size wS := by
  have h1 := alloc_lt hb1
  have h2 := alloc_lt hb2
  have h3 := hg.size
  have same : ∀ j, j < w1.heap.size → wS.heap[j]? = w1.heap[j]? := fun j hj => by
    rw [hg.block j (by omega) (by simp; omega), (one_below hb2).block j hj]
  refine ⟨hk, by simp, by simp, heq, World.ownsRow_nil _ _ _ _, ArgsOwn.start _ _ _ _ _ (Nat.le_refl _), by omega, hS, lineCells_of (by rw [same w.heap.size h1]; exact (lineCells_below hb1).heap), ⟨by omega, by omega, by omega⟩, ⟨Nat.le_refl _, by omega⟩, ?_, fun j t hj => (ht j t hj).of_block (same g hg1), ⟨by omega, by omega, by omega⟩⟩
  have hbb := (one_below hb1).trans ((one_below hb2).mono (by omega))
  exact hbb.grown hg hbb.size (fun j hj => by cases hj; omega)

theorem alloc_heap {w : World} {g : Nat} {x : Obj} (h : w.heap[g]? = some x) (o : Obj) : (w.alloc o).heap[g]? = some x := ((below_alloc w o).block g (Array.getElem?_eq_some_iff.1 h).1).trans h

/-- the result's cells while the line is the newest block -/
theorem resFacts {w w1 : World} (hb1 : Below (w.alloc resO).heap.size (w.alloc resO) w1) :
    ((∀ o, (w1.alloc o).cell? ⟨w.heap.size, 0, none⟩ = some (.string ⟨#[]⟩)) ∧ (∀ o, (w1.alloc o).cell? ⟨w.heap.size, 1, none⟩ = some (.string ⟨#[]⟩)) ∧ (∀ o, (w1.alloc o).cell? ⟨w.heap.size, 2, none⟩ = some (.slice none 0 0))) ∧
    (∀ o, (w1.alloc o).frozen? ⟨w.heap.size, 0, none⟩ = false) ∧ (∀ o, (w1.alloc o).frozen? ⟨w.heap.size, 1, none⟩ = false) ∧ (∀ o, (w1.alloc o).frozen? ⟨w.heap.size, 2, none⟩ = false) :=
  ⟨⟨fun o => cellA (lineCells_below hb1).c0 o, fun o => cellA (lineCells_below hb1).c1 o, fun o => cellA (lineCells_below hb1).c2 o⟩, froz (lineCells_below hb1).heap⟩

theorem one_tok {w : World} {a : Option Addr} {t : Tok} {r : List Tok} (h : TokLies w a (t :: r)) : ∃ g, a = some ⟨g, 0, none⟩ ∧ g < w.heap.size ∧ w.cell? ⟨g, 0, none⟩ = some (.int .i64 t.kind) ∧ w.cell? ⟨g, 1, none⟩ = some (.string (str t.text)) ∧ w.cell? ⟨g, 2, none⟩ = some (.int .u32 t.num) ∧ w.cell? ⟨g, 3, none⟩ = some (.int .i64 (t.place : Int)) := by
  rcases h with h | ⟨g, ha, hg, h⟩
  · cases h
  · obtain ⟨k0, k1, k2, k3⟩ := h 0 t rfl
    simp only [Nat.zero_mul, Nat.zero_add] at k0 k1 k2 k3
    exact ⟨g, ha, hg, k0, k1, k2, k3⟩

theorem toks_of {w : World} {a : Option Addr} {t : Tok} {r : List Tok} (h : TokLies w a (t :: r)) : ∃ g, a = some ⟨g, 0, none⟩ ∧ g < w.heap.size ∧ ∀ i x, (t :: r)[i]? = some x → TokAt w g i x := by
  rcases h with h | h
  · cases h
  · exact h
end
end Go.Proofs.Ytdmhdhmclcogoaa

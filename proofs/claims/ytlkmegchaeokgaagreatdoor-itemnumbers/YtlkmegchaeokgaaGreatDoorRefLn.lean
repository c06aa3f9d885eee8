/- The document's Parse, whole. -/
import Derived.Test.YtlkmegchaeokgaaGreatDoorRefTok
import Derived.Test.YtlkmegchaeokgaaGreatDoorSameL
/- The tokens stand where they say, between them are blanks, and with one blank behind each they are read again. -/
namespace Go.Proofs.YtlkmegchaeokgaaGreatDoor
set_option linter.unusedVariables false
end Go.Proofs.YtlkmegchaeokgaaGreatDoor
/- A refusal's place lies in the line. -/
namespace Go.Proofs.YtlkmegchaeokgaaGreatDoor
set_option linter.unusedVariables false
theorem cutT_mem (ts : List Tok) : ∀ t ∈ (cutT ts).2, t ∈ ts := by
 match ts with
 | [] => intro t ht; exact ht
 | [x] => intro t ht; exact ht
 | x :: u :: r =>
  intro t ht
  simp only [cutT] at ht
  split at ht
  ·simp at ht; simp [ht]
  ·exact ht
theorem argsF_few (n : Nat) (ts arg : List Tok) (acc out : List (List Tok)) (h : argsF n ts arg acc = .ok out) : out.length <= acc.length + ts.length + 1 /\ ∀ xs ∈ out, xs ∈ acc ∨ xs.length <= arg.length + ts.length := by
 induction ts generalizing arg acc with
 | nil =>
  unfold argsF at h
  split at h
  ·cases h
  ·cases h
   refine ⟨by simp, fun xs hx => ?_⟩
   rcases List.mem_append.1 hx with hx | hx
   ·exact .inl hx
   ·simp at hx; subst hx; exact .inr (by simp)
 | cons t ts ih =>
  unfold argsF at h
  split at h
  ·cases h
  ·split at h
   ·split at h
    ·cases h
    ·obtain ⟨h1, h2⟩ := ih _ _ h
     refine ⟨by simp at h1 ⊢; omega, fun xs hx => ?_⟩
     rcases h2 xs hx with k | k
     ·rcases List.mem_append.1 k with k | k
      ·exact .inl k
      ·simp at k; subst k; exact .inr (by simp)
     ·exact .inr (by simp at k ⊢; omega)
   ·obtain ⟨h1, h2⟩ := ih _ _ h
    refine ⟨by simp at h1 ⊢; omega, fun xs hx => ?_⟩
    rcases h2 xs hx with k | k
    ·exact .inl k
    ·exact .inr (by simp at k ⊢; omega)
theorem cutT_len (ts : List Tok) : (cutT ts).2.length <= ts.length := by
 match ts with
 | [] => simp [cutT]
 | [t] => simp [cutT]
 | t :: u :: r =>
  simp only [cutT]
  split
  ·simp; omega
  ·simp
theorem parseL_few (s : List UInt8) (L : Ln) (h : parseL s = .ok L) : L.args.length <= s.length + 1 /\ ∀ xs ∈ L.args, xs.length <= s.length := by
 unfold parseL at h
 cases hs : scan s 0 with
 | error q => rw [hs] at h; cases h
 | ok ts =>
  rw [hs] at h
  have hl := scan_len _ _ _ hs
  have hc := cutT_len ts
  unfold parseT lineT at h
  simp only at h
  split at h
  ·cases h
   exact ⟨by simp, fun xs hx => by cases hx⟩
  ·rename_i t r heq
   rw [heq] at hc
   simp at hc
   split at h
   ·split at h
    ·rename_i out hq
     cases h
     unfold argsT at hq
     split at hq
     ·cases hq
      exact ⟨by simp, fun xs hx => by cases hx⟩
     ·obtain ⟨h1, h2⟩ := argsF_few _ _ _ _ _ hq
      refine ⟨by simp at h1 ⊢; omega, fun xs hx => ?_⟩
      rcases h2 xs hx with k | k
      ·cases k
      ·simp at k; omega
    ·cases h
   ·cases h
theorem argsF_mem (n : Nat) (P : Tok -> Prop) (ts arg : List Tok) (acc out : List (List Tok)) (h : argsF n ts arg acc = .ok out) (h1 : ∀ t ∈ ts, P t) (h2 : ∀ t ∈ arg, P t) (h3 : ∀ xs ∈ acc, ∀ t ∈ xs, P t) : ∀ xs ∈ out, ∀ t ∈ xs, P t := by
 induction ts generalizing arg acc with
 | nil =>
  unfold argsF at h
  split at h
  ·cases h
  ·cases h
   intro xs hx
   rcases List.mem_append.1 hx with hx | hx
   ·exact h3 xs hx
   ·simp at hx; subst hx; exact h2
 | cons t ts ih =>
  unfold argsF at h
  have h1' : ∀ x ∈ ts, P x := fun x hx => h1 x (by simp [hx])
  split at h
  ·cases h
  ·split at h
   ·split at h
    ·cases h
    ·refine ih _ _ h h1' (fun x hx => by cases hx) (fun xs hx => ?_)
     rcases List.mem_append.1 hx with hx | hx
     ·exact h3 xs hx
     ·simp at hx; subst hx; exact h2
   ·refine ih _ _ h h1' (fun x hx => ?_) h3
    rcases List.mem_append.1 hx with hx | hx
    ·exact h2 x hx
    ·simp at hx; subst hx; exact h1 x (by simp)
end Go.Proofs.YtlkmegchaeokgaaGreatDoor
/- The document's Parse: what is known at each step. -/
namespace Go.Proofs.YtlkmegchaeokgaaGreatDoor
open Go.ChangeShapes Go.WideShapes Go.ChangeAt Go.RowKit
set_option linter.unusedVariables false
set_option maxRecDepth 100000
theorem Tryz.info100 : (Tryz.prog.info? 100).map (fun i => (i.zero, i.size, i.bytes)) = some (some (.slice none 0 0), 1, 24) := by kernel_rfl
theorem refTokens_ok (s : ByteArray) (hs : s.size <= 1100000) (ts : List Tok) (h : scan (bs s) 0 = .ok ts) (w : World) :
  Calls Tryz.prog 51 #[.string s] w fun e w' => Below w.heap.size w w' /\ ∃ a cap, e = .returned (.tuple #[.slice a ts.length cap, .int .i64 0, .int .i64 0]) /\ TokLies w' a ts /\ ∀ x, a = some x -> w.heap.size <= x.block := by
 have := refTokens_any s hs w
 rw [h] at this
 refine this.mono ?_
 rintro e w' ⟨hb, v, rfl, hown⟩
 have hown' := hown
 obtain ⟨a, cap, rfl, hl⟩ := own_lies hown
 refine ⟨hb, a, cap, rfl, hl, fun x hx => ?_⟩
 subst hx
 exact (hown'.lt x.block rfl).1
theorem refTokens_no (s : ByteArray) (hs : s.size <= 1100000) (p : Nat) (h : scan (bs s) 0 = .error p) (w : World) :
  Calls Tryz.prog 51 #[.string s] w fun e w' => Below w.heap.size w w' /\ e = .returned (.tuple #[.slice none 0 0, .int .i64 (p : Int), .int .i64 20]) := by
 have := refTokens_any s hs w
 rw [h] at this
 exact this
theorem refSign_b (t : Tok) (c : UInt8) (b : Bool) (h : isS t c = b) (w : World) :
  Calls Tryz.prog 52 #[ltokV t, .string ⟨#[c]⟩] w fun e w' => e = .returned (.bool b) /\ Below w.heap.size w w' := by
 refine (refSign_any t c w).mono ?_
 rintro e w' ⟨rfl, o, rfl⟩
 exact ⟨by rw [h], lbelow_alloc w o⟩
def RPOut (B : Nat) (w0 : World) (R : Except Nat Ln) (e : Ending) (w' : World) : Prop := Below B w0 w' /\
 match R with
 | .ok L => ∃ a c, e = .returned (.tuple #[.agg #[.string (str L.label), .string (str L.op), .slice a L.args.length c], .int .i64 0, .int .i64 0]) /\ ArgsLie w' a L.args
 | .error p => e = .returned (.tuple #[lineZ, .int .i64 (p : Int), .int .i64 20])
def lnR (lab op : List UInt8) : Except Nat (List (List Tok)) -> Except Nat Ln
 | .ok xs => .ok ⟨lab, op, xs⟩
 | .error p => .error p
structure LPSt (ts : List Tok) (e : Nat) (w0 : World) (R : Except Nat Ln) (lab op : List UInt8) (g br bo lo i : Nat) (arg : List Tok) (acc : List (List Tok)) (va v : Value) (vs : List Value) (m : Nat) (w : World) : Prop where
 le : i <= ts.length
 few : arg.length <= i
 fewA : acc.length <= i
 eq : R = lnR lab op (argsF e (ts.drop i) arg acc)
 own : w.ownsRow m 103 4 v arg.length (rowOf arg)
 args : ArgsOwn 100 103 lo w va acc vs m
 lom : lo <= m
 out : w.heap[bo]? = some (.cells #[.string (str lab), .string (str op), va] 71 (0, 0))
 res : LineCells w br 71
 bor : br < lo /\ bo < lo /\ br ≠ bo
 low : w0.heap.size <= br /\ w0.heap.size <= bo
 bel : Below w0.heap.size w0 w
 tok : ∀ k t, ts[k]? = some t -> TokAt w g k t
 gb : g < lo /\ g ≠ bo /\ g ≠ br
abbrev tokR (t : Tok) : Obj := .cells #[.int .i64 t.kind, .string (str t.text), .int .u32 t.num, .int .i64 (t.place : Int)] 103
theorem boxR_new (w : World) (t : Tok) : TokOff (w.alloc (tokR t)) w.heap.size 0 t := by
 have key : ∀ k, (w.alloc (tokR t)).cell? ⟨w.heap.size, k, none⟩ = (#[Value.int .i64 t.kind, .string (str t.text), .int .u32 t.num, .int .i64 (t.place : Int)] : Array Value)[k]? := fun k => by
  rw [cell_of_row _ _ _ _ 103 (0, 0) (heap_alloc_new w _)]
 exact ⟨key 0, key 1, key 2, key 3⟩
structure Cur (wr : World) (bo : Nat) (lab op : List UInt8) (va : Value) (t : Tok) (w : World) : Prop where
 bel : Below wr.heap.size wr w
 lt : wr.heap.size < w.heap.size
 box : TokOff w wr.heap.size 0 t
 bolt : bo < wr.heap.size
 out : w.heap[bo]? = some (.cells #[.string (str lab), .string (str op), va] 71 (0, 0))
theorem Cur.step {wr : World} {bo : Nat} {lab op : List UInt8} {va : Value} {t : Tok} {w w2 : World} (h : Cur wr bo lab op va t w) (hb : Below w.heap.size w w2) : Cur wr bo lab op va t w2 :=
 ⟨h.bel.trans (hb.mono h.bel.size), Nat.lt_of_lt_of_le h.lt hb.size, h.box.below hb h.lt, h.bolt, by rw [hb.block bo (by have := h.lt; have := h.bolt; omega)]; exact h.out⟩
theorem Cur.cell {wr : World} {bo : Nat} {lab op : List UInt8} {va : Value} {t : Tok} {w : World} (h : Cur wr bo lab op va t w) : w.cell? ⟨bo, 2, none⟩ = some va := (line_read h.out).2.2
section
variable {ts : List Tok} {e : Nat} {w0 : World} {R : Except Nat Ln} {lab op : List UInt8} {g br bo lo i : Nat} {arg : List Tok} {acc : List (List Tok)} {va v : Value} {vs : List Value} {m : Nat} {w : World}
theorem TokAt.of_block {w w' : World} {g i : Nat} {t : Tok} (h : TokAt w g i t) (hk : w'.heap[g]? = w.heap[g]?) : TokAt w' g i t :=
 ⟨(World.cell?_of_block (a := ⟨g, i * 4, none⟩) hk).trans h.kind, (World.cell?_of_block (a := ⟨g, i * 4 + 1, none⟩) hk).trans h.text, (World.cell?_of_block (a := ⟨g, i * 4 + 2, none⟩) hk).trans h.num, (World.cell?_of_block (a := ⟨g, i * 4 + 3, none⟩) hk).trans h.place⟩
theorem LPSt.cur (h : LPSt ts e w0 R lab op g br bo lo i arg acc va v vs m w) (t : Tok) : Cur w bo lab op va t (w.alloc (tokR t)) := by
 have hb := (Array.getElem?_eq_some_iff.1 h.out).1
 exact ⟨lbelow_alloc w _, by simp, boxR_new w t, hb, by rw [(lbelow_alloc w (tokR t)).block bo hb]; exact h.out⟩
theorem res_below (h : LineCells w br 71) {w2 : World} (hb : Below w.heap.size w w2) : LineCells w2 br 71 := h.below hb (Array.getElem?_eq_some_iff.1 h.heap).1
theorem pst_more (h : LPSt ts e w0 R lab op g br bo lo i arg acc va v vs m w)
  (t : Tok) (ht : ts[i]? = some t) (h1 : isS t 58 = false) (h2 : isS t 44 = false) (w2 w3 : World) (v2 : Value) (o : Obj) (hc : Cur w bo lab op va t w2) (hg : (w2.alloc o).grownBy w3 v.ownBlock)
  (ho : w3.ownsRow m 103 4 v2 (arg.length + 1) (rowOf arg ++ t.cells)) : LPSt ts e w0 R lab op g br bo lo (i + 1) (arg ++ [t]) acc va v2 vs m w3 := by
 have hi := (List.getElem?_eq_some_iff.1 ht).1
 have hb := hc.bel
 have hf := h.few
 have hfA := h.fewA
 have hsz := h.bel.size
 have hb' := hb.size
 have hlo := h.lom
 have hm := h.args.le
 obtain ⟨b1, b2, b3⟩ := h.bor
 obtain ⟨l1, l2⟩ := h.low
 have hrow : ∀ k, v.ownBlock = some k -> m <= k := fun k hk => (h.own.lt k hk).1
 have same : ∀ k, k < lo -> w3.heap[k]? = w.heap[k]? := fun k hk => by
  rw [hg.block k (by simp; omega) (fun e => by have := hrow k e.symm; omega), (lbelow_alloc w2 o).block k (by omega), hb.block k (by omega)]
 refine ⟨by omega, by simp; omega, by omega, ?_, ?_, ?_, h.lom, by rw [same bo b2]; exact h.out, lineCells_of (by rw [same br b1]; exact h.res.heap), h.bor, h.low, ?_, fun k x hx => (h.tok k x hx).of_block (same g h.gb.1), h.gb⟩
 ·rw [h.eq, ldrop_at ts i t ht, argsF_more _ _ _ _ _ h1 h2]
 ·rw [rowOf_push, List.length_append]
  exact ho
 ·exact ((h.args.below hb).below (lbelow_alloc w2 o)).arg (by decide) ((ownsRow_below h.own hb).alloc o) hg
 ·exact ((h.bel.trans (hb.mono (by omega))).alloc (by omega) o).grown hg (by simp; omega) (fun k hk => by have := hrow k hk; omega)
theorem out_set {x y z z' : Value} {T : TypeId} (h : w.heap[bo]? = some (.cells #[x, y, z] T (0, 0))) : (w.setCell ⟨bo, 2, none⟩ z').heap[bo]? = some (.cells #[x, y, z'] T (0, 0)) := by
 rw [heap_setCell_same w bo 2 _ T z' h]
 rfl
theorem set_grown (w : World) (b k : Nat) (z : Value) : w.grownBy (w.setCell ⟨b, k, none⟩ z) (some b) :=
 ⟨rfl, rfl, rfl, by simp, fun j hj hne => heap_setCell_other w ⟨b, k, none⟩ j z (fun e => hne (by rw [e]))⟩
theorem pst_comma (h : LPSt ts e w0 R lab op g br bo lo i arg acc va v vs m w)
  (t : Tok) (ht : ts[i]? = some t) (h1 : isS t 58 = false) (h2 : isS t 44 = true) (h0 : arg.length ≠ 0) (w2 w3 : World) (va2 : Value) (o : Obj) (hc : Cur w bo lab op va t w2) (hg : (w2.alloc o).grownBy w3 va.ownBlock)
  (ho : w3.ownsRow lo 100 1 va2 (vs.length + 1) (vs ++ [v])) : LPSt ts e w0 R lab op g br bo lo (i + 1) [] (acc ++ [arg]) va2 (.slice none 0 0) (vs ++ [v]) w3.heap.size (w3.setCell ⟨bo, 2, none⟩ va2) := by
 have hi := (List.getElem?_eq_some_iff.1 ht).1
 have hb := hc.bel
 have hf := h.few
 have hfA := h.fewA
 have hsz := h.bel.size
 have hb' := hb.size
 have hlo := h.lom
 have hm := h.args.le
 have hg' := hg.size
 simp at hg'
 obtain ⟨b1, b2, b3⟩ := h.bor
 obtain ⟨l1, l2⟩ := h.low
 have hrow : ∀ k, va.ownBlock = some k -> lo <= k := fun k hk => (h.args.row.lt k hk).1
 have same : ∀ k, k < lo -> w3.heap[k]? = w.heap[k]? := fun k hk => by
  rw [hg.block k (by simp; omega) (fun e => by have := hrow k e.symm; omega), (lbelow_alloc w2 o).block k (by omega), hb.block k (by omega)]
 have hA := ((h.args.below hb).below (lbelow_alloc w2 o)).push (by decide) h.lom h0 ((ownsRow_below h.own hb).alloc o) hg ho
 refine ⟨by omega, by simp, by simp; omega, ?_, World.ownsRow_nil _ _ _ _, hA.lower (set_grown w3 bo 2 va2) b2, by omega, out_set (z := va) (by rw [same bo b2]; exact h.out), lineCells_of (by rw [heap_setCell_other _ _ _ _ b3, same br b1]; exact h.res.heap), h.bor, h.low, ?_, fun k x hx => (h.tok k x hx).of_block (by rw [heap_setCell_other _ _ _ _ h.gb.2.1]; exact same g h.gb.1), h.gb⟩
 ·rw [h.eq, ldrop_at ts i t ht, argsF_comma _ _ _ _ _ h1 h2 h0]
 ·exact (((h.bel.trans (hb.mono (by omega))).alloc (by omega) o).grown hg (by simp; omega) (fun k hk => by have := hrow k hk; omega)).setCell (p := ⟨bo, 2, none⟩) l2 _
theorem pst_end (h : LPSt ts e w0 R lab op g br bo lo ts.length arg acc va v vs m w)
  (h0 : arg.length ≠ 0) (w3 : World) (va2 : Value) (o : Obj) (hg : (w.alloc o).grownBy w3 va.ownBlock) (ho : w3.ownsRow lo 100 1 va2 (vs.length + 1) (vs ++ [v])) :
  R = .ok ⟨lab, op, acc ++ [arg]⟩ /\ (w3.setCell ⟨bo, 2, none⟩ va2).heap[bo]? = some (.cells #[.string (str lab), .string (str op), va2] 71 (0, 0)) /\ LineCells (w3.setCell ⟨bo, 2, none⟩ va2) br 71 /\
  ArgsOwn 100 103 lo (w3.setCell ⟨bo, 2, none⟩ va2) va2 (acc ++ [arg]) (vs ++ [v]) w3.heap.size /\ Below w0.heap.size w0 (w3.setCell ⟨bo, 2, none⟩ va2) /\ w3.cell? ⟨bo, 2, none⟩ = some va /\ w3.frozen? ⟨bo, 2, none⟩ = false := by
 have hsz := h.bel.size
 have hm := h.args.le
 have hlo := h.lom
 obtain ⟨b1, b2, b3⟩ := h.bor
 obtain ⟨l1, l2⟩ := h.low
 have hrow : ∀ k, va.ownBlock = some k -> lo <= k := fun k hk => (h.args.row.lt k hk).1
 have same : ∀ k, k < lo -> w3.heap[k]? = w.heap[k]? := fun k hk => by
  rw [hg.block k (by simp; omega) (fun e => by have := hrow k e.symm; omega), (lbelow_alloc w o).block k (by omega)]
 have hA := (h.args.below (lbelow_alloc w o)).push (by decide) h.lom h0 (h.own.alloc o) hg ho
 have hout : w3.heap[bo]? = _ := (same bo b2).trans h.out
 refine ⟨by rw [h.eq, List.drop_length, argsF, if_neg h0]; rfl, out_set hout, lineCells_of (by rw [heap_setCell_other _ _ _ _ b3, same br b1]; exact h.res.heap), hA.lower (set_grown w3 bo 2 va2) b2, ?_, (line_read hout).2.2, frozen_of_row _ _ _ _ _ hout⟩
 exact ((h.bel.alloc (by omega) o).grown hg (by simp; omega) (fun k hk => by have := hrow k hk; omega)).setCell (p := ⟨bo, 2, none⟩) l2 _
theorem cur_out {wr : World} {t : Tok} {w2 w3 : World} {o : Obj} (hc : Cur wr bo lab op va t w2) (hlo : bo < lo) (hva : ∀ k, va.ownBlock = some k -> lo <= k) (hg : (w2.alloc o).grownBy w3 va.ownBlock) : w3.cell? ⟨bo, 2, none⟩ = some va /\ w3.frozen? ⟨bo, 2, none⟩ = false := by
 have h1 := hc.lt
 have h2 := hc.bolt
 have hout : w3.heap[bo]? = some (.cells #[.string (str lab), .string (str op), va] 71 (0, 0)) := by
  rw [hg.block bo (by simp; omega) (fun e => by have := hva bo e.symm; omega), (lbelow_alloc w2 o).block bo (by omega)]
  exact hc.out
 exact ⟨(line_read hout).2.2, frozen_of_row _ _ _ _ _ hout⟩
theorem froz {w : World} {g : Nat} {cur : Array Value} {T : TypeId} (h : w.heap[g]? = some (.cells cur T (0, 0))) : (∀ o, (w.alloc o).frozen? ⟨g, 0, none⟩ = false) /\ (∀ o, (w.alloc o).frozen? ⟨g, 1, none⟩ = false) /\ (∀ o, (w.alloc o).frozen? ⟨g, 2, none⟩ = false) := by
 have hg := (Array.getElem?_eq_some_iff.1 h).1
 have key : ∀ o, (w.alloc o).heap[g]? = some (.cells cur T (0, 0)) := fun o => ((lbelow_alloc w o).block g hg).trans h
 exact ⟨fun o => frozen_of_row _ _ _ _ _ (key o), fun o => frozen_of_row _ _ _ _ _ (key o), fun o => frozen_of_row _ _ _ _ _ (key o)⟩
abbrev resO : Obj := .cells #[.string ⟨#[]⟩, .string ⟨#[]⟩, .slice none 0 0] 71
theorem pst_start {w w1 w2 wS : World} (hb1 : Below (w.alloc resO).heap.size (w.alloc resO) w1) (hb2 : Below (w1.alloc resO).heap.size (w1.alloc resO) w2)
  (hS : wS.heap[w1.heap.size]? = some (.cells #[.string (str lab), .string (str op), .slice none 0 0] 71 (0, 0))) (hg : w2.grownBy wS (some w1.heap.size)) (k : Nat) (hk : k <= ts.length) (hgl : w.heap.size < g) (hg1 : g < w1.heap.size)
  (ht : ∀ k t, ts[k]? = some t -> TokAt w1 g k t) (heq : R = lnR lab op (argsF e (ts.drop k) [] [])) :
  LPSt ts e w R lab op g w.heap.size w1.heap.size (w1.heap.size + 1) k [] [] (.slice none 0 0) (.slice none 0 0) [] wS.heap.size wS := by
 have h1 := lalloc_lt hb1
 have h2 := lalloc_lt hb2
 have h3 := hg.size
 have same : ∀ j, j < w1.heap.size -> wS.heap[j]? = w1.heap[j]? := fun j hj => by
  rw [hg.block j (by omega) (by simp; omega), (lone_below hb2).block j hj]
 refine ⟨hk, by simp, by simp, heq, World.ownsRow_nil _ _ _ _, ArgsOwn.start _ _ _ _ _ (Nat.le_refl _), by omega, hS, lineCells_of (by rw [same w.heap.size h1]; exact (lineCells_below hb1).heap), ⟨by omega, by omega, by omega⟩, ⟨Nat.le_refl _, by omega⟩, ?_, fun j t hj => (ht j t hj).of_block (same g hg1), ⟨by omega, by omega, by omega⟩⟩
 have hbb := (lone_below hb1).trans ((lone_below hb2).mono (by omega))
 exact hbb.grown hg hbb.size (fun j hj => by cases hj; omega)
theorem alloc_heap {w : World} {g : Nat} {x : Obj} (h : w.heap[g]? = some x) (o : Obj) : (w.alloc o).heap[g]? = some x := ((lbelow_alloc w o).block g (Array.getElem?_eq_some_iff.1 h).1).trans h
theorem resFacts {w w1 : World} (hb1 : Below (w.alloc resO).heap.size (w.alloc resO) w1) :
  ((∀ o, (w1.alloc o).cell? ⟨w.heap.size, 0, none⟩ = some (.string ⟨#[]⟩)) /\ (∀ o, (w1.alloc o).cell? ⟨w.heap.size, 1, none⟩ = some (.string ⟨#[]⟩)) /\ (∀ o, (w1.alloc o).cell? ⟨w.heap.size, 2, none⟩ = some (.slice none 0 0))) /\
  (∀ o, (w1.alloc o).frozen? ⟨w.heap.size, 0, none⟩ = false) /\ (∀ o, (w1.alloc o).frozen? ⟨w.heap.size, 1, none⟩ = false) /\ (∀ o, (w1.alloc o).frozen? ⟨w.heap.size, 2, none⟩ = false) :=
 ⟨⟨fun o => cellA (lineCells_below hb1).c0 o, fun o => cellA (lineCells_below hb1).c1 o, fun o => cellA (lineCells_below hb1).c2 o⟩, froz (lineCells_below hb1).heap⟩
theorem one_tok {w : World} {a : Option Addr} {t : Tok} {r : List Tok} (h : TokLies w a (t :: r)) : ∃ g, a = some ⟨g, 0, none⟩ /\ g < w.heap.size /\ w.cell? ⟨g, 0, none⟩ = some (.int .i64 t.kind) /\ w.cell? ⟨g, 1, none⟩ = some (.string (str t.text)) /\ w.cell? ⟨g, 2, none⟩ = some (.int .u32 t.num) /\ w.cell? ⟨g, 3, none⟩ = some (.int .i64 (t.place : Int)) := by
 rcases h with h | ⟨g, ha, hg, h⟩
 ·cases h
 ·obtain ⟨k0, k1, k2, k3⟩ := h 0 t rfl
  simp only [Nat.zero_mul, Nat.zero_add] at k0 k1 k2 k3
  exact ⟨g, ha, hg, k0, k1, k2, k3⟩
theorem toks_of {w : World} {a : Option Addr} {t : Tok} {r : List Tok} (h : TokLies w a (t :: r)) : ∃ g, a = some ⟨g, 0, none⟩ /\ g < w.heap.size /\ ∀ i x, (t :: r)[i]? = some x -> TokAt w g i x := by
 rcases h with h | h
 ·cases h
 ·exact h
end
end Go.Proofs.YtlkmegchaeokgaaGreatDoor
/- The document's Parse: the walk. -/
namespace Go.Proofs.YtlkmegchaeokgaaGreatDoor
open Go.ChangeShapes Go.WideShapes Go.ChangeAt Go.RowKit
set_option linter.unusedVariables false
set_option maxRecDepth 100000
theorem refParse_bad (s : ByteArray) (hs : s.size <= 1100000) (p : Nat) (h : scan (bs s) 0 = .error p) (w : World) :
  Calls Tryz.prog 28 #[.string s] w fun e w' => RPOut w.heap.size w (.error p) e w' := by
 have hT := Hid.intro (fun w => refTokens_no s hs p h w)
 clear h
 go_enter Tryz.func28, Tryz.ntmps28
 go_wp2_with (go_at_call 51; with_reducible refine (hT.out _).mono ?_; rintro e w1 ⟨hb1, rfl⟩; obtain ⟨hh, r0, r1, r2, f0, f1, f2⟩ := lineCells_below hb1; replace hh := Hid.intro hh)
 obtain ⟨s1, s2, s3⟩ := line_set hh.out rfl (.string ⟨#[]⟩) (.string ⟨#[]⟩) (.slice none 0 0)
 generalize (((w1.setCell ⟨w.heap.size, 0, none⟩ (.string ⟨#[]⟩)).setCell ⟨w.heap.size, 1, none⟩ (.string ⟨#[]⟩)).setCell ⟨w.heap.size, 2, none⟩ (.slice none 0 0)) = w2 at s1 s2 s3 ⊢
 obtain ⟨z0, z1, z2⟩ := line_read s1
 refine bodyPost_ret (by simp [results, Tryz.results28, go_sem, z0, z1, z2]; try rfl) rfl ?_
 exact ⟨(lone_below hb1).trans s2, rfl⟩
theorem refParse_none (s : ByteArray) (hs : s.size <= 1100000) (h : scan (bs s) 0 = .ok []) (w : World) :
  Calls Tryz.prog 28 #[.string s] w fun e w' => RPOut w.heap.size w (.ok ⟨[], [], []⟩) e w' := by
 have hT := Hid.intro (fun w => refTokens_ok s hs [] h w)
 clear h
 simp only [List.length_nil] at hT
 go_enter Tryz.func28, Tryz.ntmps28
 go_wp2_with (go_at_call 51; with_reducible refine (hT.out _).mono ?_; rintro e w1 ⟨hb1, a1, c1, rfl, hl1, hlo1⟩; obtain ⟨⟨r0, r1, r2⟩, f0, f1, f2⟩ := resFacts hb1)
 obtain ⟨s1, s2, s3⟩ := line_set (alloc_heap (lineCells_below hb1).heap resO) rfl (.string ⟨#[]⟩) (.string ⟨#[]⟩) (.slice none 0 0)
 generalize ((((w1.alloc resO).setCell ⟨w.heap.size, 0, none⟩ (.string ⟨#[]⟩)).setCell ⟨w.heap.size, 1, none⟩ (.string ⟨#[]⟩)).setCell ⟨w.heap.size, 2, none⟩ (.slice none 0 0)) = w2 at s1 s2 s3 ⊢
 obtain ⟨z0, z1, z2⟩ := line_read s1
 refine bodyPost_ret (by simp [results, Tryz.results28, go_sem, z0, z1, z2]; try rfl) rfl ?_
 exact ⟨((lone_below hb1).alloc (lone_below hb1).size _).trans s2, none, 0, rfl, .inl rfl⟩
theorem refParse_one (s : ByteArray) (hs : s.size <= 1100000) (t : Tok) (h : scan (bs s) 0 = .ok [t]) (hk : t.kind = 1) (w : World) :
  Calls Tryz.prog 28 #[.string s] w fun e w' => RPOut w.heap.size w (.ok ⟨[], t.text, []⟩) e w' := by
 have hT := Hid.intro (fun w => refTokens_ok s hs [t] h w)
 clear h
 simp only [List.length_cons, List.length_nil, Nat.zero_add] at hT
 have hk' : (t.kind != 1) = false := by simp [hk]
 clear hk
 go_enter Tryz.func28, Tryz.ntmps28
 go_wp2_with (go_at_call 51; with_reducible refine (hT.out _).mono ?_; rintro e w1 ⟨hb1, a1, c1, rfl, hl1, hlo1⟩; obtain ⟨⟨r0, r1, r2⟩, f0, f1, f2⟩ := resFacts hb1; obtain ⟨g, rfl, hg, y0, y1, y2, y3⟩ := one_tok hl1; replace y0 := cellA y0; replace y1 := cellA y1; replace y3 := cellA y3)
 obtain ⟨s1, s2, s3⟩ := line_set (alloc_heap (lineCells_below hb1).heap (.cells #[.string ⟨#[]⟩, .string (str t.text), .slice none 0 0] 71)) rfl (.string ⟨#[]⟩) (.string (str t.text)) (.slice none 0 0)
 generalize ((((w1.alloc (.cells #[.string ⟨#[]⟩, .string (str t.text), .slice none 0 0] 71)).setCell ⟨w.heap.size, 0, none⟩ (.string ⟨#[]⟩)).setCell ⟨w.heap.size, 1, none⟩ (.string (str t.text))).setCell ⟨w.heap.size, 2, none⟩ (.slice none 0 0)) = w2 at s1 s2 s3 ⊢
 obtain ⟨z0, z1, z2⟩ := line_read s1
 refine bodyPost_ret (by simp [results, Tryz.results28, go_sem, z0, z1, z2]; try rfl) rfl ?_
 exact ⟨((lone_below hb1).alloc (lone_below hb1).size _).trans s2, none, 0, rfl, .inl rfl⟩
theorem refParse_wrong (s : ByteArray) (hs : s.size <= 1100000) (t : Tok) (r : List Tok) (h : scan (bs s) 0 = .ok (t :: r)) (hk : t.kind ≠ 1) (w : World) :
  Calls Tryz.prog 28 #[.string s] w fun e w' => RPOut w.heap.size w (.error t.place) e w' := by
 have hT := Hid.intro (fun w => refTokens_ok s hs (t :: r) h w)
 have hlen := scan_len _ _ _ h
 rw [bs_length, List.length_cons] at hlen
 clear h
 rw [List.length_cons] at hT
 have hk' : (t.kind != 1) = true := by simp [hk]
 have hk2 : (t.kind == 1) = false := by simp [hk]
 have hz : ((r.length : Int) + 1 == 0) = false := by simp; omega
 clear hk
 have hcases : decide (2 <= (r.length : Int) + 1) = true ∨ decide (2 <= (r.length : Int) + 1) = false := by cases decide (2 <= (r.length : Int) + 1) <;> simp
 rcases hcases with hd | hd
 all_goals (
  go_enter Tryz.func28, Tryz.ntmps28
  go_wp2_with (go_at_call 51; with_reducible refine (hT.out _).mono ?_; rintro e w1 ⟨hb1, a1, c1, rfl, hl1, hlo1⟩; obtain ⟨⟨r0, r1, r2⟩, f0, f1, f2⟩ := resFacts hb1; obtain ⟨g, rfl, hg, y0, y1, y2, y3⟩ := one_tok hl1; have hgl : w.heap.size < g := (by have := hlo1 _ rfl; simp at this; omega); replace y0 := cellA y0; replace y1 := cellA y1; replace y3 := cellA y3)
  all_goals first | omega | skip
  have hne : ¬ g = w.heap.size := by omega
  have hne2 : ¬ w.heap.size = g := by omega
  go_region
  go_wp2
  obtain ⟨s1, s2, s3⟩ := line_set (alloc_heap (lineCells_below hb1).heap resO) rfl (.string ⟨#[]⟩) (.string ⟨#[]⟩) (.slice none 0 0)
  generalize ((((w1.alloc resO).setCell ⟨w.heap.size, 0, none⟩ (.string ⟨#[]⟩)).setCell ⟨w.heap.size, 1, none⟩ (.string ⟨#[]⟩)).setCell ⟨w.heap.size, 2, none⟩ (.slice none 0 0)) = w2 at s1 s2 s3 ⊢
  have s1' : w2.drew.heap[w.heap.size]? = some (.cells #[.string ⟨#[]⟩, .string ⟨#[]⟩, .slice none 0 0] 71 (0, 0)) := s1
  obtain ⟨z0, z1, z2⟩ := line_read s1'
  refine bodyPost_ret (by simp [results, Tryz.results28, go_sem, z0, z1, z2]; try rfl) rfl ?_
  exact ⟨(((lone_below hb1).alloc (lone_below hb1).size _).trans s2).drew, rfl⟩)
end Go.Proofs.YtlkmegchaeokgaaGreatDoor
/- The document's Parse: its arguments, a line without a label. -/
namespace Go.Proofs.YtlkmegchaeokgaaGreatDoor
open Go.ChangeShapes Go.WideShapes Go.ChangeAt Go.RowKit
set_option linter.unusedVariables false
set_option maxRecDepth 100000
set_option maxHeartbeats 4000000 in
theorem refParse_loop (s : ByteArray) (hs : s.size <= 1100000) (t u : Tok) (r : List Tok) (h : scan (bs s) 0 = .ok (t :: u :: r)) (hk : t.kind = 1) (hu : isS u 58 = false) (w : World) :
  Calls Tryz.prog 28 #[.string s] w fun e w' => RPOut w.heap.size w (lnR [] t.text (argsF s.size (u :: r) [] [])) e w' := by
 have hT := Hid.intro (fun w => refTokens_ok s hs (t :: u :: r) h w)
 have hlen := scan_len _ _ _ h
 rw [bs_length] at hlen
 have hll : (t :: u :: r).length = r.length + 1 + 1 := rfl
 rw [hll] at hT hlen
 clear h hll
 have hk' : (t.kind == 1) = true := by simp [hk]
 have hk2 : (t.kind != 1) = false := by simp [hk]
 clear hk
 have hS := Hid.intro (refSign_b u 58 false hu)
 clear hu
 have hz : ((0 : Int) == (r.length : Int) + 1 + 1) = false := by simp; omega
 have hz1 : ((1 : Int) == (r.length : Int) + 1 + 1) = false := by simp; omega
 have hd : decide (2 <= (r.length : Int) + 1 + 1) = true := by simp; omega
 obtain ⟨R, hR⟩ : ∃ R, R = lnR [] t.text (argsF s.size (u :: r) [] []) := ⟨_, rfl⟩
 rw [<- hR]
 replace hR := Hid.intro hR
 go_enter Tryz.func28, Tryz.ntmps28
 go_wp2_with (first
  | (go_at_call 51; with_reducible refine (hT.out _).mono ?_; rintro e w1 ⟨hb1, a1, c1, rfl, hl1, hlo1⟩; obtain ⟨g, rfl, hg, hl1⟩ := toks_of hl1; have hgl : w.heap.size < g := (by have := hlo1 _ rfl; simp at this; omega); have hl1 := Hid.intro hl1; clear hlo1; obtain ⟨y0, y1, y2, y3⟩ := hl1.out 0 t rfl; simp only [Nat.zero_mul, Nat.zero_add] at y0 y1 y2 y3; obtain ⟨x0, x1, x2, x3⟩ := hl1.out 1 u rfl; simp only [Nat.one_mul, Nat.reduceAdd] at x0 x1 x2 x3; replace y0 := cellA y0; replace y1 := cellA y1; replace x0 := cellA x0; replace x1 := cellA x1; replace x2 := cellA x2; replace x3 := cellA x3)
  | (go_at_call 52; with_reducible refine (hS.out _).mono ?_; rintro e w2 ⟨rfl, hb2⟩; have hgs := lalloc_lt hb2; obtain ⟨oh, o0, o1, o2, p0, p1, p2⟩ := lineCells_below hb2; replace oh := Hid.intro oh; have rres := Hid.intro ((lineCells_below hb1).below (lone_below hb2) (lalloc_lt hb1)); obtain ⟨v0, v1, v2, v3⟩ := (hl1.out 0 t rfl).below (lone_below hb2) hg; simp only [Nat.zero_mul, Nat.zero_add] at v0 v1 v2 v3; have hne : ¬ g = w1.heap.size := (by omega); have hne2 : ¬ w1.heap.size = g := (by omega)))
 all_goals first | omega | skip
 have hstart := Hid.intro (pst_start (ts := (t :: u :: r)) (e := s.size) (R := R) (lab := []) (op := t.text) hb1 hb2 (by rw [heap_setCell_same w2 w1.heap.size 1 _ 71 _ oh.out]; rfl) (set_grown w2 w1.heap.size 1 _) 1 (by simp) hgl hg (fun k t ht => hl1.out k t ht) hR.out)
 generalize (w2.setCell ⟨w1.heap.size, 1, none⟩ (.string (str t.text))) = wS at hstart ⊢
 generalize w1.heap.size + 1 = lo at hstart
 clear hl1 hb1 hb2 hT hS hR o0 o1 o2 p0 p1 p2 oh rres v0 v1 v2 v3 hne hne2 y0 y1 y2 y3 x0 x1 x2 x3 hgs
 generalize w1.heap.size = bo at hstart hg ⊢
 obtain ⟨n0, hn0⟩ : ∃ n0, n0 = ((t :: u :: r)).length := ⟨_, rfl⟩
 have hll : r.length + 1 + 1 = n0 := hn0.symm
 rw [hll] at hlen ⊢
 replace hll := Hid.intro hll
 have hnH := Hid.intro hn0
 clear hn0
 generalize hTS : (t :: u :: r) = ts at hstart hnH
 clear hTS
 have hn0i : (n0 : Int) <= 1100000 := by omega
 obtain ⟨i0, hi, hz0, hz1, hz2⟩ := info_parts Tryz.info103
 obtain ⟨j0, hj, hy0, hy1, hy2⟩ := info_parts Tryz.info100
 go_loopw [9, 10] (fun vi v8 wr => ∃ (i : Nat) (arg : List Tok) (acc : List (List Tok)) (va : Value) (vs : List Value) (m : Nat), vi = .int .i64 (i : Int) /\ Hid (LPSt ts s.size w R [] t.text g w.heap.size bo lo i arg acc va v8 vs m wr)) (fun vi _ _ => n0 - (intOf vi).toNat)
 case atStart => exact ⟨1, [], [], .slice none 0 0, [], _, rfl, hstart⟩
 case round =>
  clear hstart
  obtain ⟨i, arg, acc, va, vs, m, rfl, hS⟩ := hrel
  obtain ⟨a1, c1, rfl⟩ := lown_slice hS.out.args.row
  obtain ⟨a2, c2, rfl⟩ := lown_slice hS.out.own
  have hle := hS.out.le
  have hfew := hS.out.few
  have hfewA := hS.out.fewA
  have hvl : vs.length <= i := by have := hS.out.args.len; omega
  rw [<- hnH.out] at hle
  obtain ⟨k7, hk7⟩ : ∃ k7, k7 = vs.length := ⟨_, rfl⟩
  obtain ⟨k8, hk8⟩ : ∃ k8, k8 = arg.length := ⟨_, rfl⟩
  rw [<- hk7, <- hk8] at hS
  rw [<- hk7] at hvl
  rw [<- hk8] at hfew ⊢
  have hk7H := Hid.intro hk7
  have hk8H := Hid.intro hk8
  clear hk7 hk8
  have hownH : Hid (wr.ownsRow m 103 4 (.slice a2 k8 c2) k8 (rowOf arg)) := by
   have := hS.out.own
   rwa [<- hk8H.out] at this
  have hrowH : Hid (wr.ownsRow lo 100 1 (.slice a1 k7 c1) k7 vs) := by
   have := hS.out.args.row
   rwa [<- hk7H.out] at this
  have hmle := hS.out.args.le
  have hmlo := hS.out.lom
  have hrt := hS.out.res
  have hrlt : w.heap.size < wr.heap.size := (Array.getElem?_eq_some_iff.1 hrt.heap).1
  replace hrt := Hid.intro hrt
  have hbolt : bo < lo := hS.out.bor.2.1
  have hvaH : Hid (∀ k, (Value.slice a1 k7 c1).ownBlock = some k -> lo <= k) := fun k hk => (hS.out.args.row.lt k hk).1
  by_cases hlt : i < n0
  ·obtain ⟨t, ht⟩ : ∃ t, ts[i]? = some t := ⟨ts[i]'(by rw [<- hnH.out]; exact hlt), List.getElem?_eq_getElem _⟩
   have htH := Hid.intro ht
   clear ht
   obtain ⟨q0, q1, q2, q3⟩ := hS.out.tok i t htH.out
   have hcur := Hid.intro (hS.out.cur t)
   cases h1 : isS t 58
   ·cases h2 : isS t 44
    ·have hc58 := Hid.intro (refSign_b t 58 false h1)
     have hc44 := Hid.intro (refSign_b t 44 false h2)
     have hn := Hid.intro (fun (w2 w3 : World) (v2 : Value) (o : Obj) => pst_more hS.out t htH.out h1 h2 w2 w3 v2 o)
     clear h1 h2
     go_wp2_with (first
      | (go_at_call 52; with_reducible refine (hc58.out _).mono ?_; rintro e w2 ⟨rfl, hb2⟩; replace hcur := Hid.intro (hcur.out.step hb2); obtain ⟨d0, d1, d2, d3⟩ := hcur.out.box; simp only [Nat.zero_add] at d1 d2 d3)
      | (go_at_call 52; with_reducible refine (hc44.out _).mono ?_; rintro e w2 ⟨rfl, hb2⟩; replace hcur := Hid.intro (hcur.out.step hb2); obtain ⟨d0, d1, d2, d3⟩ := hcur.out.box; simp only [Nat.zero_add] at d1 d2 d3)
      | (at_builtin; go_must (refine wpList_append_own_wide _ rfl (.tmp 106) (.tmp 108) 100 rfl m 103 i0 (.agg #[.int .i64 0, .string ⟨#[]⟩, .int .u32 0, .int .i64 0]) 4 40 Tryz.underlying100 hi hz0 hz1 hz2 rfl (by decide) (.slice a2 k8 c2) k8 (rowOf arg) rfl ((ownsRow_below hownH.out hcur.out.bel).alloc _) ⟨w2.heap.size, 0, none⟩ 1 1 [.int .i64 t.kind, .string (str t.text), .int .u32 t.num, .int .i64 (t.place : Int)] rfl rfl (cells_new _ _ _) (by simp [Value.oneCell']) (by unfold maxLen; omega) (by omega) (by have := hcur.out.bel.size; simp; omega) ?_; intro v2 w3 hown3 hgrow3 _)))
     all_goals first | omega | skip
     go_roundw
     case rel => exact ⟨i + 1, arg ++ [t], acc, _, vs, m, by go_num, Hid.intro (hn.out w2 w3 v2 _ hcur.out hgrow3 (by rw [<- hk8H.out]; exact hown3))⟩
     case measure => simp [intOf]; omega
    ·have hc58 := Hid.intro (refSign_b t 58 false h1)
     have hc44 := Hid.intro (refSign_b t 44 true h2)
     by_cases h0 : k8 = 0
     ·have hRe : Hid (R = .error t.place) := by
       show R = _
       rw [hS.out.eq, ldrop_at ts i t htH.out, argsF_empty _ _ _ _ _ h1 h2 (by rw [<- hk8H.out]; exact h0)]
       rfl
      have hz : ((k8 : Int) == 0) = true := by simp [h0]
      clear h1 h2 h0
      go_wp2_with (first
       | (go_at_call 52; with_reducible refine (hc58.out _).mono ?_; rintro e w2 ⟨rfl, hb2⟩; replace hcur := Hid.intro (hcur.out.step hb2); obtain ⟨d0, d1, d2, d3⟩ := hcur.out.box; simp only [Nat.zero_add] at d1 d2 d3; replace hrt := Hid.intro (res_below hS.out.res hcur.out.bel))
       | (go_at_call 52; with_reducible refine (hc44.out _).mono ?_; rintro e w2 ⟨rfl, hb2⟩; replace hcur := Hid.intro (hcur.out.step hb2); obtain ⟨d0, d1, d2, d3⟩ := hcur.out.box; simp only [Nat.zero_add] at d1 d2 d3; replace hrt := Hid.intro (res_below hS.out.res hcur.out.bel)))
      all_goals first | omega | skip
      obtain ⟨rh, r0, r1, r2, f0, f1, f2⟩ := hrt.out
      replace rh := Hid.intro rh
      have hne3 : ¬ w.heap.size = wr.heap.size := by omega
      have hne4 : ¬ wr.heap.size = w.heap.size := by omega
      go_region
      go_wp2
      obtain ⟨s1, s2, s3⟩ := line_set rh.out rfl (.string ⟨#[]⟩) (.string ⟨#[]⟩) (.slice none 0 0)
      generalize (((w2.setCell ⟨w.heap.size, 0, none⟩ (.string ⟨#[]⟩)).setCell ⟨w.heap.size, 1, none⟩ (.string ⟨#[]⟩)).setCell ⟨w.heap.size, 2, none⟩ (.slice none 0 0)) = w4 at s1 s2 s3 ⊢
      have s1' : w4.drew.heap[w.heap.size]? = some (.cells #[.string ⟨#[]⟩, .string ⟨#[]⟩, .slice none 0 0] 71 (0, 0)) := s1
      obtain ⟨z0, z1, z2⟩ := line_read s1'
      refine bodyPost_ret (by simp [results, Tryz.results28, go_sem, z0, z1, z2]; try rfl) rfl ?_
      rw [hRe.out]
      exact ⟨((hS.out.bel.trans (hcur.out.bel.mono (by omega))).trans s2).drew, rfl⟩
     ·have hn := Hid.intro (fun (w2 w3 : World) (v2 : Value) (o : Obj) => pst_comma hS.out t htH.out h1 h2 (by rw [<- hk8H.out]; exact h0) w2 w3 v2 o)
      have hz : ((k8 : Int) == 0) = false := by simp [h0]
      clear h1 h2 h0
      go_wp2_with (first
       | (go_at_call 52; with_reducible refine (hc58.out _).mono ?_; rintro e w2 ⟨rfl, hb2⟩; replace hcur := Hid.intro (hcur.out.step hb2); obtain ⟨d0, d1, d2, d3⟩ := hcur.out.box; simp only [Nat.zero_add] at d1 d2 d3; have oc := hcur.out.cell; replace oc := cellA oc)
       | (go_at_call 52; with_reducible refine (hc44.out _).mono ?_; rintro e w2 ⟨rfl, hb2⟩; replace hcur := Hid.intro (hcur.out.step hb2); obtain ⟨d0, d1, d2, d3⟩ := hcur.out.box; simp only [Nat.zero_add] at d1 d2 d3; have oc0 := hcur.out.cell; have oc := cellA oc0)
       | (at_builtin; go_must (refine wpList_append_own _ rfl (.tmp 99) (.tmp 101) 69 rfl lo 100 j0 (.slice none 0 0) 1 24 Tryz.underlying69 hj hy0 hy1 hy2 rfl (by decide) (.slice a1 k7 c1) k7 vs rfl ((ownsRow_below hrowH.out hcur.out.bel).alloc _) ⟨w2.heap.size, 0, none⟩ 1 1 [.slice a2 k8 c2] rfl rfl (cells_new _ _ _) (by simp [Value.oneCell']) (by unfold maxLen; omega) (by omega) (by have := hcur.out.bel.size; simp; omega) ?_; intro v2 w3 hown3 hgrow3 _; obtain ⟨oc3, of3⟩ := cur_out hcur.out hbolt hvaH.out hgrow3; obtain ⟨a3, c3, rfl⟩ := lown_slice hown3)))
      all_goals first | omega | skip
      go_roundw
      case rel => exact ⟨i + 1, [], acc ++ [arg], _, vs ++ [.slice a2 k8 c2], w3.heap.size, by go_num, Hid.intro (hn.out w2 w3 _ _ hcur.out hgrow3 (by rw [<- hk7H.out]; exact hown3))⟩
      case measure => simp [intOf]; omega
   ·have hc58 := Hid.intro (refSign_b t 58 true h1)
    have hRe : Hid (R = .error t.place) := by
     show R = _
     rw [hS.out.eq, ldrop_at ts i t htH.out, argsF_sign _ _ _ _ _ h1]
     rfl
    clear h1
    go_wp2_with (go_at_call 52; with_reducible refine (hc58.out _).mono ?_; rintro e w2 ⟨rfl, hb2⟩; replace hcur := Hid.intro (hcur.out.step hb2); obtain ⟨d0, d1, d2, d3⟩ := hcur.out.box; simp only [Nat.zero_add] at d1 d2 d3; replace hrt := Hid.intro (res_below hS.out.res hcur.out.bel))
    all_goals first | omega | skip
    obtain ⟨rh, r0, r1, r2, f0, f1, f2⟩ := hrt.out
    replace rh := Hid.intro rh
    have hne3 : ¬ w.heap.size = wr.heap.size := by omega
    have hne4 : ¬ wr.heap.size = w.heap.size := by omega
    go_region
    go_wp2
    obtain ⟨s1, s2, s3⟩ := line_set rh.out rfl (.string ⟨#[]⟩) (.string ⟨#[]⟩) (.slice none 0 0)
    generalize (((w2.setCell ⟨w.heap.size, 0, none⟩ (.string ⟨#[]⟩)).setCell ⟨w.heap.size, 1, none⟩ (.string ⟨#[]⟩)).setCell ⟨w.heap.size, 2, none⟩ (.slice none 0 0)) = w4 at s1 s2 s3 ⊢
    have s1' : w4.drew.heap[w.heap.size]? = some (.cells #[.string ⟨#[]⟩, .string ⟨#[]⟩, .slice none 0 0] 71 (0, 0)) := s1
    obtain ⟨z0, z1, z2⟩ := line_read s1'
    refine bodyPost_ret (by simp [results, Tryz.results28, go_sem, z0, z1, z2]; try rfl) rfl ?_
    rw [hRe.out]
    exact ⟨((hS.out.bel.trans (hcur.out.bel.mono (by omega))).trans s2).drew, rfl⟩
  ·have hin : Hid (i = ts.length) := by
    show i = _
    rw [<- hnH.out]
    omega
   obtain ⟨rh, r0, r1, r2, f0, f1, f2⟩ := hrt.out
   replace rh := Hid.intro rh
   by_cases h0 : k8 = 0
   ·have hRe : Hid (R = .error s.size) := by
     show R = _
     rw [hS.out.eq, hin.out, List.drop_length, argsF, if_pos (by rw [<- hk8H.out]; exact h0)]
     rfl
    have hz : ((k8 : Int) == 0) = true := by simp [h0]
    clear h0
    go_wp2
    all_goals first | omega | skip
    obtain ⟨s1, s2, s3⟩ := line_set rh.out rfl (.string ⟨#[]⟩) (.string ⟨#[]⟩) (.slice none 0 0)
    generalize (((wr.setCell ⟨w.heap.size, 0, none⟩ (.string ⟨#[]⟩)).setCell ⟨w.heap.size, 1, none⟩ (.string ⟨#[]⟩)).setCell ⟨w.heap.size, 2, none⟩ (.slice none 0 0)) = w4 at s1 s2 s3 ⊢
    obtain ⟨z0, z1, z2⟩ := line_read s1
    refine bodyPost_ret (by simp [results, Tryz.results28, go_sem, z0, z1, z2]; try rfl) rfl ?_
    rw [hRe.out]
    exact ⟨hS.out.bel.trans s2, rfl⟩
   ·have hS' : Hid (LPSt ts s.size w R [] t.text g w.heap.size bo lo ts.length arg acc (.slice a1 k7 c1) (.slice a2 k8 c2) vs m wr) := by
     have := hS.out
     rwa [hin.out] at this
    have hn := Hid.intro (fun (w3 : World) (v2 : Value) (o : Obj) => pst_end hS'.out (by rw [<- hk8H.out]; exact h0) w3 v2 o)
    have hz : ((k8 : Int) == 0) = false := by simp [h0]
    have hne3 : ¬ w.heap.size = bo := hS.out.bor.2.2
    have hne4 : ¬ bo = w.heap.size := fun e => hS.out.bor.2.2 e.symm
    have oc0 := (line_read hS.out.out).2.2
    have oc := cellA oc0
    clear h0 r0 r1 r2 f0 f1 f2
    go_wp2_with (at_builtin; go_must (refine wpList_append_own _ rfl (.tmp 119) (.tmp 121) 69 rfl lo 100 j0 (.slice none 0 0) 1 24 Tryz.underlying69 hj hy0 hy1 hy2 rfl (by decide) (.slice a1 k7 c1) k7 vs rfl (hrowH.out.alloc _) ⟨wr.heap.size, 0, none⟩ 1 1 [.slice a2 k8 c2] rfl rfl (cells_new _ _ _) (by simp [Value.oneCell']) (by unfold maxLen; omega) (by omega) (by simp; omega) ?_; intro v2 w3 hown3 hgrow3 _; obtain ⟨a3, c3, rfl⟩ := lown_slice hown3; obtain ⟨e1, e2, e3, e4, e5, e6, e7⟩ := hn.out w3 _ _ hgrow3 (by rw [<- hk7H.out]; exact hown3); replace e1 := Hid.intro e1; replace e2 := Hid.intro e2; replace e4 := Hid.intro e4; obtain ⟨l0, l1, l2⟩ := line_read e2.out; obtain ⟨rh3, r0, r1, r2, f0, f1, f2⟩ := e3; replace rh3 := Hid.intro rh3))
    all_goals first | omega | skip
    obtain ⟨s1, s2, s3⟩ := line_set rh3.out rfl (.string (str [])) (.string (str t.text)) (.slice a3 (k7 + 1) c3)
    generalize (w3.setCell ⟨bo, 2, none⟩ (.slice a3 (k7 + 1) c3)) = w5 at s1 s2 s3 e4 e5 ⊢
    generalize (((w5.setCell ⟨w.heap.size, 0, none⟩ (.string (str []))).setCell ⟨w.heap.size, 1, none⟩ (.string (str t.text))).setCell ⟨w.heap.size, 2, none⟩ (.slice a3 (k7 + 1) c3)) = w4 at s1 s2 s3 ⊢
    obtain ⟨z0, z1, z2⟩ := line_read s1
    refine bodyPost_ret (by simp [results, Tryz.results28, go_sem, z0, z1, z2]; try rfl) rfl ?_
    rw [e1.out]
    have hAf := e4.out.lower s3 hS.out.bor.1
    have hlf : (acc ++ [arg]).length = k7 + 1 := by rw [<- hAf.len, List.length_append, <- hk7H.out]; rfl
    refine ⟨e5.trans s2, a3, c3, ?_, hAf.lies⟩
    show _ = Ending.returned (Value.tuple #[.agg #[.string (str []), .string (str t.text), .slice a3 (acc ++ [arg]).length c3], .int .i64 0, .int .i64 0])
    rw [hlf]
end Go.Proofs.YtlkmegchaeokgaaGreatDoor
/- The document's Parse: a label, without arguments. -/
namespace Go.Proofs.YtlkmegchaeokgaaGreatDoor
open Go.ChangeShapes Go.WideShapes Go.ChangeAt Go.RowKit
set_option linter.unusedVariables false
set_option maxRecDepth 100000
theorem refParse_lab (s : ByteArray) (hs : s.size <= 1100000) (t u : Tok) (h : scan (bs s) 0 = .ok [t, u]) (hk : t.kind = 1) (hu : isS u 58 = true) (w : World) :
  Calls Tryz.prog 28 #[.string s] w fun e w' => RPOut w.heap.size w (.ok ⟨t.text, [], []⟩) e w' := by
 have hT := Hid.intro (fun w => refTokens_ok s hs [t, u] h w)
 have hlen := scan_len _ _ _ h
 rw [bs_length] at hlen
 have hll : ([t, u]).length = 2 := rfl
 rw [hll] at hT hlen
 clear h hll
 have hk' : (t.kind == 1) = true := by simp [hk]
 have hk2 : (t.kind != 1) = false := by simp [hk]
 clear hk
 have hS := Hid.intro (refSign_b u 58 true hu)
 clear hu
 go_enter Tryz.func28, Tryz.ntmps28
 go_wp2_with (first
  | (go_at_call 51; with_reducible refine (hT.out _).mono ?_; rintro e w1 ⟨hb1, a1, c1, rfl, hl1, hlo1⟩; obtain ⟨g, rfl, hg, hl1⟩ := toks_of hl1; have hgl : w.heap.size < g := (by have := hlo1 _ rfl; simp at this; omega); have hl1 := Hid.intro hl1; clear hlo1; obtain ⟨y0, y1, y2, y3⟩ := hl1.out 0 t rfl; simp only [Nat.zero_mul, Nat.zero_add] at y0 y1 y2 y3; obtain ⟨x0, x1, x2, x3⟩ := hl1.out 1 u rfl; simp only [Nat.one_mul, Nat.reduceAdd] at x0 x1 x2 x3; replace y0 := cellA y0; replace y1 := cellA y1; replace x0 := cellA x0; replace x1 := cellA x1; replace x2 := cellA x2; replace x3 := cellA x3)
  | (go_at_call 52; with_reducible refine (hS.out _).mono ?_; rintro e w2 ⟨rfl, hb2⟩; have hgs := lalloc_lt hb2; obtain ⟨oh, o0, o1, o2, p0, p1, p2⟩ := lineCells_below hb2; replace oh := Hid.intro oh; have rres := Hid.intro ((lineCells_below hb1).below (lone_below hb2) (lalloc_lt hb1)); obtain ⟨rh, r0, r1, r2, f0, f1, f2⟩ := rres.out; replace rh := Hid.intro rh; have hne3 : ¬ w.heap.size = w1.heap.size := (by have := lalloc_lt hb1; omega); have hne4 : ¬ w1.heap.size = w.heap.size := (by have := lalloc_lt hb1; omega); have hne5 : ¬ g = w.heap.size := (by omega); have hne6 : ¬ w.heap.size = g := (by omega); obtain ⟨v0, v1, v2, v3⟩ := (hl1.out 0 t rfl).below (lone_below hb2) hg; simp only [Nat.zero_mul, Nat.zero_add] at v0 v1 v2 v3; have hne : ¬ g = w1.heap.size := (by omega); have hne2 : ¬ w1.heap.size = g := (by omega)))
 all_goals first | omega | skip
 obtain ⟨s1, s2, s3⟩ := line_set (T := 71) (cur := #[.string ⟨#[]⟩, .string ⟨#[]⟩, .slice none 0 0]) (w := (w2.setCell ⟨w1.heap.size, 0, none⟩ (.string (str t.text)))) (g := w.heap.size) (by rw [heap_setCell_other _ _ _ _ hne3]; exact rh.out) rfl (.string (str t.text)) (.string ⟨#[]⟩) (.slice none 0 0)
 have hbS : Below w.heap.size w (w2.setCell ⟨w1.heap.size, 0, none⟩ (.string (str t.text))) := (ltwo_below hb1 (lone_below hb2)).trans ((Below.refl w.heap.size w2).setCell (p := ⟨w1.heap.size, 0, none⟩) (by show w.heap.size <= w1.heap.size; have := lalloc_lt hb1; omega) _)
 generalize (w2.setCell ⟨w1.heap.size, 0, none⟩ (.string (str t.text))) = w5 at s1 s2 s3 hbS ⊢
 generalize (((w5.setCell ⟨w.heap.size, 0, none⟩ (.string (str t.text))).setCell ⟨w.heap.size, 1, none⟩ (.string ⟨#[]⟩)).setCell ⟨w.heap.size, 2, none⟩ (.slice none 0 0)) = w4 at s1 s2 s3 ⊢
 obtain ⟨z0, z1, z2⟩ := line_read s1
 refine bodyPost_ret (by simp [results, Tryz.results28, go_sem, z0, z1, z2]; try rfl) rfl ?_
 exact ⟨hbS.trans s2, none, 0, rfl, .inl rfl⟩
theorem refParse_labWrong (s : ByteArray) (hs : s.size <= 1100000) (t u x : Tok) (r : List Tok) (h : scan (bs s) 0 = .ok (t :: u :: x :: r)) (hk : t.kind = 1) (hu : isS u 58 = true) (hkx : x.kind ≠ 1) (w : World) :
  Calls Tryz.prog 28 #[.string s] w fun e w' => RPOut w.heap.size w (.error x.place) e w' := by
 have hT := Hid.intro (fun w => refTokens_ok s hs (t :: u :: x :: r) h w)
 have hlen := scan_len _ _ _ h
 rw [bs_length] at hlen
 have hll : ((t :: u :: x :: r)).length = r.length + 1 + 1 + 1 := rfl
 rw [hll] at hT hlen
 clear h hll
 have hk' : (t.kind == 1) = true := by simp [hk]
 have hk2 : (t.kind != 1) = false := by simp [hk]
 clear hk
 have hS := Hid.intro (refSign_b u 58 true hu)
 clear hu
 have hz2 : ((2 : Int) == (r.length : Int) + 1 + 1 + 1) = false := by simp; omega
 have hd : decide (2 <= (r.length : Int) + 1 + 1 + 1) = true := by simp; omega
 have hkx' : (x.kind != 1) = true := by simp [hkx]
 clear hkx
 go_enter Tryz.func28, Tryz.ntmps28
 go_wp2_with (first
  | (go_at_call 51; with_reducible refine (hT.out _).mono ?_; rintro e w1 ⟨hb1, a1, c1, rfl, hl1, hlo1⟩; obtain ⟨g, rfl, hg, hl1⟩ := toks_of hl1; have hgl : w.heap.size < g := (by have := hlo1 _ rfl; simp at this; omega); have hl1 := Hid.intro hl1; clear hlo1; obtain ⟨y0, y1, y2, y3⟩ := hl1.out 0 t rfl; simp only [Nat.zero_mul, Nat.zero_add] at y0 y1 y2 y3; obtain ⟨x0, x1, x2, x3⟩ := hl1.out 1 u rfl; simp only [Nat.one_mul, Nat.reduceAdd] at x0 x1 x2 x3; replace y0 := cellA y0; replace y1 := cellA y1; replace x0 := cellA x0; replace x1 := cellA x1; replace x2 := cellA x2; replace x3 := cellA x3)
  | (go_at_call 52; with_reducible refine (hS.out _).mono ?_; rintro e w2 ⟨rfl, hb2⟩; have hgs := lalloc_lt hb2; obtain ⟨oh, o0, o1, o2, p0, p1, p2⟩ := lineCells_below hb2; replace oh := Hid.intro oh; have rres := Hid.intro ((lineCells_below hb1).below (lone_below hb2) (lalloc_lt hb1)); obtain ⟨rh, r0, r1, r2, f0, f1, f2⟩ := rres.out; replace rh := Hid.intro rh; have hne3 : ¬ w.heap.size = w1.heap.size := (by have := lalloc_lt hb1; omega); have hne4 : ¬ w1.heap.size = w.heap.size := (by have := lalloc_lt hb1; omega); have hne5 : ¬ g = w.heap.size := (by omega); have hne6 : ¬ w.heap.size = g := (by omega); obtain ⟨v0, v1, v2, v3⟩ := (hl1.out 0 t rfl).below (lone_below hb2) hg; simp only [Nat.zero_mul, Nat.zero_add] at v0 v1 v2 v3; obtain ⟨q0, q1, q2, q3⟩ := (hl1.out 2 x rfl).below (lone_below hb2) hg; simp only [Nat.reduceMul, Nat.reduceAdd] at q0 q1 q2 q3; have hne : ¬ g = w1.heap.size := (by omega); have hne2 : ¬ w1.heap.size = g := (by omega)))
 all_goals first | omega | skip
 go_region
 go_wp2
 obtain ⟨s1, s2, s3⟩ := line_set (T := 71) (cur := #[.string ⟨#[]⟩, .string ⟨#[]⟩, .slice none 0 0]) (w := (w2.setCell ⟨w1.heap.size, 0, none⟩ (.string (str t.text)))) (g := w.heap.size) (by rw [heap_setCell_other _ _ _ _ hne3]; exact rh.out) rfl (.string ⟨#[]⟩) (.string ⟨#[]⟩) (.slice none 0 0)
 have hbS : Below w.heap.size w (w2.setCell ⟨w1.heap.size, 0, none⟩ (.string (str t.text))) := (ltwo_below hb1 (lone_below hb2)).trans ((Below.refl w.heap.size w2).setCell (p := ⟨w1.heap.size, 0, none⟩) (by show w.heap.size <= w1.heap.size; have := lalloc_lt hb1; omega) _)
 generalize (w2.setCell ⟨w1.heap.size, 0, none⟩ (.string (str t.text))) = w5 at s1 s2 s3 hbS ⊢
 generalize (((w5.setCell ⟨w.heap.size, 0, none⟩ (.string ⟨#[]⟩)).setCell ⟨w.heap.size, 1, none⟩ (.string ⟨#[]⟩)).setCell ⟨w.heap.size, 2, none⟩ (.slice none 0 0)) = w4 at s1 s2 s3 ⊢
 have s1' : w4.drew.heap[w.heap.size]? = _ := s1
 obtain ⟨z0, z1, z2⟩ := line_read s1'
 refine bodyPost_ret (by simp [results, Tryz.results28, go_sem, z0, z1, z2]; try rfl) rfl ?_
 exact ⟨(hbS.trans s2).drew, rfl⟩
theorem refParse_labOp (s : ByteArray) (hs : s.size <= 1100000) (t u x : Tok) (h : scan (bs s) 0 = .ok [t, u, x]) (hk : t.kind = 1) (hu : isS u 58 = true) (hkx : x.kind = 1) (w : World) :
  Calls Tryz.prog 28 #[.string s] w fun e w' => RPOut w.heap.size w (.ok ⟨t.text, x.text, []⟩) e w' := by
 have hT := Hid.intro (fun w => refTokens_ok s hs [t, u, x] h w)
 have hlen := scan_len _ _ _ h
 rw [bs_length] at hlen
 have hll : ([t, u, x]).length = 3 := rfl
 rw [hll] at hT hlen
 clear h hll
 have hk' : (t.kind == 1) = true := by simp [hk]
 have hk2 : (t.kind != 1) = false := by simp [hk]
 clear hk
 have hS := Hid.intro (refSign_b u 58 true hu)
 clear hu
 have hkx' : (x.kind != 1) = false := by simp [hkx]
 clear hkx
 go_enter Tryz.func28, Tryz.ntmps28
 go_wp2_with (first
  | (go_at_call 51; with_reducible refine (hT.out _).mono ?_; rintro e w1 ⟨hb1, a1, c1, rfl, hl1, hlo1⟩; obtain ⟨g, rfl, hg, hl1⟩ := toks_of hl1; have hgl : w.heap.size < g := (by have := hlo1 _ rfl; simp at this; omega); have hl1 := Hid.intro hl1; clear hlo1; obtain ⟨y0, y1, y2, y3⟩ := hl1.out 0 t rfl; simp only [Nat.zero_mul, Nat.zero_add] at y0 y1 y2 y3; obtain ⟨x0, x1, x2, x3⟩ := hl1.out 1 u rfl; simp only [Nat.one_mul, Nat.reduceAdd] at x0 x1 x2 x3; replace y0 := cellA y0; replace y1 := cellA y1; replace x0 := cellA x0; replace x1 := cellA x1; replace x2 := cellA x2; replace x3 := cellA x3)
  | (go_at_call 52; with_reducible refine (hS.out _).mono ?_; rintro e w2 ⟨rfl, hb2⟩; have hgs := lalloc_lt hb2; obtain ⟨oh, o0, o1, o2, p0, p1, p2⟩ := lineCells_below hb2; replace oh := Hid.intro oh; have rres := Hid.intro ((lineCells_below hb1).below (lone_below hb2) (lalloc_lt hb1)); obtain ⟨rh, r0, r1, r2, f0, f1, f2⟩ := rres.out; replace rh := Hid.intro rh; have hne3 : ¬ w.heap.size = w1.heap.size := (by have := lalloc_lt hb1; omega); have hne4 : ¬ w1.heap.size = w.heap.size := (by have := lalloc_lt hb1; omega); have hne5 : ¬ g = w.heap.size := (by omega); have hne6 : ¬ w.heap.size = g := (by omega); obtain ⟨v0, v1, v2, v3⟩ := (hl1.out 0 t rfl).below (lone_below hb2) hg; simp only [Nat.zero_mul, Nat.zero_add] at v0 v1 v2 v3; obtain ⟨q0, q1, q2, q3⟩ := (hl1.out 2 x rfl).below (lone_below hb2) hg; simp only [Nat.reduceMul, Nat.reduceAdd] at q0 q1 q2 q3; have hne : ¬ g = w1.heap.size := (by omega); have hne2 : ¬ w1.heap.size = g := (by omega)))
 all_goals first | omega | skip
 obtain ⟨s1, s2, s3⟩ := line_set (T := 71) (cur := #[.string ⟨#[]⟩, .string ⟨#[]⟩, .slice none 0 0]) (w := ((w2.setCell ⟨w1.heap.size, 0, none⟩ (.string (str t.text))).setCell ⟨w1.heap.size, 1, none⟩ (.string (str x.text)))) (g := w.heap.size) (by rw [heap_setCell_other _ _ _ _ hne3, heap_setCell_other _ _ _ _ hne3]; exact rh.out) rfl (.string (str t.text)) (.string (str x.text)) (.slice none 0 0)
 have hbS : Below w.heap.size w ((w2.setCell ⟨w1.heap.size, 0, none⟩ (.string (str t.text))).setCell ⟨w1.heap.size, 1, none⟩ (.string (str x.text))) := (ltwo_below hb1 (lone_below hb2)).trans (((Below.refl w.heap.size w2).setCell (p := ⟨w1.heap.size, 0, none⟩) (by show w.heap.size <= w1.heap.size; have := lalloc_lt hb1; omega) _).setCell (p := ⟨w1.heap.size, 1, none⟩) (by show w.heap.size <= w1.heap.size; have := lalloc_lt hb1; omega) _)
 generalize ((w2.setCell ⟨w1.heap.size, 0, none⟩ (.string (str t.text))).setCell ⟨w1.heap.size, 1, none⟩ (.string (str x.text))) = w5 at s1 s2 s3 hbS ⊢
 generalize (((w5.setCell ⟨w.heap.size, 0, none⟩ (.string (str t.text))).setCell ⟨w.heap.size, 1, none⟩ (.string (str x.text))).setCell ⟨w.heap.size, 2, none⟩ (.slice none 0 0)) = w4 at s1 s2 s3 ⊢
 obtain ⟨z0, z1, z2⟩ := line_read s1
 refine bodyPost_ret (by simp [results, Tryz.results28, go_sem, z0, z1, z2]; try rfl) rfl ?_
 exact ⟨hbS.trans s2, none, 0, rfl, .inl rfl⟩
end Go.Proofs.YtlkmegchaeokgaaGreatDoor
/- The document's Parse: a label, and arguments. -/
namespace Go.Proofs.YtlkmegchaeokgaaGreatDoor
open Go.ChangeShapes Go.WideShapes Go.ChangeAt Go.RowKit
set_option linter.unusedVariables false
set_option maxRecDepth 100000
theorem two_sets (w : World) (b : Nat) (x y : Value) : w.grownBy ((w.setCell ⟨b, 0, none⟩ x).setCell ⟨b, 1, none⟩ y) (some b) :=
 ⟨rfl, rfl, rfl, by simp, fun j hj hne => by
  have hj' : j ≠ b := fun e => hne (by rw [e])
  rw [heap_setCell_other _ _ _ _ hj', heap_setCell_other _ _ _ _ hj']⟩
set_option maxHeartbeats 4000000 in
theorem refParse_labLoop (s : ByteArray) (hs : s.size <= 1100000) (t u x y : Tok) (r : List Tok) (h : scan (bs s) 0 = .ok (t :: u :: x :: y :: r)) (hk : t.kind = 1) (hu : isS u 58 = true) (hkx : x.kind = 1) (w : World) :
  Calls Tryz.prog 28 #[.string s] w fun e w' => RPOut w.heap.size w (lnR t.text x.text (argsF s.size (y :: r) [] [])) e w' := by
 have hT := Hid.intro (fun w => refTokens_ok s hs (t :: u :: x :: y :: r) h w)
 have hlen := scan_len _ _ _ h
 rw [bs_length] at hlen
 have hll : ((t :: u :: x :: y :: r)).length = r.length + 1 + 1 + 1 + 1 := rfl
 rw [hll] at hT hlen
 clear h hll
 have hk' : (t.kind == 1) = true := by simp [hk]
 have hk2 : (t.kind != 1) = false := by simp [hk]
 clear hk
 have hS := Hid.intro (refSign_b u 58 true hu)
 clear hu
 have hz2 : ((2 : Int) == (r.length : Int) + 1 + 1 + 1 + 1) = false := by simp; omega
 have hz3 : ((3 : Int) == (r.length : Int) + 1 + 1 + 1 + 1) = false := by simp; omega
 have hd : decide (2 <= (r.length : Int) + 1 + 1 + 1 + 1) = true := by simp; omega
 have hkx' : (x.kind != 1) = false := by simp [hkx]
 clear hkx
 obtain ⟨R, hR⟩ : ∃ R, R = lnR t.text x.text (argsF s.size (y :: r) [] []) := ⟨_, rfl⟩
 rw [<- hR]
 replace hR := Hid.intro hR
 go_enter Tryz.func28, Tryz.ntmps28
 go_wp2_with (first
  | (go_at_call 51; with_reducible refine (hT.out _).mono ?_; rintro e w1 ⟨hb1, a1, c1, rfl, hl1, hlo1⟩; obtain ⟨g, rfl, hg, hl1⟩ := toks_of hl1; have hgl : w.heap.size < g := (by have := hlo1 _ rfl; simp at this; omega); have hl1 := Hid.intro hl1; clear hlo1; obtain ⟨y0, y1, y2, y3⟩ := hl1.out 0 t rfl; simp only [Nat.zero_mul, Nat.zero_add] at y0 y1 y2 y3; obtain ⟨x0, x1, x2, x3⟩ := hl1.out 1 u rfl; simp only [Nat.one_mul, Nat.reduceAdd] at x0 x1 x2 x3; replace y0 := cellA y0; replace y1 := cellA y1; replace x0 := cellA x0; replace x1 := cellA x1; replace x2 := cellA x2; replace x3 := cellA x3)
  | (go_at_call 52; with_reducible refine (hS.out _).mono ?_; rintro e w2 ⟨rfl, hb2⟩; have hgs := lalloc_lt hb2; obtain ⟨oh, o0, o1, o2, p0, p1, p2⟩ := lineCells_below hb2; replace oh := Hid.intro oh; have rres := Hid.intro ((lineCells_below hb1).below (lone_below hb2) (lalloc_lt hb1)); obtain ⟨v0, v1, v2, v3⟩ := (hl1.out 0 t rfl).below (lone_below hb2) hg; simp only [Nat.zero_mul, Nat.zero_add] at v0 v1 v2 v3; obtain ⟨q0, q1, q2, q3⟩ := (hl1.out 2 x rfl).below (lone_below hb2) hg; simp only [Nat.reduceMul, Nat.reduceAdd] at q0 q1 q2 q3; have hne : ¬ g = w1.heap.size := (by omega); have hne2 : ¬ w1.heap.size = g := (by omega)))
 all_goals first | omega | skip
 have hstart := Hid.intro (pst_start (ts := (t :: u :: x :: y :: r)) (e := s.size) (R := R) (lab := t.text) (op := x.text) hb1 hb2 (by rw [heap_setCell_same _ w1.heap.size 1 _ 71 _ (heap_setCell_same w2 w1.heap.size 0 _ 71 _ oh.out)]; rfl) (two_sets w2 w1.heap.size _ _) 3 (by simp) hgl hg (fun k t ht => hl1.out k t ht) hR.out)
 generalize ((w2.setCell ⟨w1.heap.size, 0, none⟩ (.string (str t.text))).setCell ⟨w1.heap.size, 1, none⟩ (.string (str x.text))) = wS at hstart ⊢
 generalize w1.heap.size + 1 = lo at hstart
 clear hl1 hb1 hb2 hT hS hR o0 o1 o2 p0 p1 p2 oh rres v0 v1 v2 v3 hne hne2 y0 y1 y2 y3 x0 x1 x2 x3 hgs q0 q1 q2 q3
 generalize w1.heap.size = bo at hstart hg ⊢
 obtain ⟨n0, hn0⟩ : ∃ n0, n0 = ((t :: u :: x :: y :: r)).length := ⟨_, rfl⟩
 have hll : r.length + 1 + 1 + 1 + 1 = n0 := hn0.symm
 rw [hll] at hlen ⊢
 replace hll := Hid.intro hll
 have hnH := Hid.intro hn0
 clear hn0
 generalize hTS : (t :: u :: x :: y :: r) = ts at hstart hnH
 clear hTS
 have hn0i : (n0 : Int) <= 1100000 := by omega
 obtain ⟨i0, hi, hz0, hz1, hz2⟩ := info_parts Tryz.info103
 obtain ⟨j0, hj, hy0, hy1, hy2⟩ := info_parts Tryz.info100
 go_loopw [9, 10] (fun vi v8 wr => ∃ (i : Nat) (arg : List Tok) (acc : List (List Tok)) (va : Value) (vs : List Value) (m : Nat), vi = .int .i64 (i : Int) /\ Hid (LPSt ts s.size w R t.text x.text g w.heap.size bo lo i arg acc va v8 vs m wr)) (fun vi _ _ => n0 - (intOf vi).toNat)
 case atStart => exact ⟨3, [], [], .slice none 0 0, [], _, rfl, hstart⟩
 case round =>
  clear hstart
  obtain ⟨i, arg, acc, va, vs, m, rfl, hS⟩ := hrel
  obtain ⟨a1, c1, rfl⟩ := lown_slice hS.out.args.row
  obtain ⟨a2, c2, rfl⟩ := lown_slice hS.out.own
  have hle := hS.out.le
  have hfew := hS.out.few
  have hfewA := hS.out.fewA
  have hvl : vs.length <= i := by have := hS.out.args.len; omega
  rw [<- hnH.out] at hle
  obtain ⟨k7, hk7⟩ : ∃ k7, k7 = vs.length := ⟨_, rfl⟩
  obtain ⟨k8, hk8⟩ : ∃ k8, k8 = arg.length := ⟨_, rfl⟩
  rw [<- hk7, <- hk8] at hS
  rw [<- hk7] at hvl
  rw [<- hk8] at hfew ⊢
  have hk7H := Hid.intro hk7
  have hk8H := Hid.intro hk8
  clear hk7 hk8
  have hownH : Hid (wr.ownsRow m 103 4 (.slice a2 k8 c2) k8 (rowOf arg)) := by
   have := hS.out.own
   rwa [<- hk8H.out] at this
  have hrowH : Hid (wr.ownsRow lo 100 1 (.slice a1 k7 c1) k7 vs) := by
   have := hS.out.args.row
   rwa [<- hk7H.out] at this
  have hmle := hS.out.args.le
  have hmlo := hS.out.lom
  have hrt := hS.out.res
  have hrlt : w.heap.size < wr.heap.size := (Array.getElem?_eq_some_iff.1 hrt.heap).1
  replace hrt := Hid.intro hrt
  have hbolt : bo < lo := hS.out.bor.2.1
  have hvaH : Hid (∀ k, (Value.slice a1 k7 c1).ownBlock = some k -> lo <= k) := fun k hk => (hS.out.args.row.lt k hk).1
  by_cases hlt : i < n0
  ·obtain ⟨t, ht⟩ : ∃ t, ts[i]? = some t := ⟨ts[i]'(by rw [<- hnH.out]; exact hlt), List.getElem?_eq_getElem _⟩
   have htH := Hid.intro ht
   clear ht
   obtain ⟨q0, q1, q2, q3⟩ := hS.out.tok i t htH.out
   have hcur := Hid.intro (hS.out.cur t)
   cases h1 : isS t 58
   ·cases h2 : isS t 44
    ·have hc58 := Hid.intro (refSign_b t 58 false h1)
     have hc44 := Hid.intro (refSign_b t 44 false h2)
     have hn := Hid.intro (fun (w2 w3 : World) (v2 : Value) (o : Obj) => pst_more hS.out t htH.out h1 h2 w2 w3 v2 o)
     clear h1 h2
     go_wp2_with (first
      | (go_at_call 52; with_reducible refine (hc58.out _).mono ?_; rintro e w2 ⟨rfl, hb2⟩; replace hcur := Hid.intro (hcur.out.step hb2); obtain ⟨d0, d1, d2, d3⟩ := hcur.out.box; simp only [Nat.zero_add] at d1 d2 d3)
      | (go_at_call 52; with_reducible refine (hc44.out _).mono ?_; rintro e w2 ⟨rfl, hb2⟩; replace hcur := Hid.intro (hcur.out.step hb2); obtain ⟨d0, d1, d2, d3⟩ := hcur.out.box; simp only [Nat.zero_add] at d1 d2 d3)
      | (at_builtin; go_must (refine wpList_append_own_wide _ rfl (.tmp 106) (.tmp 108) 100 rfl m 103 i0 (.agg #[.int .i64 0, .string ⟨#[]⟩, .int .u32 0, .int .i64 0]) 4 40 Tryz.underlying100 hi hz0 hz1 hz2 rfl (by decide) (.slice a2 k8 c2) k8 (rowOf arg) rfl ((ownsRow_below hownH.out hcur.out.bel).alloc _) ⟨w2.heap.size, 0, none⟩ 1 1 [.int .i64 t.kind, .string (str t.text), .int .u32 t.num, .int .i64 (t.place : Int)] rfl rfl (cells_new _ _ _) (by simp [Value.oneCell']) (by unfold maxLen; omega) (by omega) (by have := hcur.out.bel.size; simp; omega) ?_; intro v2 w3 hown3 hgrow3 _)))
     all_goals first | omega | skip
     go_roundw
     case rel => exact ⟨i + 1, arg ++ [t], acc, _, vs, m, by go_num, Hid.intro (hn.out w2 w3 v2 _ hcur.out hgrow3 (by rw [<- hk8H.out]; exact hown3))⟩
     case measure => simp [intOf]; omega
    ·have hc58 := Hid.intro (refSign_b t 58 false h1)
     have hc44 := Hid.intro (refSign_b t 44 true h2)
     by_cases h0 : k8 = 0
     ·have hRe : Hid (R = .error t.place) := by
       show R = _
       rw [hS.out.eq, ldrop_at ts i t htH.out, argsF_empty _ _ _ _ _ h1 h2 (by rw [<- hk8H.out]; exact h0)]
       rfl
      have hz : ((k8 : Int) == 0) = true := by simp [h0]
      clear h1 h2 h0
      go_wp2_with (first
       | (go_at_call 52; with_reducible refine (hc58.out _).mono ?_; rintro e w2 ⟨rfl, hb2⟩; replace hcur := Hid.intro (hcur.out.step hb2); obtain ⟨d0, d1, d2, d3⟩ := hcur.out.box; simp only [Nat.zero_add] at d1 d2 d3; replace hrt := Hid.intro (res_below hS.out.res hcur.out.bel))
       | (go_at_call 52; with_reducible refine (hc44.out _).mono ?_; rintro e w2 ⟨rfl, hb2⟩; replace hcur := Hid.intro (hcur.out.step hb2); obtain ⟨d0, d1, d2, d3⟩ := hcur.out.box; simp only [Nat.zero_add] at d1 d2 d3; replace hrt := Hid.intro (res_below hS.out.res hcur.out.bel)))
      all_goals first | omega | skip
      obtain ⟨rh, r0, r1, r2, f0, f1, f2⟩ := hrt.out
      replace rh := Hid.intro rh
      have hne3 : ¬ w.heap.size = wr.heap.size := by omega
      have hne4 : ¬ wr.heap.size = w.heap.size := by omega
      go_region
      go_wp2
      obtain ⟨s1, s2, s3⟩ := line_set rh.out rfl (.string ⟨#[]⟩) (.string ⟨#[]⟩) (.slice none 0 0)
      generalize (((w2.setCell ⟨w.heap.size, 0, none⟩ (.string ⟨#[]⟩)).setCell ⟨w.heap.size, 1, none⟩ (.string ⟨#[]⟩)).setCell ⟨w.heap.size, 2, none⟩ (.slice none 0 0)) = w4 at s1 s2 s3 ⊢
      have s1' : w4.drew.heap[w.heap.size]? = some (.cells #[.string ⟨#[]⟩, .string ⟨#[]⟩, .slice none 0 0] 71 (0, 0)) := s1
      obtain ⟨z0, z1, z2⟩ := line_read s1'
      refine bodyPost_ret (by simp [results, Tryz.results28, go_sem, z0, z1, z2]; try rfl) rfl ?_
      rw [hRe.out]
      exact ⟨((hS.out.bel.trans (hcur.out.bel.mono (by omega))).trans s2).drew, rfl⟩
     ·have hn := Hid.intro (fun (w2 w3 : World) (v2 : Value) (o : Obj) => pst_comma hS.out t htH.out h1 h2 (by rw [<- hk8H.out]; exact h0) w2 w3 v2 o)
      have hz : ((k8 : Int) == 0) = false := by simp [h0]
      clear h1 h2 h0
      go_wp2_with (first
       | (go_at_call 52; with_reducible refine (hc58.out _).mono ?_; rintro e w2 ⟨rfl, hb2⟩; replace hcur := Hid.intro (hcur.out.step hb2); obtain ⟨d0, d1, d2, d3⟩ := hcur.out.box; simp only [Nat.zero_add] at d1 d2 d3; have oc := hcur.out.cell; replace oc := cellA oc)
       | (go_at_call 52; with_reducible refine (hc44.out _).mono ?_; rintro e w2 ⟨rfl, hb2⟩; replace hcur := Hid.intro (hcur.out.step hb2); obtain ⟨d0, d1, d2, d3⟩ := hcur.out.box; simp only [Nat.zero_add] at d1 d2 d3; have oc0 := hcur.out.cell; have oc := cellA oc0)
       | (at_builtin; go_must (refine wpList_append_own _ rfl (.tmp 99) (.tmp 101) 69 rfl lo 100 j0 (.slice none 0 0) 1 24 Tryz.underlying69 hj hy0 hy1 hy2 rfl (by decide) (.slice a1 k7 c1) k7 vs rfl ((ownsRow_below hrowH.out hcur.out.bel).alloc _) ⟨w2.heap.size, 0, none⟩ 1 1 [.slice a2 k8 c2] rfl rfl (cells_new _ _ _) (by simp [Value.oneCell']) (by unfold maxLen; omega) (by omega) (by have := hcur.out.bel.size; simp; omega) ?_; intro v2 w3 hown3 hgrow3 _; obtain ⟨oc3, of3⟩ := cur_out hcur.out hbolt hvaH.out hgrow3; obtain ⟨a3, c3, rfl⟩ := lown_slice hown3)))
      all_goals first | omega | skip
      go_roundw
      case rel => exact ⟨i + 1, [], acc ++ [arg], _, vs ++ [.slice a2 k8 c2], w3.heap.size, by go_num, Hid.intro (hn.out w2 w3 _ _ hcur.out hgrow3 (by rw [<- hk7H.out]; exact hown3))⟩
      case measure => simp [intOf]; omega
   ·have hc58 := Hid.intro (refSign_b t 58 true h1)
    have hRe : Hid (R = .error t.place) := by
     show R = _
     rw [hS.out.eq, ldrop_at ts i t htH.out, argsF_sign _ _ _ _ _ h1]
     rfl
    clear h1
    go_wp2_with (go_at_call 52; with_reducible refine (hc58.out _).mono ?_; rintro e w2 ⟨rfl, hb2⟩; replace hcur := Hid.intro (hcur.out.step hb2); obtain ⟨d0, d1, d2, d3⟩ := hcur.out.box; simp only [Nat.zero_add] at d1 d2 d3; replace hrt := Hid.intro (res_below hS.out.res hcur.out.bel))
    all_goals first | omega | skip
    obtain ⟨rh, r0, r1, r2, f0, f1, f2⟩ := hrt.out
    replace rh := Hid.intro rh
    have hne3 : ¬ w.heap.size = wr.heap.size := by omega
    have hne4 : ¬ wr.heap.size = w.heap.size := by omega
    go_region
    go_wp2
    obtain ⟨s1, s2, s3⟩ := line_set rh.out rfl (.string ⟨#[]⟩) (.string ⟨#[]⟩) (.slice none 0 0)
    generalize (((w2.setCell ⟨w.heap.size, 0, none⟩ (.string ⟨#[]⟩)).setCell ⟨w.heap.size, 1, none⟩ (.string ⟨#[]⟩)).setCell ⟨w.heap.size, 2, none⟩ (.slice none 0 0)) = w4 at s1 s2 s3 ⊢
    have s1' : w4.drew.heap[w.heap.size]? = some (.cells #[.string ⟨#[]⟩, .string ⟨#[]⟩, .slice none 0 0] 71 (0, 0)) := s1
    obtain ⟨z0, z1, z2⟩ := line_read s1'
    refine bodyPost_ret (by simp [results, Tryz.results28, go_sem, z0, z1, z2]; try rfl) rfl ?_
    rw [hRe.out]
    exact ⟨((hS.out.bel.trans (hcur.out.bel.mono (by omega))).trans s2).drew, rfl⟩
  ·have hin : Hid (i = ts.length) := by
    show i = _
    rw [<- hnH.out]
    omega
   obtain ⟨rh, r0, r1, r2, f0, f1, f2⟩ := hrt.out
   replace rh := Hid.intro rh
   by_cases h0 : k8 = 0
   ·have hRe : Hid (R = .error s.size) := by
     show R = _
     rw [hS.out.eq, hin.out, List.drop_length, argsF, if_pos (by rw [<- hk8H.out]; exact h0)]
     rfl
    have hz : ((k8 : Int) == 0) = true := by simp [h0]
    clear h0
    go_wp2
    all_goals first | omega | skip
    obtain ⟨s1, s2, s3⟩ := line_set rh.out rfl (.string ⟨#[]⟩) (.string ⟨#[]⟩) (.slice none 0 0)
    generalize (((wr.setCell ⟨w.heap.size, 0, none⟩ (.string ⟨#[]⟩)).setCell ⟨w.heap.size, 1, none⟩ (.string ⟨#[]⟩)).setCell ⟨w.heap.size, 2, none⟩ (.slice none 0 0)) = w4 at s1 s2 s3 ⊢
    obtain ⟨z0, z1, z2⟩ := line_read s1
    refine bodyPost_ret (by simp [results, Tryz.results28, go_sem, z0, z1, z2]; try rfl) rfl ?_
    rw [hRe.out]
    exact ⟨hS.out.bel.trans s2, rfl⟩
   ·have hS' : Hid (LPSt ts s.size w R t.text x.text g w.heap.size bo lo ts.length arg acc (.slice a1 k7 c1) (.slice a2 k8 c2) vs m wr) := by
     have := hS.out
     rwa [hin.out] at this
    have hn := Hid.intro (fun (w3 : World) (v2 : Value) (o : Obj) => pst_end hS'.out (by rw [<- hk8H.out]; exact h0) w3 v2 o)
    have hz : ((k8 : Int) == 0) = false := by simp [h0]
    have hne3 : ¬ w.heap.size = bo := hS.out.bor.2.2
    have hne4 : ¬ bo = w.heap.size := fun e => hS.out.bor.2.2 e.symm
    have oc0 := (line_read hS.out.out).2.2
    have oc := cellA oc0
    clear h0 r0 r1 r2 f0 f1 f2
    go_wp2_with (at_builtin; go_must (refine wpList_append_own _ rfl (.tmp 119) (.tmp 121) 69 rfl lo 100 j0 (.slice none 0 0) 1 24 Tryz.underlying69 hj hy0 hy1 hy2 rfl (by decide) (.slice a1 k7 c1) k7 vs rfl (hrowH.out.alloc _) ⟨wr.heap.size, 0, none⟩ 1 1 [.slice a2 k8 c2] rfl rfl (cells_new _ _ _) (by simp [Value.oneCell']) (by unfold maxLen; omega) (by omega) (by simp; omega) ?_; intro v2 w3 hown3 hgrow3 _; obtain ⟨a3, c3, rfl⟩ := lown_slice hown3; obtain ⟨e1, e2, e3, e4, e5, e6, e7⟩ := hn.out w3 _ _ hgrow3 (by rw [<- hk7H.out]; exact hown3); replace e1 := Hid.intro e1; replace e2 := Hid.intro e2; replace e4 := Hid.intro e4; obtain ⟨l0, l1, l2⟩ := line_read e2.out; obtain ⟨rh3, r0, r1, r2, f0, f1, f2⟩ := e3; replace rh3 := Hid.intro rh3))
    all_goals first | omega | skip
    obtain ⟨s1, s2, s3⟩ := line_set rh3.out rfl (.string (str t.text)) (.string (str x.text)) (.slice a3 (k7 + 1) c3)
    generalize (w3.setCell ⟨bo, 2, none⟩ (.slice a3 (k7 + 1) c3)) = w5 at s1 s2 s3 e4 e5 ⊢
    generalize (((w5.setCell ⟨w.heap.size, 0, none⟩ (.string (str t.text))).setCell ⟨w.heap.size, 1, none⟩ (.string (str x.text))).setCell ⟨w.heap.size, 2, none⟩ (.slice a3 (k7 + 1) c3)) = w4 at s1 s2 s3 ⊢
    obtain ⟨z0, z1, z2⟩ := line_read s1
    refine bodyPost_ret (by simp [results, Tryz.results28, go_sem, z0, z1, z2]; try rfl) rfl ?_
    rw [e1.out]
    have hAf := e4.out.lower s3 hS.out.bor.1
    have hlf : (acc ++ [arg]).length = k7 + 1 := by rw [<- hAf.len, List.length_append, <- hk7H.out]; rfl
    refine ⟨e5.trans s2, a3, c3, ?_, hAf.lies⟩
    show _ = Ending.returned (Value.tuple #[.agg #[.string (str t.text), .string (str x.text), .slice a3 (acc ++ [arg]).length c3], .int .i64 0, .int .i64 0])
    rw [hlf]
end Go.Proofs.YtlkmegchaeokgaaGreatDoor
namespace Go.Proofs.YtlkmegchaeokgaaGreatDoor
open Go.ChangeShapes Go.WideShapes Go.ChangeAt Go.RowKit
set_option linter.unusedVariables false
set_option maxRecDepth 100000
theorem lineT_one (n : Nat) (lab : List UInt8) (t : Tok) (hk : t.kind = 1) : lineT n lab [t] = .ok ⟨lab, t.text, []⟩ := by
 simp only [lineT]
 rw [if_pos hk]
 rfl
theorem lineT_no (n : Nat) (lab : List UInt8) (t : Tok) (r : List Tok) (hk : t.kind ≠ 1) : lineT n lab (t :: r) = .error t.place := by
 simp only [lineT]
 rw [if_neg hk]
theorem lineT_more (n : Nat) (lab : List UInt8) (t u : Tok) (r : List Tok) (hk : t.kind = 1) : lineT n lab (t :: u :: r) = lnR lab t.text (argsF n (u :: r) [] []) := by
 simp only [lineT]
 rw [if_pos hk]
 unfold argsT
 rw [if_neg (by simp)]
 cases argsF n (u :: r) [] [] <;> rfl
theorem cutT_no (t u : Tok) (r : List Tok) (h : ¬ (t.kind = 1 /\ isS u 58 = true)) : cutT (t :: u :: r) = ([], t :: u :: r) := by
 simp only [cutT]
 rw [if_neg h]
theorem cutT_yes (t u : Tok) (r : List Tok) (h : t.kind = 1 /\ isS u 58 = true) : cutT (t :: u :: r) = (t.text, r) := by
 simp only [cutT]
 rw [if_pos h]
theorem refLine_any (s : ByteArray) (hs : s.size <= 1100000) (w : World) :
  Calls Tryz.prog 28 #[.string s] w fun e w' => RPOut w.heap.size w (parseL (bs s)) e w' := by
 unfold parseL
 cases h : scan (bs s) 0 with
 | error p => exact refParse_bad s hs p h w
 | ok ts =>
  simp only
  rw [bs_length]
  unfold parseT
  match ts, h with
  | [], h => exact refParse_none s hs h w
  | [t], h =>
   by_cases hk : t.kind = 1
   ·show Calls _ _ _ _ fun e w' => RPOut w.heap.size w (lineT s.size [] [t]) e w'
    rw [lineT_one _ _ _ hk]
    exact refParse_one s hs t h hk w
   ·show Calls _ _ _ _ fun e w' => RPOut w.heap.size w (lineT s.size [] [t]) e w'
    rw [lineT_no _ _ _ _ hk]
    exact refParse_wrong s hs t [] h hk w
  | t :: u :: r, h =>
   by_cases hk : t.kind = 1
   ·cases hu : isS u 58
    ·rw [cutT_no t u r (fun x => by rw [hu] at x; cases x.2), lineT_more _ _ _ _ _ hk]
     exact refParse_loop s hs t u r h hk hu w
    ·rw [cutT_yes t u r ⟨hk, hu⟩]
     match r, h with
     | [], h => exact refParse_lab s hs t u h hk hu w
     | [x], h =>
      by_cases hkx : x.kind = 1
      ·rw [lineT_one _ _ _ hkx]
       exact refParse_labOp s hs t u x h hk hu hkx w
      ·rw [lineT_no _ _ _ _ hkx]
       exact refParse_labWrong s hs t u x [] h hk hu hkx w
     | x :: y :: r, h =>
      by_cases hkx : x.kind = 1
      ·rw [lineT_more _ _ _ _ _ hkx]
       exact refParse_labLoop s hs t u x y r h hk hu hkx w
      ·rw [lineT_no _ _ _ _ hkx]
       exact refParse_labWrong s hs t u x (y :: r) h hk hu hkx w
   ·rw [cutT_no t u r (fun x => hk x.1), lineT_no _ _ _ _ hk]
    exact refParse_wrong s hs t (u :: r) h hk w
theorem refLine_ok (s : ByteArray) (hs : s.size <= 1100000) (L : Ln) (h : parseL (bs s) = .ok L) (w : World) :
  Calls Tryz.prog 28 #[.string s] w fun e w' => Below w.heap.size w w' /\ ∃ a c, e = .returned (.tuple #[.agg #[.string (str L.label), .string (str L.op), .slice a L.args.length c], .int .i64 0, .int .i64 0]) /\ ArgsLie w' a L.args := by
 have := refLine_any s hs w
 rw [h] at this
 exact this
end Go.Proofs.YtlkmegchaeokgaaGreatDoor

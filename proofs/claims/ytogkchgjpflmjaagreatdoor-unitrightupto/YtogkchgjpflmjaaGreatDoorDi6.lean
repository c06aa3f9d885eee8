/- item's Read, of any line. -/
import Derived.Test.YtogkchgjpflmjaaGreatDoorRefAdd
import Derived.Test.YtogkchgjpflmjaaGreatDoorAllIt
import Derived.Test.YtogkchgjpflmjaaGreatDoorDi5
import Derived.Test.YtogkchgjpflmjaaGreatDoorDi5b
import Derived.Test.YtogkchgjpflmjaaGreatDoorDi5c
import Derived.Test.YtogkchgjpflmjaaGreatDoorDi5d
import Derived.Test.YtogkchgjpflmjaaGreatDoorDi5e
/- item's reader of several items: bytes and words. -/
namespace Go.Proofs.YtogkchgjpflmjaaGreatDoor
open Go.ChangeShapes Go.WideShapes Go.ChangeAt Go.RowKit
set_option linter.unusedVariables false
set_option maxRecDepth 100000
theorem ItOwn.push {lo : Nat} {w w' : World} {v v' : Value} {p : List (Itm × Value)} {q : Itm × Value} (h : ItOwn lo w v p) (hq : w.ownsRow lo 123 2 q.2 q.1.e.terms.length (rowT q.1.e.terms)) (hg : w.grownBy w' v.ownBlock) (hrow : w'.ownsRow lo 91 10 v' (p.length + 1) (rowI (p ++ [q]))) : ItOwn lo w' v' (p ++ [q]) := by
  refine ⟨by rw [List.length_append, List.length_singleton]; exact hrow, fun y hy => ?_⟩
  rcases List.mem_append.1 hy with hy | hy
  · exact (h.each y hy).kept hg (own_other (h.each y hy) h.row (by decide))
  · simp at hy
    subst hy
    exact hq.kept hg (own_other hq h.row (by decide))
theorem ItOwn.lies {lo : Nat} {w : World} {v : Value} {p : List (Itm × Value)} (h : ItOwn lo w v p) : ItemsLie w v (p.map (·.1)) := by
  rcases h.row.2 with ⟨hv, h0⟩ | ⟨g, cap, cur, hv, _, hg, _⟩
  · exact .inl ⟨by rw [List.length_eq_zero_iff.1 h0]; rfl, hv⟩
  · refine .inr ⟨g, cap, by rw [hv, List.length_map], (Array.getElem?_eq_some_iff.1 hg).1, fun i x hx => ?_⟩
    rw [List.getElem?_map] at hx
    obtain ⟨q, hq, rfl⟩ := Option.map_eq_some_iff.1 hx
    have hlt := (List.getElem?_eq_some_iff.1 hq).1
    have ho := h.each q (List.mem_of_getElem? hq)
    obtain ⟨va, vc, hva⟩ := own_slice ho
    have hrow := h.row
    rw [hv] at hrow
    have key : ∀ j, j < 10 → w.cell? ⟨g, i * 10 + j, none⟩ = (itmCells q.1 q.2).toList[j]? := fun j hj => by
      rw [hrow.cellAt _ (by omega)]
      exact flat_at (fun q : Itm × Value => (itmCells q.1 q.2).toList) 10 (fun _ => rfl) p i j q hq hj
    rw [hva] at key ho
    exact ⟨va, _, vc, ⟨key 0 (by omega), key 1 (by omega), key 2 (by omega), key 3 (by omega), key 4 (by omega), key 5 (by omega), key 6 (by omega), key 7 (by omega), key 8 (by omega), key 9 (by omega)⟩, rfl, own_tmLies ho⟩
theorem info33 : (Tryz.prog.info? 91).map (fun i => (i.zero, i.size, i.bytes)) = some (some (.agg #[.int .i64 0, .string ⟨#[]⟩, .int .i64 0, .int .i64 0, .int .i64 0, .int .i32 0, .int .i64 0, .slice none 0 0, .int .u32 0, .int .i64 0]), 10, 104) := by kernel_rfl
theorem step_item {ops : Array Oper} {o : Oper} {a : Act} {K : Act → World → Prop} {Q : Exit → Act → World → Prop} {E : Prop} (w : World) (hgd : o.guard = none) (s x : Operand)
    (ho : o.op = .call { callee := .builtin .append, args := #[s, x], argTypes := #[22, 22] }) (base : Nat) (a1 : Option Addr) (L c1 : Nat) (p : List (Itm × Value)) (hs : a.eval s = .slice a1 L c1) (hown : w.ownsRow base 91 10 (.slice a1 L c1) L (rowI p))
    (g : Nat) (y : Itm) (va : Option Addr) (n vc : Nat) (hx : a.eval x = .slice (some ⟨g, 0, none⟩) 1 1) (hc : ∀ j u, (itmCells y (.slice va n vc)).toList[j]? = some u → w.cell? ((⟨g, 0, none⟩ : Addr).add j) = some u) (hm : L ≤ 4500000) (hbase : base ≤ w.heap.size)
    (hK : ∀ a' c' w', w'.ownsRow base 91 10 (.slice a' (L + 1) c') (L + 1) (rowI (p ++ [(y, .slice va n vc)])) → w.grownBy w' (Value.slice a1 L c1).ownBlock → K (a.put o.dst (.slice a' (L + 1) c')) w') :
    if Region.wanted o (yielded ops a.tmps) = true then Oper.wp Tryz.prog o a w K Q else E := by
  have hw : Region.wanted o (yielded ops a.tmps) = true := by simp [Region.wanted, hgd]
  rw [if_pos hw]
  obtain ⟨i0, hi, hz0, hz1, hz2⟩ := info_parts info33
  obtain ⟨v', w', hrun, r1, r2, _⟩ := run_append_own_wide (P := Tryz.prog) w base 22 o.type 91 i0 (.agg #[.int .i64 0, .string ⟨#[]⟩, .int .i64 0, .int .i64 0, .int .i64 0, .int .i32 0, .int .i64 0, .slice none 0 0, .int .u32 0, .int .i64 0]) 10 104 Tryz.underlying22 hi hz0 hz1 hz2 rfl (by decide) (.slice a1 L c1) L (rowI p) hown ⟨g, 0, none⟩ 1 1 (itmCells y (.slice va n vc)).toList rfl hc (by simp [Value.oneCell']) (by unfold maxLen; omega) (by omega) hbase
  obtain ⟨a', c', rfl⟩ := own_slice r1
  unfold Oper.wp
  simp [execOp, ho, resolve, invoke, builtin, hs, hx, hrun, Result.andThen]
  exact hK a' c' w' (by rw [rowI_push]; exact r1) r2
def itsAcc (acc : List Itm) (R : Except Int (List Itm)) : Except Int (List Itm) := match R with | .error k => .error k | .ok l => .ok (acc ++ l)
structure SvSt (w : World) (b : Nat) (kind : Int) (a : Option Addr) (args : List (List Tok)) (R0 : Except Int (List Itm)) (i : Nat) (p : List (Itm × Value)) (a1 : Option Addr) (L c1 : Nat) (wr : World) : Prop where
  bel : Below b w wr
  ins : ArgsIn b wr a args
  blk : wr.heap[b]? = some (.cells #[.int .i64 kind, .slice a1 L c1] 231 (0, 0))
  own : ItOwn (b + 1) wr (.slice a1 L c1) p
  len : L = p.length
  eq : R0 = itsAcc (p.map (·.1)) (itsF kind (args.drop i))
  few : L ≤ i
theorem SvSt.below {w : World} {b : Nat} {kind : Int} {a : Option Addr} {args : List (List Tok)} {R0 : Except Int (List Itm)} {i : Nat} {p : List (Itm × Value)} {a1 : Option Addr} {L c1 : Nat} {wr w' : World} (h : SvSt w b kind a args R0 i p a1 L c1 wr) (hb : Below wr.heap.size wr w') : SvSt w b kind a args R0 i p a1 L c1 w' := by
  have hlt := blk_lt h.blk
  exact ⟨h.bel.trans (hb.mono (by omega)), h.ins.below (hb.mono (by omega)), by rw [hb.block b hlt]; exact h.blk, h.own.below hb, h.len, h.eq, h.few⟩
theorem SvSt.push {w : World} {b : Nat} {kind : Int} {a : Option Addr} {args : List (List Tok)} {R0 : Except Int (List Itm)} {i : Nat} {p : List (Itm × Value)} {a1 : Option Addr} {L c1 : Nat} {wr wa w3 : World} (h : SvSt w b kind a args R0 i p a1 L c1 wr) (hb : Below wr.heap.size wr wa) {arg : List Tok} (harg : args[i]? = some arg) {q : Itm × Value} (hit : itOf kind arg = .ok q.1) (hq : wr.ownsRow (b + 1) 123 2 q.2 q.1.e.terms.length (rowT q.1.e.terms))
    {a3 : Option Addr} {c3 : Nat} (hrow : w3.ownsRow (b + 1) 91 10 (.slice a3 (L + 1) c3) (L + 1) (rowI (p ++ [q]))) (hg : wa.grownBy w3 (Value.slice a1 L c1).ownBlock) : SvSt w b kind a args R0 (i + 1) (p ++ [q]) a3 (L + 1) c3 (w3.setCell ⟨b, 1, none⟩ (.slice a3 (L + 1) c3)) ∧ w3.heap[b]? = some (.cells #[.int .i64 kind, .slice a1 L c1] 231 (0, 0)) := by
  have hk := h.below hb
  have hlt := blk_lt hk.blk
  have hnb : (Value.slice a1 L c1).ownBlock ≠ some b := fun e => by have := (hk.own.row.lt _ e).1; omega
  have h3 : w3.heap[b]? = some (.cells #[.int .i64 kind, .slice a1 L c1] 231 (0, 0)) := by rw [hg.block b hlt (fun e => hnb e.symm)]; exact hk.blk
  obtain ⟨s1, s2⟩ := row_set h3 1 (.slice a3 (L + 1) c3)
  have hlen := h.len
  have hB3 : Below b wa w3 := (Below.refl b wa).grown hg (by omega) (fun j hj => by have := (hk.own.row.lt _ hj).1; omega)
  have hsz := hg.size
  have hB4 : Below b wa (w3.setCell ⟨b, 1, none⟩ (.slice a3 (L + 1) c3)) := hB3.grown s2 (by omega) (fun j hj => by cases hj; exact Nat.le_refl _)
  refine ⟨⟨hk.bel.trans hB4, hk.ins.below hB4, s1, ?_, by simp [hlen], ?_, by have := h.few; omega⟩, h3⟩
  · refine ItOwn.low ?_ s2 (by omega)
    exact hk.own.push (own_below' hq hb) hg (by rw [← hlen]; exact hrow)
  · rw [h.eq, drop_at args i arg harg, itsF, hit]
    simp only [itsAcc]
    cases itsF kind (List.drop (i + 1) args) with
    | error k => rfl
    | ok l => simp
theorem SvSt.fin {w : World} {b : Nat} {kind : Int} {a : Option Addr} {args : List (List Tok)} {R0 : Except Int (List Itm)} {i : Nat} {p : List (Itm × Value)} {a1 : Option Addr} {L c1 : Nat} {wr : World} (h : SvSt w b kind a args R0 i p a1 L c1 wr) (hi : args.length ≤ i) : R0 = .ok (p.map (·.1)) := by
  rw [h.eq, List.drop_eq_nil_of_le hi]
  simp [itsF, itsAcc]
theorem SvSt.err {w : World} {b : Nat} {kind : Int} {a : Option Addr} {args : List (List Tok)} {R0 : Except Int (List Itm)} {i : Nat} {p : List (Itm × Value)} {a1 : Option Addr} {L c1 : Nat} {wr : World} (h : SvSt w b kind a args R0 i p a1 L c1 wr) {arg : List Tok} (harg : args[i]? = some arg) {k : Int} (hit : itOf kind arg = .error k) : R0 = .error k := by
  rw [h.eq, drop_at args i arg harg, itsF, hit]
  rfl
theorem itOf_err {kind : Int} {arg : List Tok} {k : Int} (h : itOf kind arg = .error k) : k = 20 ∨ k = 21 := by
  unfold itOf at h
  split at h
  · exact exprF_err h
  · split at h
    · rename_i hn; cases h; exact numF_err hn
    · cases h
def SvOut (b : Nat) (kind : Int) (R : Except Int (List Itm)) (e : Ending) (w' : World) : Prop := match R with | .error k => e = .returned (.int .i64 k) | .ok l => e = .returned (.int .i64 0) ∧ ∃ p a1 L c1, p.map (·.1) = l ∧ w'.heap[b]? = some (.cells #[.int .i64 kind, .slice a1 L c1] 231 (0, 0)) ∧ ItOwn (b + 1) w' (.slice a1 L c1) p
def ExpW (R : Except Int Itm) (y : Lin) (W : Int) : Prop := match R with | .error k => W = k | .ok x => W = 0 ∧ { itmE with kind := 6, e := y } = x
def WhyW (R : Except Int Itm) (W : Int) : Prop := match R with | .error k => W = k | .ok _ => W = 0
theorem box_set {w w1 : World} {o : Obj} {x : Itm} {v0 : Value} (ho : o = .cells (itmCells x v0) 91) (hb : Below (w.alloc o).heap.size (w.alloc o) w1) : w1.heap[w.heap.size]? = some (.cells (itmCells x v0) 91 (0, 0)) ∧ Below w.heap.size w w1 := by
  subst ho
  refine ⟨?_, (below_alloc w _).trans (hb.mono (by simp))⟩
  rw [hb.block _ (by simp)]
  exact heap_alloc_new w _
set_option maxHeartbeats 4000000 in
theorem sevRead_5 (b : Nat) (a : Option Addr) (c : Nat) (args : List (List Tok)) (hm : args.length ≤ 1100000) (w : World) (hA : ArgsIn b w a args) (h : w.heap[b]? = some (.cells #[.int .i64 5, .slice none 0 0] 231 (0, 0))) :
    Calls Tryz.prog 263 #[.pointer (some ⟨b, 0, none⟩), .slice a args.length c] w fun e w' => Below b w w' ∧ SvOut b 5 (itsF 5 args) e w' := by
  obtain ⟨R0, hR0⟩ : ∃ R0, itsF 5 args = R0 := ⟨_, rfl⟩
  have hlt0 := blk_lt h
  have hst : Hid (SvSt w b 5 a args R0 0 [] none 0 0 w) := ⟨Below.refl _ _, hA, h, ItOwn.start _ _, rfl, by rw [← hR0]; simp only [itsAcc, List.drop_zero]; cases itsF 5 args <;> rfl, Nat.le_refl _⟩
  rw [hR0]
  clear hR0 h hA
  obtain ⟨n0, hn0⟩ : ∃ n0, n0 = args.length := ⟨_, rfl⟩
  rw [← hn0] at hm ⊢
  replace hn0 := Hid.intro hn0
  go_enter Tryz.func263, Tryz.ntmps263
  go_wp2
  go_loopw [10] (fun v10 wr => ∃ (i : Nat) (p : List (Itm × Value)) (a1 : Option Addr) (L c1 : Nat), i ≤ n0 ∧ v10 = .int .i64 (i : Int) ∧ Hid (SvSt w b 5 a args R0 i p a1 L c1 wr)) (fun v10 wr => n0 - (intOf v10).toNat)
  case atStart => exact ⟨0, [], none, 0, 0, by omega, rfl, hst⟩
  case round =>
    clear hst
    obtain ⟨i, p, a1, L, c1, hi, rfl, hS⟩ := hrel
    by_cases hlt : i < n0
    · obtain ⟨arg, harg⟩ : ∃ arg, args[i]? = some arg := ⟨args[i]'(by rw [← hn0.out]; exact hlt), List.getElem?_eq_getElem _⟩
      obtain ⟨G, a', c', rfl, hG, hcell, hT, hy⟩ := hS.out.ins.at harg
      have hbl := blk_lt hS.out.blk
      have hlt2 : (i : Int) < (n0 : Int) := by omega
      have z0 := (cell_blockT hS.out.blk 0).trans rfl
      have zA : ∀ o, (wr.alloc o).cell? ⟨b, 0, none⟩ = some (.int .i64 5) := fun o => (cell_blockT (hS.out.below (below_alloc wr o)).blk 0).trans rfl
      have hTA : Toks (wr.alloc (.cells #[.int .i64 5, .string ⟨#[]⟩, .int .i64 0, .int .i64 0, .int .i64 0, .int .i32 0, .int .i64 0, .slice none 0 0, .int .u32 0, .int .i64 0] 91)) a' c' arg := hT.low (B := wr.heap.size) hT.old (below_alloc wr _) (Nat.le_refl _)
      have hLn : L ≤ 1100000 := by have := hS.out.few; omega
      have hone := numberOf_any 5 a' c' arg _ hTA
      have hcell' := hcell
      obtain ⟨R1, hR1⟩ : ∃ R1, itOf 5 arg = R1 := ⟨_, rfl⟩
      have hse := @itOf_err 5 arg
      rw [hR1] at hse
      obtain ⟨Nn, W, hN, hWR⟩ := num_w 5 (by decide) arg
      rw [hR1] at hWR
      replace hWR := Hid.intro hWR
      rw [hN] at hone
      clear hN
      have hargH := Hid.intro harg
      have hR1H := Hid.intro hR1
      clear hT hTA hcell' harg hR1 hy
      generalize arg.length = ln at hcell hone
      replace hone := Hid.intro hone
      go_upto_region 8 with (go_at_call 229; (with_reducible refine (hone.out).mono ?_); rintro e w1 ⟨rfl, hb1⟩; obtain ⟨hx1, hB1⟩ := box_set (x := { itmE with kind := 5 }) (v0 := .slice none 0 0) rfl hb1; have x9 := (cell_blockT hx1 9).trans rfl; have xf := frozen_of_row w1 wr.heap.size 9 _ 91 hx1; replace hx1 := Hid.intro hx1)
      all_goals first | omega | skip
      obtain ⟨s1, s2⟩ := row_set hx1.out 9 (.int .i64 Nn)
      have hsz1 := hB1.size
      have hB2 : Below wr.heap.size wr (w1.setCell ⟨wr.heap.size, 9, none⟩ (.int .i64 Nn)) := hB1.grown s2 (by omega) (fun j hj => by cases hj; exact Nat.le_refl _)
      have hG2 : Hid ((w1.setCell ⟨wr.heap.size, 9, none⟩ (.int .i64 Nn)).heap[wr.heap.size]? = some (.cells (itmCells { itmE with kind := 5, n := Nn } (.slice none 0 0)) 91 (0, 0))) := s1
      clear s1 s2 x9 xf hx1 hone
      generalize (w1.setCell ⟨wr.heap.size, 9, none⟩ (.int .i64 Nn)) = w2 at hB2 hG2 ⊢
      have hQ : Hid (w2.ownsRow (b + 1) 123 2 (.slice none 0 0) linE.terms.length (rowT linE.terms)) := World.ownsRow_nil _ _ _ _
      have hS2 : Hid (SvSt w b 5 (some ⟨G, 0, none⟩) args R0 i p a1 L c1 w2) := hS.out.below hB2
      clear zA z0 hcell
      cases R1 with
      | error k =>
        have hk0 : (k == 0) = false := by rcases hse rfl with rfl | rfl <;> rfl
        obtain rfl : W = k := hWR.out
        go_wp2
        all_goals first | omega | skip
        go_ret
        rw [hS2.out.err hargH.out hR1H.out]
        exact ⟨hS2.out.bel, rfl⟩
      | ok x =>
        obtain ⟨hW0, hx⟩ : W = 0 ∧ { itmE with kind := 5, n := Nn } = x := hWR.out
        subst hW0
        subst hx
        clear hse
        have hG2L : w2.heap[wr.heap.size]? = some (.cells #[.int .i64 5, .string ⟨#[]⟩, .int .i64 0, .int .i64 0, .int .i64 0, .int .i32 0, .int .i64 0, .slice none 0 0, .int .u32 0, .int .i64 Nn] 91 (0, 0)) := hG2.out
        have y0 := (cell_blockT hG2L 0).trans rfl
        have y1 := (cell_blockT hG2L 1).trans rfl
        have y2 := (cell_blockT hG2L 2).trans rfl
        have y3 := (cell_blockT hG2L 3).trans rfl
        have y4 := (cell_blockT hG2L 4).trans rfl
        have y5 := (cell_blockT hG2L 5).trans rfl
        have y6 := (cell_blockT hG2L 6).trans rfl
        have y7 := (cell_blockT hG2L 7).trans rfl
        have y8 := (cell_blockT hG2L 8).trans rfl
        have y9 := (cell_blockT hG2L 9).trans rfl
        replace hG2L := Hid.intro hG2L
        have z1 := (cell_blockT hS2.out.blk 1).trans rfl
        have zA1 : ∀ o, (w2.alloc o).cell? ⟨b, 1, none⟩ = some (.slice a1 L c1) := fun o => (cell_blockT (hS2.out.below (below_alloc w2 o)).blk 1).trans rfl
        have cnH : Hid (∀ j u, (itmCells ({ itmE with kind := 5, n := Nn }) (Value.slice none 0 0)).toList[j]? = some u → (w2.alloc (.cells #[.int .i64 5, .string ⟨#[]⟩, .int .i64 0, .int .i64 0, .int .i64 0, .int .i32 0, .int .i64 0, .slice none 0 0, .int .u32 0, .int .i64 Nn] 91)).drew.cell? ((⟨w2.heap.size, 0, none⟩ : Addr).add j) = some u) := cells_new w2 #[.int .i64 5, .string ⟨#[]⟩, .int .i64 0, .int .i64 0, .int .i64 0, .int .i32 0, .int .i64 0, .slice none 0 0, .int .u32 0, .int .i64 Nn] 91
        have hsz2 := blk_lt hS2.out.blk
        have hownH : Hid ((w2.alloc (.cells #[.int .i64 5, .string ⟨#[]⟩, .int .i64 0, .int .i64 0, .int .i64 0, .int .i32 0, .int .i64 0, .slice none 0 0, .int .u32 0, .int .i64 Nn] 91)).drew.ownsRow (b + 1) 91 10 (.slice a1 L c1) L (rowI p)) := by
          have := (hS2.out.below ((below_alloc w2 (.cells #[.int .i64 5, .string ⟨#[]⟩, .int .i64 0, .int .i64 0, .int .i64 0, .int .i32 0, .int .i64 0, .slice none 0 0, .int .u32 0, .int .i64 Nn] 91)).drew)).own.row
          rw [← hS2.out.len] at this
          exact this
        go_wp2
        all_goals first | omega | skip
        go_region_law (refine step_item _ rfl (.tmp 47) (.tmp 49) rfl (b + 1) a1 L c1 p rfl hownH.out w2.heap.size ({ itmE with kind := 5, n := Nn }) none 0 0 rfl cnH.out (by omega) (by simp; omega) ?_; intro a3 c3 w3 ho3 hg3; obtain ⟨hpf, hb3⟩ := hS2.out.push ((below_alloc w2 _).drew) hargH.out (q := ({ itmE with kind := 5, n := Nn }, Value.slice none 0 0)) hR1H.out hQ.out ho3 hg3; replace hpf := Hid.intro hpf; have u1 := (cell_blockT hb3 1).trans rfl; have uf := frozen_of_row w3 b 1 _ 231 hb3; clear hb3)
        all_goals clear u1 uf y0 y1 y2 y3 y4 y5 y6 y7 y8 y9 z1 zA1
        all_goals go_wp2_with fail
        all_goals go_roundw
        all_goals first
          | exact ⟨i + 1, _, _, _, _, by omega, by go_num, hpf⟩
          | (simp [intOf]; omega)
    · have hin : i = n0 := by omega
      have hfin : Hid (R0 = .ok (p.map (·.1))) := hS.out.fin (by rw [← hn0.out]; omega)
      subst hin
      have hlt3 : ¬ ((i : Int) < (i : Int)) := by omega
      go_wp2
      all_goals first | omega | skip
      go_ret
      rw [hfin.out]
      exact ⟨hS.out.bel, rfl, p, a1, L, c1, rfl, hS.out.blk, hS.out.own⟩
set_option maxHeartbeats 4000000 in
theorem sevRead_6 (b : Nat) (a : Option Addr) (c : Nat) (args : List (List Tok)) (hm : args.length ≤ 1100000) (w : World) (hA : ArgsIn b w a args) (h : w.heap[b]? = some (.cells #[.int .i64 6, .slice none 0 0] 231 (0, 0))) :
    Calls Tryz.prog 263 #[.pointer (some ⟨b, 0, none⟩), .slice a args.length c] w fun e w' => Below b w w' ∧ SvOut b 6 (itsF 6 args) e w' := by
  obtain ⟨R0, hR0⟩ : ∃ R0, itsF 6 args = R0 := ⟨_, rfl⟩
  have hlt0 := blk_lt h
  have hst : Hid (SvSt w b 6 a args R0 0 [] none 0 0 w) := ⟨Below.refl _ _, hA, h, ItOwn.start _ _, rfl, by rw [← hR0]; simp only [itsAcc, List.drop_zero]; cases itsF 6 args <;> rfl, Nat.le_refl _⟩
  rw [hR0]
  clear hR0 h hA
  obtain ⟨n0, hn0⟩ : ∃ n0, n0 = args.length := ⟨_, rfl⟩
  rw [← hn0] at hm ⊢
  replace hn0 := Hid.intro hn0
  go_enter Tryz.func263, Tryz.ntmps263
  go_wp2
  go_loopw [10] (fun v10 wr => ∃ (i : Nat) (p : List (Itm × Value)) (a1 : Option Addr) (L c1 : Nat), i ≤ n0 ∧ v10 = .int .i64 (i : Int) ∧ Hid (SvSt w b 6 a args R0 i p a1 L c1 wr)) (fun v10 wr => n0 - (intOf v10).toNat)
  case atStart => exact ⟨0, [], none, 0, 0, by omega, rfl, hst⟩
  case round =>
    clear hst
    obtain ⟨i, p, a1, L, c1, hi, rfl, hS⟩ := hrel
    by_cases hlt : i < n0
    · obtain ⟨arg, harg⟩ : ∃ arg, args[i]? = some arg := ⟨args[i]'(by rw [← hn0.out]; exact hlt), List.getElem?_eq_getElem _⟩
      obtain ⟨G, a', c', rfl, hG, hcell, hT, hy⟩ := hS.out.ins.at harg
      have hbl := blk_lt hS.out.blk
      have hlt2 : (i : Int) < (n0 : Int) := by omega
      have z0 := (cell_blockT hS.out.blk 0).trans rfl
      have zA : ∀ o, (wr.alloc o).cell? ⟨b, 0, none⟩ = some (.int .i64 6) := fun o => (cell_blockT (hS.out.below (below_alloc wr o)).blk 0).trans rfl
      have hTA : Toks (wr.alloc (.cells #[.int .i64 6, .string ⟨#[]⟩, .int .i64 0, .int .i64 0, .int .i64 0, .int .i32 0, .int .i64 0, .slice none 0 0, .int .u32 0, .int .i64 0] 91)) a' c' arg := hT.low (B := wr.heap.size) hT.old (below_alloc wr _) (Nat.le_refl _)
      have hLn : L ≤ 1100000 := by have := hS.out.few; omega
      have hone := parse_why a' c' arg { itmE with kind := 6 } _ hTA
      have hcell' := hcell
      obtain ⟨R1, hR1⟩ : ∃ R1, itOf 6 arg = R1 := ⟨_, rfl⟩
      have hse := @itOf_err 6 arg
      rw [hR1] at hse
      have hE : exprF arg { itmE with kind := 6 } = R1 := by rw [← hR1]; rfl
      rw [hE] at hone
      clear hE
      obtain ⟨W, hW, hWR0⟩ : ∃ W, whyOf R1 = W ∧ Hid (WhyW R1 W) := ⟨_, rfl, by cases R1 <;> rfl⟩
      rw [hW] at hone
      clear hW
      have hargH := Hid.intro harg
      have hR1H := Hid.intro hR1
      clear hT hTA hcell' harg hR1 hy
      generalize arg.length = ln at hcell hone
      replace hone := Hid.intro hone
      go_upto_region 8 with (go_at_call 231; (with_reducible refine (hone.out).mono ?_); rintro e w1 ⟨hb1, y, vb, m, vd, rfl, hoy, hxy⟩; obtain ⟨hx1, hB1⟩ := box_set (x := { itmE with kind := 6 }) (v0 := .slice none 0 0) rfl hb1; have x7 := (cell_blockT hx1 7).trans rfl; have x8 := (cell_blockT hx1 8).trans rfl; have xf7 := frozen_of_row w1 wr.heap.size 7 _ 91 hx1; have xf8 := frozen_of_row w1 wr.heap.size 8 _ 91 hx1; replace hx1 := Hid.intro hx1; replace hoy := Hid.intro hoy; replace hxy := Hid.intro hxy)
      all_goals first | omega | skip
      obtain ⟨s1, s2⟩ := row_set hx1.out 7 (.slice vb m vd)
      obtain ⟨t1, t2⟩ := row_set s1 8 (.int .u32 y.const)
      have hg12 := grown_trans s2 t2
      have hsz1 := hB1.size
      have hszA : (wr.alloc (.cells #[.int .i64 6, .string ⟨#[]⟩, .int .i64 0, .int .i64 0, .int .i64 0, .int .i32 0, .int .i64 0, .slice none 0 0, .int .u32 0, .int .i64 0] 91)).heap.size = wr.heap.size + 1 := by simp
      have hB2 : Below wr.heap.size wr ((w1.setCell ⟨wr.heap.size, 7, none⟩ (.slice vb m vd)).setCell ⟨wr.heap.size, 8, none⟩ (.int .u32 y.const)) := hB1.grown hg12 (by omega) (fun j hj => by cases hj; exact Nat.le_refl _)
      have hG2 : Hid (((w1.setCell ⟨wr.heap.size, 7, none⟩ (.slice vb m vd)).setCell ⟨wr.heap.size, 8, none⟩ (.int .u32 y.const)).heap[wr.heap.size]? = some (.cells (itmCells { itmE with kind := 6, e := y } (.slice vb m vd)) 91 (0, 0))) := t1
      have hQ : Hid (((w1.setCell ⟨wr.heap.size, 7, none⟩ (.slice vb m vd)).setCell ⟨wr.heap.size, 8, none⟩ (.int .u32 y.const)).ownsRow (b + 1) 123 2 (.slice vb m vd) y.terms.length (rowT y.terms)) := own_weaken (own_low hoy.out hg12 (by omega)) (by omega)
      have hWR : Hid (ExpW R1 y W) := by
        show ExpW R1 y W
        cases R1 with
        | error k => exact hWR0.out
        | ok x => exact ⟨hWR0.out, (hxy.out x rfl).symm⟩
      clear s1 s2 t1 t2 x7 x8 xf7 xf8 hx1 hone hoy hxy hWR0 hg12
      generalize ((w1.setCell ⟨wr.heap.size, 7, none⟩ (.slice vb m vd)).setCell ⟨wr.heap.size, 8, none⟩ (.int .u32 y.const)) = w2 at hB2 hG2 hQ ⊢
      have hS2 : Hid (SvSt w b 6 (some ⟨G, 0, none⟩) args R0 i p a1 L c1 w2) := hS.out.below hB2
      clear zA z0 hcell
      cases R1 with
      | error k =>
        have hk0 : (k == 0) = false := by rcases hse rfl with rfl | rfl <;> rfl
        obtain rfl : W = k := hWR.out
        go_wp2
        all_goals first | omega | skip
        go_ret
        rw [hS2.out.err hargH.out hR1H.out]
        exact ⟨hS2.out.bel, rfl⟩
      | ok x =>
        obtain ⟨hW0, hx⟩ : W = 0 ∧ { itmE with kind := 6, e := y } = x := hWR.out
        subst hW0
        subst hx
        clear hse
        have hG2L : w2.heap[wr.heap.size]? = some (.cells #[.int .i64 6, .string ⟨#[]⟩, .int .i64 0, .int .i64 0, .int .i64 0, .int .i32 0, .int .i64 0, .slice vb m vd, .int .u32 y.const, .int .i64 0] 91 (0, 0)) := hG2.out
        have y0 := (cell_blockT hG2L 0).trans rfl
        have y1 := (cell_blockT hG2L 1).trans rfl
        have y2 := (cell_blockT hG2L 2).trans rfl
        have y3 := (cell_blockT hG2L 3).trans rfl
        have y4 := (cell_blockT hG2L 4).trans rfl
        have y5 := (cell_blockT hG2L 5).trans rfl
        have y6 := (cell_blockT hG2L 6).trans rfl
        have y7 := (cell_blockT hG2L 7).trans rfl
        have y8 := (cell_blockT hG2L 8).trans rfl
        have y9 := (cell_blockT hG2L 9).trans rfl
        replace hG2L := Hid.intro hG2L
        have z1 := (cell_blockT hS2.out.blk 1).trans rfl
        have zA1 : ∀ o, (w2.alloc o).cell? ⟨b, 1, none⟩ = some (.slice a1 L c1) := fun o => (cell_blockT (hS2.out.below (below_alloc w2 o)).blk 1).trans rfl
        have cnH : Hid (∀ j u, (itmCells ({ itmE with kind := 6, e := y }) (Value.slice vb m vd)).toList[j]? = some u → (w2.alloc (.cells #[.int .i64 6, .string ⟨#[]⟩, .int .i64 0, .int .i64 0, .int .i64 0, .int .i32 0, .int .i64 0, .slice vb m vd, .int .u32 y.const, .int .i64 0] 91)).drew.cell? ((⟨w2.heap.size, 0, none⟩ : Addr).add j) = some u) := cells_new w2 #[.int .i64 6, .string ⟨#[]⟩, .int .i64 0, .int .i64 0, .int .i64 0, .int .i32 0, .int .i64 0, .slice vb m vd, .int .u32 y.const, .int .i64 0] 91
        have hsz2 := blk_lt hS2.out.blk
        have hownH : Hid ((w2.alloc (.cells #[.int .i64 6, .string ⟨#[]⟩, .int .i64 0, .int .i64 0, .int .i64 0, .int .i32 0, .int .i64 0, .slice vb m vd, .int .u32 y.const, .int .i64 0] 91)).drew.ownsRow (b + 1) 91 10 (.slice a1 L c1) L (rowI p)) := by
          have := (hS2.out.below ((below_alloc w2 (.cells #[.int .i64 6, .string ⟨#[]⟩, .int .i64 0, .int .i64 0, .int .i64 0, .int .i32 0, .int .i64 0, .slice vb m vd, .int .u32 y.const, .int .i64 0] 91)).drew)).own.row
          rw [← hS2.out.len] at this
          exact this
        go_wp2
        all_goals first | omega | skip
        go_region_law (refine step_item _ rfl (.tmp 47) (.tmp 49) rfl (b + 1) a1 L c1 p rfl hownH.out w2.heap.size ({ itmE with kind := 6, e := y }) vb m vd rfl cnH.out (by omega) (by simp; omega) ?_; intro a3 c3 w3 ho3 hg3; obtain ⟨hpf, hb3⟩ := hS2.out.push ((below_alloc w2 _).drew) hargH.out (q := ({ itmE with kind := 6, e := y }, Value.slice vb m vd)) hR1H.out hQ.out ho3 hg3; replace hpf := Hid.intro hpf; have u1 := (cell_blockT hb3 1).trans rfl; have uf := frozen_of_row w3 b 1 _ 231 hb3; clear hb3)
        all_goals clear u1 uf y0 y1 y2 y3 y4 y5 y6 y7 y8 y9 z1 zA1
        all_goals go_wp2_with fail
        all_goals go_roundw
        all_goals first
          | exact ⟨i + 1, _, _, _, _, by omega, by go_num, hpf⟩
          | (simp [intOf]; omega)
    · have hin : i = n0 := by omega
      have hfin : Hid (R0 = .ok (p.map (·.1))) := hS.out.fin (by rw [← hn0.out]; omega)
      subst hin
      have hlt3 : ¬ ((i : Int) < (i : Int)) := by omega
      go_wp2
      all_goals first | omega | skip
      go_ret
      rw [hfin.out]
      exact ⟨hS.out.bel, rfl, p, a1, L, c1, rfl, hS.out.blk, hS.out.own⟩
end Go.Proofs.YtogkchgjpflmjaaGreatDoor
namespace Go.Proofs.YtogkchgjpflmjaaGreatDoor
open Go.ChangeShapes Go.WideShapes Go.ChangeAt Go.RowKit
set_option linter.unusedVariables false
set_option maxRecDepth 100000
theorem read_nil (lb : List UInt8) (a : Option Addr) (n0 c : Nat) (sec : Int) (w : World) :
    Calls Tryz.prog 69 #[.agg #[.string (str lb), .string (str []), .slice a n0 c], .int .i64 sec] w fun e w' => Below w.heap.size w w' ∧ ThOwn w.heap.size w' (.ok thgE) e := by
  have hne : ((str []).toList == []) = true := by rw [str_toList]; rfl
  generalize str [] = S at hne ⊢
  go_enter Tryz.func69, Tryz.ntmps69
  go_wp2
  all_goals first | omega | skip
  have hB : Below w.heap.size w ((w.alloc (.cells #[.string (str lb), .string S, .slice a n0 c] 133)).alloc (.cells #[.int .i64 0, .slice none 0 0, .string ⟨#[]⟩, .slice none 0 0, .int .u32 0, .int .i64 0] 137)) := (below_alloc w _).alloc (by simp) _
  have hs1 : (w.alloc (.cells #[.string (str lb), .string S, .slice a n0 c] 133)).heap.size = w.heap.size + 1 := by simp
  have hq := heap_alloc_new (w.alloc (.cells #[.string (str lb), .string S, .slice a n0 c] 133)) (.cells #[.int .i64 0, .slice none 0 0, .string ⟨#[]⟩, .slice none 0 0, .int .u32 0, .int .i64 0] 137)
  rw [hs1] at hq
  generalize ((w.alloc (.cells #[.string (str lb), .string S, .slice a n0 c] 133)).alloc (.cells #[.int .i64 0, .slice none 0 0, .string ⟨#[]⟩, .slice none 0 0, .int .u32 0, .int .i64 0] 137)) = w9 at hB hq ⊢
  obtain ⟨k0, k1, k2, k3, k4, k5⟩ := thing_ret (w8 := w9) hq
  refine bodyPost_ret (by simp [results, Tryz.results69, go_sem, k0, k1, k2, k3, k4, k5]; try rfl) rfl ?_
  exact ⟨hB, .slice none 0 0, none, 0, 0, rfl, ThO.none _ _⟩
theorem read_none (lb s : List UInt8) (hs0 : s ≠ []) (hd : s ∉ dirs) (hf : findN s = 0) (a : Option Addr) (n0 c : Nat) (sec : Int) (w : World) (hT : Tab w) :
    Calls Tryz.prog 69 #[.agg #[.string (str lb), .string (str s), .slice a n0 c], .int .i64 sec] w fun e w' => Below w.heap.size w w' ∧ ThOwn w.heap.size w' (.error 20) e := by
  have hne : ((str s).toList == []) = false := by rw [str_toList]; exact beq_false_of_ne hs0
  have hnl : ∀ w, (binOp .eql 192 .nilIface .nilIface).run Tryz.prog w = .ok (.bool true) w := nil_none
  have hro := Hid.intro (readerOf_none s hd hf ((w.alloc (.cells #[.string (str lb), .string (str s), .slice a n0 c] 133)).alloc (.cells #[.int .i64 0, .slice none 0 0, .string ⟨#[]⟩, .slice none 0 0, .int .u32 0, .int .i64 0] 137)) ((hT.alloc _).alloc _))
  clear hT hf hd hs0
  generalize str s = S at hne hro ⊢
  go_enter Tryz.func69, Tryz.ntmps69
  go_wp2_with (go_at_call 105; (with_reducible refine (hro.out).mono ?_); rintro e w1 ⟨hw1, rfl⟩; subst hw1)
  all_goals first | omega | skip
  have hB : Below w.heap.size w ((w.alloc (.cells #[.string (str lb), .string S, .slice a n0 c] 133)).alloc (.cells #[.int .i64 0, .slice none 0 0, .string ⟨#[]⟩, .slice none 0 0, .int .u32 0, .int .i64 0] 137)) := (below_alloc w _).alloc (by simp) _
  have hs1 : (w.alloc (.cells #[.string (str lb), .string S, .slice a n0 c] 133)).heap.size = w.heap.size + 1 := by simp
  have hq := heap_alloc_new (w.alloc (.cells #[.string (str lb), .string S, .slice a n0 c] 133)) (.cells #[.int .i64 0, .slice none 0 0, .string ⟨#[]⟩, .slice none 0 0, .int .u32 0, .int .i64 0] 137)
  rw [hs1] at hq
  generalize ((w.alloc (.cells #[.string (str lb), .string S, .slice a n0 c] 133)).alloc (.cells #[.int .i64 0, .slice none 0 0, .string ⟨#[]⟩, .slice none 0 0, .int .u32 0, .int .i64 0] 137)) = w9 at hB hq ⊢
  obtain ⟨k0, k1, k2, k3, k4, k5⟩ := thing_ret (w8 := w9) hq
  refine bodyPost_ret (by simp [results, Tryz.results69, go_sem, k0, k1, k2, k3, k4, k5]; try rfl) rfl ?_
  exact ⟨hB, rfl⟩
theorem args_low {w w1 : World} {a : Option Addr} {args : List (List Tok)} {b : Nat} (hA : ArgsIn w.heap.size w a args) (h1 : Below w.heap.size w w1) (hb : w.heap.size + 2 ≤ b) (hlt : b < w1.heap.size) : ArgsIn b w1 a args :=
  (hA.below h1).mono (by omega) (by omega)
def singR (R : Except Int Itm) : Except Int Thg := match R with | .error k => .error k | .ok x => .ok ⟨1, [x], [], linE, 0⟩
def sevR (R : Except Int (List Itm)) : Except Int Thg := match R with | .error k => .error k | .ok l => .ok ⟨2, l, [], linE, 0⟩
theorem singF_err {kind : Int} {args : List (List Tok)} {k : Int} (h : singF kind args = .error k) : k = 20 ∨ k = 21 := by
  cases args with
  | nil => cases h
  | cons x r => exact itOf_err h
theorem itsF_err {kind : Int} : ∀ {args : List (List Tok)} {k : Int}, itsF kind args = .error k → k = 20 ∨ k = 21 := by
  intro args
  induction args with
  | nil => intro k h; cases h
  | cons x r ih =>
    intro k h
    rw [itsF] at h
    split at h
    · rename_i hx; cases h; exact itOf_err hx
    · split at h
      · rename_i hx; cases h; exact ih hx
      · cases h
theorem read_sing (kind : Int) (hk : kind ≠ 6) (m : Nat) (hm : m ≤ 1) (lb s : List UInt8) (hs0 : s ≠ []) (hro : ∀ w1 : World, Calls Tryz.prog 105 #[.string (str s)] w1 fun e w' => Below w1.heap.size w1 w' ∧ ∃ b, w1.heap.size ≤ b ∧ e = .returned (.tuple #[.iface 226 (.pointer (some ⟨b, 0, none⟩)), .int .i64 m, .int .i64 m]) ∧ w'.heap[b]? = some (.cells (itmCells { itmE with kind := kind } (.slice none 0 0)) 228 (0, 0)))
    (a : Option Addr) (c : Nat) (args : List (List Tok)) (hal : args.length ≤ 1100000) (sec : Int) (w : World) (hA : ArgsIn w.heap.size w a args) :
    Calls Tryz.prog 69 #[.agg #[.string (str lb), .string (str s), .slice a args.length c], .int .i64 sec] w fun e w' => Below w.heap.size w w' ∧ ThOwn w.heap.size w' (singThg kind m args sec) e := by
  have hro0 : ∀ w1, Below w.heap.size w w1 → Calls Tryz.prog 105 #[.string (str s)] w1 fun e w2 => Below w1.heap.size w1 w2 ∧ ∃ b, w1.heap.size ≤ b ∧ e = .returned (.tuple #[.iface 226 (.pointer (some ⟨b, 0, none⟩)), .int .i64 m, .int .i64 m]) ∧ (b < w2.heap.size ∧ w2.heap[b]? = some (.cells (itmCells { itmE with kind := kind } (.slice none 0 0)) 228 (0, 0))) := fun w1 _ => (hro w1).mono fun e w2 ⟨h1, b, h2, h3, h4⟩ => ⟨h1, b, h2, h3, blk_lt h4, h4⟩
  by_cases hl : args.length = m
  · have hF : singThg kind m args sec = andStands (singR (singF kind args)) sec := by
      unfold singThg
      rw [if_neg (by omega)]
      cases singF kind args <;> rfl
    rw [hF]
    refine readG_single lb s hs0 a c args.length hal sec w m m (by omega) (by omega) _ (fun t w1 b => ∃ x, t = ⟨1, [x], [], linE, 0⟩ ∧ x.e = linE ∧ w1.heap[b]? = some (.cells (itmCells x (.slice none 0 0)) 228 (0, 0))) _ hro0 ?_ ?_ ?_ ?_
    · intro w1 b h1 h2 h3 h4
      refine (singRead_any b kind hk a c args (by omega) w1 (args_low hA h1 h2 h3) h4).mono ?_
      rintro e w2 ⟨g1, g2⟩
      refine ⟨g1, ?_⟩
      cases hs : singF kind args with
      | error k => rw [hs] at g2; exact g2
      | ok x => rw [hs] at g2; exact ⟨g2.1, x, rfl, g2.2.1, g2.2.2⟩
    · rintro t w1 b hbg hbl ⟨x, rfl, hx, hh⟩
      refine (said_single b x none 0 0 w1 hh).mono ?_
      rintro e w2 ⟨g1, q, hq, rfl, hqh⟩
      have hO := ThO.one (lo := w.heap.size + 2) hqh (by omega) (by rw [hx]; exact World.ownsRow_nil _ _ _ _)
      refine ⟨g1, _, _, _, _, _, _, rfl, .inr ⟨q, 1, rfl, blk_lt hqh, fun i y hi => ?_⟩, rfl, TmLies.nil _ _, hO⟩
      match i, hi with
      | 0, hi => cases hi; exact ⟨none, 0, 0, itAt_row hqh, by rw [hx]; rfl, by rw [hx]; exact TmLies.nil _ _⟩
      | i + 1, hi => simp at hi
    · intro k hk2
      cases hs : singF kind args with
      | error k' => rw [hs] at hk2; cases hk2; rcases singF_err hs with h | h <;> omega
      | ok x => rw [hs] at hk2; cases hk2
    · intro t ht
      cases hs : singF kind args with
      | error k' => rw [hs] at ht; cases ht
      | ok x => rw [hs] at ht; cases ht; simp
  · have hF : singThg kind m args sec = .error 20 := by unfold singThg; rw [if_pos hl]
    rw [hF]
    exact readLen_single lb s hs0 a c args.length hal sec w m m (by omega) _ hro0
theorem read_sev (kind : Int) (hk : kind = 5 ∨ kind = 6) (lb s : List UInt8) (hs0 : s ≠ []) (hro : ∀ w1 : World, Calls Tryz.prog 105 #[.string (str s)] w1 fun e w' => Below w1.heap.size w1 w' ∧ ∃ b, w1.heap.size ≤ b ∧ e = .returned (.tuple #[.iface 229 (.pointer (some ⟨b, 0, none⟩)), .int .i64 1, .int .i64 9223372036854775807]) ∧ w'.heap[b]? = some (.cells #[.int .i64 kind, .slice none 0 0] 231 (0, 0)))
    (a : Option Addr) (c : Nat) (args : List (List Tok)) (hal : args.length ≤ 1100000) (hfew : FewA args) (sec : Int) (w : World) (hA : ArgsIn w.heap.size w a args) :
    Calls Tryz.prog 69 #[.agg #[.string (str lb), .string (str s), .slice a args.length c], .int .i64 sec] w fun e w' => Below w.heap.size w w' ∧ ThOwn w.heap.size w' (sevThg kind args sec) e := by
  have hro0 : ∀ w1, Below w.heap.size w w1 → Calls Tryz.prog 105 #[.string (str s)] w1 fun e w2 => Below w1.heap.size w1 w2 ∧ ∃ b, w1.heap.size ≤ b ∧ e = .returned (.tuple #[.iface 229 (.pointer (some ⟨b, 0, none⟩)), .int .i64 1, .int .i64 9223372036854775807]) ∧ (b < w2.heap.size ∧ w2.heap[b]? = some (.cells #[.int .i64 kind, .slice none 0 0] 231 (0, 0))) := fun w1 _ => (hro w1).mono fun e w2 ⟨h1, b, h2, h3, h4⟩ => ⟨h1, b, h2, h3, blk_lt h4, h4⟩
  by_cases hl : args.length = 0
  · have hF : sevThg kind args sec = .error 20 := by unfold sevThg; rw [if_pos hl]
    rw [hF]
    exact readLen_several lb s hs0 a c args.length hal sec w 1 9223372036854775807 (by omega) _ hro0
  · have hF : sevThg kind args sec = andStands (sevR (itsF kind args)) sec := by
      unfold sevThg
      rw [if_neg hl]
      cases itsF kind args <;> rfl
    rw [hF]
    refine readG_several lb s hs0 a c args.length hal sec w 1 9223372036854775807 (by omega) (by omega) _ (fun t w1 b => ∃ p a1 L c1, t = ⟨2, p.map (·.1), [], linE, 0⟩ ∧ w1.heap[b]? = some (.cells #[.int .i64 kind, .slice a1 L c1] 231 (0, 0)) ∧ ItOwn (b + 1) w1 (.slice a1 L c1) p) _ hro0 ?_ ?_ ?_ ?_
    · intro w1 b h1 h2 h3 h4
      have key : Calls Tryz.prog 263 #[.pointer (some ⟨b, 0, none⟩), .slice a args.length c] w1 fun e w' => Below b w1 w' ∧ SvOut b kind (itsF kind args) e w' := by
        rcases hk with rfl | rfl
        · exact sevRead_5 b a c args hal w1 (args_low hA h1 h2 h3) h4
        · exact sevRead_6 b a c args hal w1 (args_low hA h1 h2 h3) h4
      refine key.mono ?_
      rintro e w2 ⟨g1, g2⟩
      refine ⟨g1, ?_⟩
      cases hs : itsF kind args with
      | error k => rw [hs] at g2; exact g2
      | ok l =>
        rw [hs] at g2
        obtain ⟨g3, p, a1, L, c1, g4, g5, g6⟩ := g2
        exact ⟨g3, p, a1, L, c1, by rw [g4], g5, g6⟩
    · rintro t w1 b hbg hbl ⟨p, a1, L, c1, rfl, hh, ho⟩
      refine (said_several b kind a1 L c1 w1 hh).mono ?_
      rintro e w2 ⟨g1, rfl⟩
      exact ⟨g1, a1, L, c1, none, 0, 0, rfl, ho.lies.below g1, rfl, TmLies.nil _ _, ⟨p, rfl, (ho.below g1).weaken (by omega), World.ownsRow_nil _ _ _ _⟩⟩
    · intro k hk2
      cases hs : itsF kind args with
      | error k' => rw [hs] at hk2; cases hk2; rcases itsF_err hs with h | h <;> omega
      | ok x => rw [hs] at hk2; cases hk2
    · intro t ht
      cases hs : itsF kind args with
      | error k' => rw [hs] at ht; cases ht
      | ok l =>
        rw [hs] at ht
        cases ht
        have := (itsF_kind hs).1
        show l.length ≤ _
        omega
theorem read_equ (lb : List UInt8) (a : Option Addr) (c : Nat) (args : List (List Tok)) (hal : args.length ≤ 1100000) (sec : Int) (w : World) (hA : ArgsIn w.heap.size w a args) :
    Calls Tryz.prog 69 #[.agg #[.string (str lb), .string (str sEqu), .slice a args.length c], .int .i64 sec] w fun e w' => Below w.heap.size w w' ∧ ThOwn w.heap.size w' (equThg args) e := by
  have hro0 : ∀ w1, Below w.heap.size w w1 → Calls Tryz.prog 105 #[.string (str sEqu)] w1 fun e w2 => Below w1.heap.size w1 w2 ∧ ∃ b, w1.heap.size ≤ b ∧ e = .returned (.tuple #[.iface 232 (.pointer (some ⟨b, 0, none⟩)), .int .i64 2, .int .i64 2]) ∧ (b < w2.heap.size ∧ w2.heap[b]? = some (.cells #[.string (str []), .slice none 0 0, .int .u32 0] 234 (0, 0))) := fun w1 _ => (readerOf_equ w1).mono fun e w2 ⟨h1, b, h2, h3, h4⟩ => ⟨h1, b, h2, h3, blk_lt h4, h4⟩
  by_cases hl : args.length = 2
  · obtain ⟨x0, x1, rfl⟩ : ∃ x0 x1, args = [x0, x1] := by match args, hl with | [x, y], _ => exact ⟨x, y, rfl⟩
    have hF : equThg [x0, x1] = andStands (equF x0 x1) sec := by
      show equF x0 x1 = _
      unfold equF
      cases nameF x0 with
      | error k => rfl
      | ok s => cases parseF x1 <;> rfl
    rw [hF]
    refine readG_equation lb sEqu (by decide) a c 2 (by omega) sec w 2 2 (by omega) (by omega) _ (fun t w1 b => ∃ s y, t = ⟨3, [], s, y, 0⟩ ∧ ∃ va n vc, w1.heap[b]? = some (.cells #[.string (str s), .slice va n vc, .int .u32 y.const] 234 (0, 0)) ∧ w1.ownsRow (b + 1) 123 2 (.slice va n vc) y.terms.length (rowT y.terms)) _ hro0 ?_ ?_ ?_ ?_
    · intro w1 b h1 h2 h3 h4
      refine (equRead_any b a c x0 x1 w1 (args_low hA h1 h2 h3) h4).mono ?_
      rintro e w2 ⟨g1, g2⟩
      refine ⟨g1, ?_⟩
      cases hs : equF x0 x1 with
      | error k => rw [hs] at g2; exact g2
      | ok t => rw [hs] at g2; exact g2
    · rintro t w1 b hbg hbl ⟨s, y, rfl, va, n, vc, hh, ho⟩
      refine (said_equation b s va n vc y.const w1 hh).mono ?_
      rintro e w2 ⟨g1, rfl⟩
      have hnl := own_len ho
      subst hnl
      exact ⟨g1, none, 0, 0, va, _, vc, rfl, .inl ⟨rfl, rfl⟩, rfl, (own_tmLies ho).below g1 (Nat.le_refl _), ⟨[], rfl, ItOwn.start _ _, own_weaken (own_keptB ho g1) (by omega)⟩⟩
    · intro k hk2
      unfold equF at hk2
      split at hk2
      · rename_i h; cases hk2; rw [nameF_err h]; decide
      · split at hk2
        · rename_i h; cases hk2; rcases parseF_err h with h | h <;> omega
        · cases hk2
    · intro t ht
      unfold equF at ht
      split at ht
      · cases ht
      · split at ht
        · cases ht
        · cases ht; simp
  · have hF : equThg args = .error 20 := by
      match args, hl with
      | [], _ => rfl
      | [x], _ => rfl
      | [x, y], hl => exact absurd rfl hl
      | x :: y :: z :: r, _ => rfl
    rw [hF]
    exact readLen_equation lb sEqu (by decide) a c args.length hal sec w 2 2 (by omega) _ hro0
theorem read_glo (lb : List UInt8) (a : Option Addr) (c : Nat) (args : List (List Tok)) (hal : args.length ≤ 1100000) (sec : Int) (w : World) (hA : ArgsIn w.heap.size w a args) :
    Calls Tryz.prog 69 #[.agg #[.string (str lb), .string (str sGlobal), .slice a args.length c], .int .i64 sec] w fun e w' => Below w.heap.size w w' ∧ ThOwn w.heap.size w' (gloThg args) e := by
  have hro0 : ∀ w1, Below w.heap.size w w1 → Calls Tryz.prog 105 #[.string (str sGlobal)] w1 fun e w2 => Below w1.heap.size w1 w2 ∧ ∃ b, w1.heap.size ≤ b ∧ e = .returned (.tuple #[.iface 235 (.pointer (some ⟨b, 0, none⟩)), .int .i64 1, .int .i64 1]) ∧ (b < w2.heap.size ∧ w2.heap[b]? = some (.cells #[.string (str [])] 237 (0, 0))) := fun w1 _ => (readerOf_global w1).mono fun e w2 ⟨h1, b, h2, h3, h4⟩ => ⟨h1, b, h2, h3, blk_lt h4, h4⟩
  by_cases hl : args.length = 1
  · obtain ⟨x0, rfl⟩ : ∃ x0, args = [x0] := by match args, hl with | [x], _ => exact ⟨x, rfl⟩
    have hF : gloThg [x0] = andStands (gloF x0) sec := by
      show gloF x0 = _
      unfold gloF
      cases nameF x0 <;> rfl
    rw [hF]
    refine readG_export lb sGlobal (by decide) a c 1 (by omega) sec w 1 1 (by omega) (by omega) _ (fun t w1 b => ∃ s, t = ⟨4, [], s, linE, 0⟩ ∧ w1.heap[b]? = some (.cells #[.string (str s)] 237 (0, 0))) _ hro0 ?_ ?_ ?_ ?_
    · intro w1 b h1 h2 h3 h4
      refine (exportRead_any b a c x0 w1 (args_low hA h1 h2 h3) h4).mono ?_
      rintro e w2 ⟨g1, g2⟩
      refine ⟨g1, ?_⟩
      unfold gloF
      cases hs : nameF x0 with
      | error k => rw [hs] at g2; exact g2
      | ok s => rw [hs] at g2; exact ⟨g2.1, s, rfl, g2.2⟩
    · rintro t w1 b hbg hbl ⟨s, rfl, hh⟩
      refine (said_export b s w1 hh).mono ?_
      rintro e w2 ⟨g1, rfl⟩
      exact ⟨g1, none, 0, 0, none, 0, 0, rfl, .inl ⟨rfl, rfl⟩, rfl, TmLies.nil _ _, ThO.none _ _⟩
    · intro k hk2
      unfold gloF at hk2
      split at hk2
      · rename_i h; cases hk2; rw [nameF_err h]; decide
      · cases hk2
    · intro t ht
      unfold gloF at ht
      split at ht
      · cases ht
      · cases ht; simp
  · have hF : gloThg args = .error 20 := by
      match args, hl with
      | [], _ => rfl
      | [x], hl => exact absurd rfl hl
      | x :: y :: r, _ => rfl
    rw [hF]
    exact readLen_export lb sGlobal (by decide) a c args.length hal sec w 1 1 (by omega) _ hro0
theorem read_sec (lb : List UInt8) (a : Option Addr) (c : Nat) (args : List (List Tok)) (hal : args.length ≤ 1100000) (sec : Int) (w : World) (hA : ArgsIn w.heap.size w a args) :
    Calls Tryz.prog 69 #[.agg #[.string (str lb), .string (str sSection), .slice a args.length c], .int .i64 sec] w fun e w' => Below w.heap.size w w' ∧ ThOwn w.heap.size w' (secThg args) e := by
  have hro0 : ∀ w1, Below w.heap.size w w1 → Calls Tryz.prog 105 #[.string (str sSection)] w1 fun e w2 => Below w1.heap.size w1 w2 ∧ ∃ b, w1.heap.size ≤ b ∧ e = .returned (.tuple #[.iface 238 (.pointer (some ⟨b, 0, none⟩)), .int .i64 1, .int .i64 1]) ∧ (b < w2.heap.size ∧ w2.heap[b]? = some (.cells #[.int .i64 0] 240 (0, 0))) := fun w1 _ => (readerOf_section w1).mono fun e w2 ⟨h1, b, h2, h3, h4⟩ => ⟨h1, b, h2, h3, blk_lt h4, h4⟩
  by_cases hl : args.length = 1
  · obtain ⟨x0, rfl⟩ : ∃ x0, args = [x0] := by match args, hl with | [x], _ => exact ⟨x, rfl⟩
    have hsf : ∀ t, secF x0 = .ok t → t = ⟨5, [], [], linE, t.sec⟩ := fun t ht => by
      unfold secF at ht
      split at ht
      · cases ht; rfl
      · split at ht
        · cases ht; rfl
        · cases ht
    have hF : secThg [x0] = andStands (secF x0) sec := by
      show secF x0 = _
      cases hs : secF x0 with
      | error k => rfl
      | ok t => rw [hsf t hs]; rfl
    rw [hF]
    refine readG_segment lb sSection (by decide) a c 1 (by omega) sec w 1 1 (by omega) (by omega) _ (fun t w1 b => t = ⟨5, [], [], linE, t.sec⟩ ∧ w1.heap[b]? = some (.cells #[.int .i64 t.sec] 240 (0, 0))) _ hro0 ?_ ?_ ?_ ?_
    · intro w1 b h1 h2 h3 h4
      refine (segmentRead_any b a c x0 w1 (args_low hA h1 h2 h3) h4).mono ?_
      rintro e w2 ⟨g1, g2⟩
      refine ⟨g1, ?_⟩
      cases hs : secF x0 with
      | error k => rw [hs] at g2; exact g2
      | ok t => rw [hs] at g2; exact g2
    · rintro t w1 b hbg hbl ⟨ht, hh⟩
      refine (said_segment b t.sec w1 hh).mono ?_
      rintro e w2 ⟨g1, rfl⟩
      rw [ht]
      exact ⟨g1, none, 0, 0, none, 0, 0, rfl, .inl ⟨rfl, rfl⟩, rfl, TmLies.nil _ _, ThO.none _ _⟩
    · intro k hk2
      unfold secF at hk2
      split at hk2
      · cases hk2
      · split at hk2
        · cases hk2
        · cases hk2; decide
    · intro t ht
      rw [hsf t ht]
      simp
  · have hF : secThg args = .error 20 := by
      match args, hl with
      | [], _ => rfl
      | [x], hl => exact absurd rfl hl
      | x :: y :: r, _ => rfl
    rw [hF]
    exact readLen_segment lb sSection (by decide) a c args.length hal sec w 1 1 (by omega) _ hro0
theorem read_any (lb s : List UInt8) (a : Option Addr) (c : Nat) (args : List (List Tok)) (hal : args.length ≤ 1100000) (hfew : FewA args) (sec : Int) (w : World) (hA : ArgsIn w.heap.size w a args) (hT : Tab w) :
    Calls Tryz.prog 69 #[.agg #[.string (str lb), .string (str s), .slice a args.length c], .int .i64 sec] w fun e w' => Below w.heap.size w w' ∧ ThOwn w.heap.size w' (readF s args sec) e := by
  unfold readF
  by_cases h0 : s = []
  · rw [if_pos h0, h0]; exact read_nil lb a args.length c sec w
  rw [if_neg h0]
  by_cases h1 : s = sAlign
  · rw [if_pos h1, h1]; exact read_sing 3 (by decide) 1 (by omega) lb sAlign (by decide) readerOf_align a c args hal sec w hA
  rw [if_neg h1]
  by_cases h2 : s = sPool
  · rw [if_pos h2, h2]; exact read_sing 4 (by decide) 0 (by omega) lb sPool (by decide) readerOf_pool a c args hal sec w hA
  rw [if_neg h2]
  by_cases h3 : s = sByte
  · rw [if_pos h3, h3]; exact read_sev 5 (.inl rfl) lb sByte (by decide) readerOf_byte a c args hal hfew sec w hA
  rw [if_neg h3]
  by_cases h4 : s = sWord
  · rw [if_pos h4, h4]; exact read_sev 6 (.inr rfl) lb sWord (by decide) readerOf_word a c args hal hfew sec w hA
  rw [if_neg h4]
  by_cases h5 : s = sSpace
  · rw [if_pos h5, h5]; exact read_sing 7 (by decide) 1 (by omega) lb sSpace (by decide) readerOf_space a c args hal sec w hA
  rw [if_neg h5]
  by_cases h6 : s = sEqu
  · rw [if_pos h6, h6]; exact read_equ lb a c args hal sec w hA
  rw [if_neg h6]
  by_cases h7 : s = sGlobal
  · rw [if_pos h7, h7]; exact read_glo lb a c args hal sec w hA
  rw [if_neg h7]
  by_cases h8 : s = sSection
  · rw [if_pos h8, h8]; exact read_sec lb a c args hal sec w hA
  rw [if_neg h8]
  have hd : s ∉ dirs := by
    simp only [dirs, List.mem_cons, List.not_mem_nil, or_false, not_or]
    exact ⟨h1, h2, h3, h4, h5, h6, h7, h8⟩
  by_cases h9 : findN s = 0
  · rw [if_pos h9]; exact read_none lb s h0 hd h9 a args.length c sec w hT
  rw [if_neg h9]
  have hr := findN_range s
  exact read_op lb s hd (by omega) (by omega) h0 a c args hal sec w hA hT
end Go.Proofs.YtogkchgjpflmjaaGreatDoor

/- item's reader of several items: bytes and words. -/
import Derived.Test.YtogkchgjpflmjaaGreatDoorRefAdd
import Derived.Test.YtogkchgjpflmjaaGreatDoorArgsO
namespace Go.Proofs.YtogkchgjpflmjaaGreatDoor
open Go.ChangeShapes Go.WideShapes Go.ChangeAt Go.RowKit
set_option linter.unusedVariables false
set_option maxRecDepth 100000
theorem ItOwn.push {lo : Nat} {w w' : World} {v v' : Value} {p : List (Itm × Value)} {q : Itm × Value} (h : ItOwn lo w v p) (hq : w.ownsRow lo 123 2 q.2 q.1.e.terms.length (rowT q.1.e.terms)) (hg : w.grownBy w' v.ownBlock) (hrow : w'.ownsRow lo 91 10 v' (p.length + 1) (rowI (p ++ [q]))) : ItOwn lo w' v' (p ++ [q]) := by
  refine ⟨by rw [List.length_append, List.length_singleton]; exact hrow, fun y hy => ?_⟩
  rcases List.mem_append.1 hy with hy | hy
  · exact (h.each y hy).kept hg (own_other (h.each y hy) h.row (by decide))
  · simp at hy
    subst hy
    exact hq.kept hg (own_other hq h.row (by decide))
theorem ItOwn.lies {lo : Nat} {w : World} {v : Value} {p : List (Itm × Value)} (h : ItOwn lo w v p) : ItemsLie w v (p.map (·.1)) := by
  rcases h.row.2 with ⟨hv, h0⟩ | ⟨g, cap, cur, hv, _, hg, _⟩
  · exact .inl ⟨by rw [List.length_eq_zero_iff.1 h0]; rfl, hv⟩
  · refine .inr ⟨g, cap, by rw [hv, List.length_map], (Array.getElem?_eq_some_iff.1 hg).1, fun i x hx => ?_⟩
    rw [List.getElem?_map] at hx
    obtain ⟨q, hq, rfl⟩ := Option.map_eq_some_iff.1 hx
    have hlt := (List.getElem?_eq_some_iff.1 hq).1
    have ho := h.each q (List.mem_of_getElem? hq)
    obtain ⟨va, vc, hva⟩ := own_slice ho
    have hrow := h.row
    rw [hv] at hrow
    have key : ∀ j, j < 10 → w.cell? ⟨g, i * 10 + j, none⟩ = (itmCells q.1 q.2).toList[j]? := fun j hj => by
      rw [hrow.cellAt _ (by omega)]
      exact flat_at (fun q : Itm × Value => (itmCells q.1 q.2).toList) 10 (fun _ => rfl) p i j q hq hj
    rw [hva] at key ho
    exact ⟨va, _, vc, ⟨key 0 (by omega), key 1 (by omega), key 2 (by omega), key 3 (by omega), key 4 (by omega), key 5 (by omega), key 6 (by omega), key 7 (by omega), key 8 (by omega), key 9 (by omega)⟩, rfl, own_tmLies ho⟩
theorem info33 : (Tryz.prog.info? 91).map (fun i => (i.zero, i.size, i.bytes)) = some (some (.agg #[.int .i64 0, .string ⟨#[]⟩, .int .i64 0, .int .i64 0, .int .i64 0, .int .i32 0, .int .i64 0, .slice none 0 0, .int .u32 0, .int .i64 0]), 10, 104) := by kernel_rfl
theorem step_item {ops : Array Oper} {o : Oper} {a : Act} {K : Act → World → Prop} {Q : Exit → Act → World → Prop} {E : Prop} (w : World) (hgd : o.guard = none) (s x : Operand)
    (ho : o.op = .call { callee := .builtin .append, args := #[s, x], argTypes := #[22, 22] }) (base : Nat) (a1 : Option Addr) (L c1 : Nat) (p : List (Itm × Value)) (hs : a.eval s = .slice a1 L c1) (hown : w.ownsRow base 91 10 (.slice a1 L c1) L (rowI p))
    (g : Nat) (y : Itm) (va : Option Addr) (n vc : Nat) (hx : a.eval x = .slice (some ⟨g, 0, none⟩) 1 1) (hc : ∀ j u, (itmCells y (.slice va n vc)).toList[j]? = some u → w.cell? ((⟨g, 0, none⟩ : Addr).add j) = some u) (hm : L ≤ 4500000) (hbase : base ≤ w.heap.size)
    (hK : ∀ a' c' w', w'.ownsRow base 91 10 (.slice a' (L + 1) c') (L + 1) (rowI (p ++ [(y, .slice va n vc)])) → w.grownBy w' (Value.slice a1 L c1).ownBlock → K (a.put o.dst (.slice a' (L + 1) c')) w') :
    if Region.wanted o (yielded ops a.tmps) = true then Oper.wp Tryz.prog o a w K Q else E := by
  have hw : Region.wanted o (yielded ops a.tmps) = true := by simp [Region.wanted, hgd]
  rw [if_pos hw]
  obtain ⟨i0, hi, hz0, hz1, hz2⟩ := info_parts info33
  obtain ⟨v', w', hrun, r1, r2, _⟩ := run_append_own_wide (P := Tryz.prog) w base 22 o.type 91 i0 (.agg #[.int .i64 0, .string ⟨#[]⟩, .int .i64 0, .int .i64 0, .int .i64 0, .int .i32 0, .int .i64 0, .slice none 0 0, .int .u32 0, .int .i64 0]) 10 104 Tryz.underlying22 hi hz0 hz1 hz2 rfl (by decide) (.slice a1 L c1) L (rowI p) hown ⟨g, 0, none⟩ 1 1 (itmCells y (.slice va n vc)).toList rfl hc (by simp [Value.oneCell']) (by unfold maxLen; omega) (by omega) hbase
  obtain ⟨a', c', rfl⟩ := own_slice r1
  unfold Oper.wp
  simp [execOp, ho, resolve, invoke, builtin, hs, hx, hrun, Result.andThen]
  exact hK a' c' w' (by rw [rowI_push]; exact r1) r2
def itsAcc (acc : List Itm) (R : Except Int (List Itm)) : Except Int (List Itm) := match R with | .error k => .error k | .ok l => .ok (acc ++ l)
structure SvSt (w : World) (b : Nat) (kind : Int) (a : Option Addr) (args : List (List Tok)) (R0 : Except Int (List Itm)) (i : Nat) (p : List (Itm × Value)) (a1 : Option Addr) (L c1 : Nat) (wr : World) : Prop where
  bel : Below b w wr
  ins : ArgsIn b wr a args
  blk : wr.heap[b]? = some (.cells #[.int .i64 kind, .slice a1 L c1] 231 (0, 0))
  own : ItOwn (b + 1) wr (.slice a1 L c1) p
  len : L = p.length
  eq : R0 = itsAcc (p.map (·.1)) (itsF kind (args.drop i))
  few : L ≤ i
theorem SvSt.below {w : World} {b : Nat} {kind : Int} {a : Option Addr} {args : List (List Tok)} {R0 : Except Int (List Itm)} {i : Nat} {p : List (Itm × Value)} {a1 : Option Addr} {L c1 : Nat} {wr w' : World} (h : SvSt w b kind a args R0 i p a1 L c1 wr) (hb : Below wr.heap.size wr w') : SvSt w b kind a args R0 i p a1 L c1 w' := by
  have hlt := blk_lt h.blk
  exact ⟨h.bel.trans (hb.mono (by omega)), h.ins.below (hb.mono (by omega)), by rw [hb.block b hlt]; exact h.blk, h.own.below hb, h.len, h.eq, h.few⟩
theorem SvSt.push {w : World} {b : Nat} {kind : Int} {a : Option Addr} {args : List (List Tok)} {R0 : Except Int (List Itm)} {i : Nat} {p : List (Itm × Value)} {a1 : Option Addr} {L c1 : Nat} {wr wa w3 : World} (h : SvSt w b kind a args R0 i p a1 L c1 wr) (hb : Below wr.heap.size wr wa) {arg : List Tok} (harg : args[i]? = some arg) {q : Itm × Value} (hit : itOf kind arg = .ok q.1) (hq : wr.ownsRow (b + 1) 123 2 q.2 q.1.e.terms.length (rowT q.1.e.terms))
    {a3 : Option Addr} {c3 : Nat} (hrow : w3.ownsRow (b + 1) 91 10 (.slice a3 (L + 1) c3) (L + 1) (rowI (p ++ [q]))) (hg : wa.grownBy w3 (Value.slice a1 L c1).ownBlock) : SvSt w b kind a args R0 (i + 1) (p ++ [q]) a3 (L + 1) c3 (w3.setCell ⟨b, 1, none⟩ (.slice a3 (L + 1) c3)) ∧ w3.heap[b]? = some (.cells #[.int .i64 kind, .slice a1 L c1] 231 (0, 0)) := by
  have hk := h.below hb
  have hlt := blk_lt hk.blk
  have hnb : (Value.slice a1 L c1).ownBlock ≠ some b := fun e => by have := (hk.own.row.lt _ e).1; omega
  have h3 : w3.heap[b]? = some (.cells #[.int .i64 kind, .slice a1 L c1] 231 (0, 0)) := by rw [hg.block b hlt (fun e => hnb e.symm)]; exact hk.blk
  obtain ⟨s1, s2⟩ := row_set h3 1 (.slice a3 (L + 1) c3)
  have hlen := h.len
  have hB3 : Below b wa w3 := (Below.refl b wa).grown hg (by omega) (fun j hj => by have := (hk.own.row.lt _ hj).1; omega)
  have hsz := hg.size
  have hB4 : Below b wa (w3.setCell ⟨b, 1, none⟩ (.slice a3 (L + 1) c3)) := hB3.grown s2 (by omega) (fun j hj => by cases hj; exact Nat.le_refl _)
  refine ⟨⟨hk.bel.trans hB4, hk.ins.below hB4, s1, ?_, by simp [hlen], ?_, by have := h.few; omega⟩, h3⟩
  · refine ItOwn.low ?_ s2 (by omega)
    exact hk.own.push (own_below' hq hb) hg (by rw [← hlen]; exact hrow)
  · rw [h.eq, drop_at args i arg harg, itsF, hit]
    simp only [itsAcc]
    cases itsF kind (List.drop (i + 1) args) with
    | error k => rfl
    | ok l => simp
theorem SvSt.fin {w : World} {b : Nat} {kind : Int} {a : Option Addr} {args : List (List Tok)} {R0 : Except Int (List Itm)} {i : Nat} {p : List (Itm × Value)} {a1 : Option Addr} {L c1 : Nat} {wr : World} (h : SvSt w b kind a args R0 i p a1 L c1 wr) (hi : args.length ≤ i) : R0 = .ok (p.map (·.1)) := by
  rw [h.eq, List.drop_eq_nil_of_le hi]
  simp [itsF, itsAcc]
theorem SvSt.err {w : World} {b : Nat} {kind : Int} {a : Option Addr} {args : List (List Tok)} {R0 : Except Int (List Itm)} {i : Nat} {p : List (Itm × Value)} {a1 : Option Addr} {L c1 : Nat} {wr : World} (h : SvSt w b kind a args R0 i p a1 L c1 wr) {arg : List Tok} (harg : args[i]? = some arg) {k : Int} (hit : itOf kind arg = .error k) : R0 = .error k := by
  rw [h.eq, drop_at args i arg harg, itsF, hit]
  rfl
theorem itOf_err {kind : Int} {arg : List Tok} {k : Int} (h : itOf kind arg = .error k) : k = 20 ∨ k = 21 := by
  unfold itOf at h
  split at h
  · exact exprF_err h
  · split at h
    · rename_i hn; cases h; exact numF_err hn
    · cases h
def SvOut (b : Nat) (kind : Int) (R : Except Int (List Itm)) (e : Ending) (w' : World) : Prop := match R with | .error k => e = .returned (.int .i64 k) | .ok l => e = .returned (.int .i64 0) ∧ ∃ p a1 L c1, p.map (·.1) = l ∧ w'.heap[b]? = some (.cells #[.int .i64 kind, .slice a1 L c1] 231 (0, 0)) ∧ ItOwn (b + 1) w' (.slice a1 L c1) p
def ExpW (R : Except Int Itm) (y : Lin) (W : Int) : Prop := match R with | .error k => W = k | .ok x => W = 0 ∧ { itmE with kind := 6, e := y } = x
def WhyW (R : Except Int Itm) (W : Int) : Prop := match R with | .error k => W = k | .ok _ => W = 0
theorem box_set {w w1 : World} {o : Obj} {x : Itm} {v0 : Value} (ho : o = .cells (itmCells x v0) 91) (hb : Below (w.alloc o).heap.size (w.alloc o) w1) : w1.heap[w.heap.size]? = some (.cells (itmCells x v0) 91 (0, 0)) ∧ Below w.heap.size w w1 := by
  subst ho
  refine ⟨?_, (below_alloc w _).trans (hb.mono (by simp))⟩
  rw [hb.block _ (by simp)]
  exact heap_alloc_new w _
set_option maxHeartbeats 4000000 in
theorem sevRead_5 (b : Nat) (a : Option Addr) (c : Nat) (args : List (List Tok)) (hm : args.length ≤ 1100000) (w : World) (hA : ArgsIn b w a args) (h : w.heap[b]? = some (.cells #[.int .i64 5, .slice none 0 0] 231 (0, 0))) :
    Calls Tryz.prog 263 #[.pointer (some ⟨b, 0, none⟩), .slice a args.length c] w fun e w' => Below b w w' ∧ SvOut b 5 (itsF 5 args) e w' := by
  obtain ⟨R0, hR0⟩ : ∃ R0, itsF 5 args = R0 := ⟨_, rfl⟩
  have hlt0 := blk_lt h
  have hst : Hid (SvSt w b 5 a args R0 0 [] none 0 0 w) := ⟨Below.refl _ _, hA, h, ItOwn.start _ _, rfl, by rw [← hR0]; simp only [itsAcc, List.drop_zero]; cases itsF 5 args <;> rfl, Nat.le_refl _⟩
  rw [hR0]
  clear hR0 h hA
  obtain ⟨n0, hn0⟩ : ∃ n0, n0 = args.length := ⟨_, rfl⟩
  rw [← hn0] at hm ⊢
  replace hn0 := Hid.intro hn0
  go_enter Tryz.func263, Tryz.ntmps263
  go_wp2
  go_loopw [10] (fun v10 wr => ∃ (i : Nat) (p : List (Itm × Value)) (a1 : Option Addr) (L c1 : Nat), i ≤ n0 ∧ v10 = .int .i64 (i : Int) ∧ Hid (SvSt w b 5 a args R0 i p a1 L c1 wr)) (fun v10 wr => n0 - (intOf v10).toNat)
  case atStart => exact ⟨0, [], none, 0, 0, by omega, rfl, hst⟩
  case round =>
    clear hst
    obtain ⟨i, p, a1, L, c1, hi, rfl, hS⟩ := hrel
    by_cases hlt : i < n0
    · obtain ⟨arg, harg⟩ : ∃ arg, args[i]? = some arg := ⟨args[i]'(by rw [← hn0.out]; exact hlt), List.getElem?_eq_getElem _⟩
      obtain ⟨G, a', c', rfl, hG, hcell, hT, hy⟩ := hS.out.ins.at harg
      have hbl := blk_lt hS.out.blk
      have hlt2 : (i : Int) < (n0 : Int) := by omega
      have z0 := (cell_blockT hS.out.blk 0).trans rfl
      have zA : ∀ o, (wr.alloc o).cell? ⟨b, 0, none⟩ = some (.int .i64 5) := fun o => (cell_blockT (hS.out.below (below_alloc wr o)).blk 0).trans rfl
      have hTA : Toks (wr.alloc (.cells #[.int .i64 5, .string ⟨#[]⟩, .int .i64 0, .int .i64 0, .int .i64 0, .int .i32 0, .int .i64 0, .slice none 0 0, .int .u32 0, .int .i64 0] 91)) a' c' arg := hT.low (B := wr.heap.size) hT.old (below_alloc wr _) (Nat.le_refl _)
      have hLn : L ≤ 1100000 := by have := hS.out.few; omega
      have hone := numberOf_any 5 a' c' arg _ hTA
      have hcell' := hcell
      obtain ⟨R1, hR1⟩ : ∃ R1, itOf 5 arg = R1 := ⟨_, rfl⟩
      have hse := @itOf_err 5 arg
      rw [hR1] at hse
      obtain ⟨Nn, W, hN, hWR⟩ := num_w 5 (by decide) arg
      rw [hR1] at hWR
      replace hWR := Hid.intro hWR
      rw [hN] at hone
      clear hN
      have hargH := Hid.intro harg
      have hR1H := Hid.intro hR1
      clear hT hTA hcell' harg hR1 hy
      generalize arg.length = ln at hcell hone
      replace hone := Hid.intro hone
      go_upto_region 8 with (go_at_call 229; (with_reducible refine (hone.out).mono ?_); rintro e w1 ⟨rfl, hb1⟩; obtain ⟨hx1, hB1⟩ := box_set (x := { itmE with kind := 5 }) (v0 := .slice none 0 0) rfl hb1; have x9 := (cell_blockT hx1 9).trans rfl; have xf := frozen_of_row w1 wr.heap.size 9 _ 91 hx1; replace hx1 := Hid.intro hx1)
      all_goals first | omega | skip
      obtain ⟨s1, s2⟩ := row_set hx1.out 9 (.int .i64 Nn)
      have hsz1 := hB1.size
      have hB2 : Below wr.heap.size wr (w1.setCell ⟨wr.heap.size, 9, none⟩ (.int .i64 Nn)) := hB1.grown s2 (by omega) (fun j hj => by cases hj; exact Nat.le_refl _)
      have hG2 : Hid ((w1.setCell ⟨wr.heap.size, 9, none⟩ (.int .i64 Nn)).heap[wr.heap.size]? = some (.cells (itmCells { itmE with kind := 5, n := Nn } (.slice none 0 0)) 91 (0, 0))) := s1
      clear s1 s2 x9 xf hx1 hone
      generalize (w1.setCell ⟨wr.heap.size, 9, none⟩ (.int .i64 Nn)) = w2 at hB2 hG2 ⊢
      have hQ : Hid (w2.ownsRow (b + 1) 123 2 (.slice none 0 0) linE.terms.length (rowT linE.terms)) := World.ownsRow_nil _ _ _ _
      have hS2 : Hid (SvSt w b 5 (some ⟨G, 0, none⟩) args R0 i p a1 L c1 w2) := hS.out.below hB2
      clear zA z0 hcell
      cases R1 with
      | error k =>
        have hk0 : (k == 0) = false := by rcases hse rfl with rfl | rfl <;> rfl
        obtain rfl : W = k := hWR.out
        go_wp2
        all_goals first | omega | skip
        go_ret
        rw [hS2.out.err hargH.out hR1H.out]
        exact ⟨hS2.out.bel, rfl⟩
      | ok x =>
        obtain ⟨hW0, hx⟩ : W = 0 ∧ { itmE with kind := 5, n := Nn } = x := hWR.out
        subst hW0
        subst hx
        clear hse
        have hG2L : w2.heap[wr.heap.size]? = some (.cells #[.int .i64 5, .string ⟨#[]⟩, .int .i64 0, .int .i64 0, .int .i64 0, .int .i32 0, .int .i64 0, .slice none 0 0, .int .u32 0, .int .i64 Nn] 91 (0, 0)) := hG2.out
        have y0 := (cell_blockT hG2L 0).trans rfl
        have y1 := (cell_blockT hG2L 1).trans rfl
        have y2 := (cell_blockT hG2L 2).trans rfl
        have y3 := (cell_blockT hG2L 3).trans rfl
        have y4 := (cell_blockT hG2L 4).trans rfl
        have y5 := (cell_blockT hG2L 5).trans rfl
        have y6 := (cell_blockT hG2L 6).trans rfl
        have y7 := (cell_blockT hG2L 7).trans rfl
        have y8 := (cell_blockT hG2L 8).trans rfl
        have y9 := (cell_blockT hG2L 9).trans rfl
        replace hG2L := Hid.intro hG2L
        have z1 := (cell_blockT hS2.out.blk 1).trans rfl
        have zA1 : ∀ o, (w2.alloc o).cell? ⟨b, 1, none⟩ = some (.slice a1 L c1) := fun o => (cell_blockT (hS2.out.below (below_alloc w2 o)).blk 1).trans rfl
        have cnH : Hid (∀ j u, (itmCells ({ itmE with kind := 5, n := Nn }) (Value.slice none 0 0)).toList[j]? = some u → (w2.alloc (.cells #[.int .i64 5, .string ⟨#[]⟩, .int .i64 0, .int .i64 0, .int .i64 0, .int .i32 0, .int .i64 0, .slice none 0 0, .int .u32 0, .int .i64 Nn] 91)).drew.cell? ((⟨w2.heap.size, 0, none⟩ : Addr).add j) = some u) := cells_new w2 #[.int .i64 5, .string ⟨#[]⟩, .int .i64 0, .int .i64 0, .int .i64 0, .int .i32 0, .int .i64 0, .slice none 0 0, .int .u32 0, .int .i64 Nn] 91
        have hsz2 := blk_lt hS2.out.blk
        have hownH : Hid ((w2.alloc (.cells #[.int .i64 5, .string ⟨#[]⟩, .int .i64 0, .int .i64 0, .int .i64 0, .int .i32 0, .int .i64 0, .slice none 0 0, .int .u32 0, .int .i64 Nn] 91)).drew.ownsRow (b + 1) 91 10 (.slice a1 L c1) L (rowI p)) := by
          have := (hS2.out.below ((below_alloc w2 (.cells #[.int .i64 5, .string ⟨#[]⟩, .int .i64 0, .int .i64 0, .int .i64 0, .int .i32 0, .int .i64 0, .slice none 0 0, .int .u32 0, .int .i64 Nn] 91)).drew)).own.row
          rw [← hS2.out.len] at this
          exact this
        go_wp2
        all_goals first | omega | skip
        go_region_law (refine step_item _ rfl (.tmp 47) (.tmp 49) rfl (b + 1) a1 L c1 p rfl hownH.out w2.heap.size ({ itmE with kind := 5, n := Nn }) none 0 0 rfl cnH.out (by omega) (by simp; omega) ?_; intro a3 c3 w3 ho3 hg3; obtain ⟨hpf, hb3⟩ := hS2.out.push ((below_alloc w2 _).drew) hargH.out (q := ({ itmE with kind := 5, n := Nn }, Value.slice none 0 0)) hR1H.out hQ.out ho3 hg3; replace hpf := Hid.intro hpf; have u1 := (cell_blockT hb3 1).trans rfl; have uf := frozen_of_row w3 b 1 _ 231 hb3; clear hb3)
        all_goals clear u1 uf y0 y1 y2 y3 y4 y5 y6 y7 y8 y9 z1 zA1
        all_goals go_wp2_with fail
        all_goals go_roundw
        all_goals first
          | exact ⟨i + 1, _, _, _, _, by omega, by go_num, hpf⟩
          | (simp [intOf]; omega)
    · have hin : i = n0 := by omega
      have hfin : Hid (R0 = .ok (p.map (·.1))) := hS.out.fin (by rw [← hn0.out]; omega)
      subst hin
      have hlt3 : ¬ ((i : Int) < (i : Int)) := by omega
      go_wp2
      all_goals first | omega | skip
      go_ret
      rw [hfin.out]
      exact ⟨hS.out.bel, rfl, p, a1, L, c1, rfl, hS.out.blk, hS.out.own⟩
set_option maxHeartbeats 4000000 in
theorem sevRead_6 (b : Nat) (a : Option Addr) (c : Nat) (args : List (List Tok)) (hm : args.length ≤ 1100000) (w : World) (hA : ArgsIn b w a args) (h : w.heap[b]? = some (.cells #[.int .i64 6, .slice none 0 0] 231 (0, 0))) :
    Calls Tryz.prog 263 #[.pointer (some ⟨b, 0, none⟩), .slice a args.length c] w fun e w' => Below b w w' ∧ SvOut b 6 (itsF 6 args) e w' := by
  obtain ⟨R0, hR0⟩ : ∃ R0, itsF 6 args = R0 := ⟨_, rfl⟩
  have hlt0 := blk_lt h
  have hst : Hid (SvSt w b 6 a args R0 0 [] none 0 0 w) := ⟨Below.refl _ _, hA, h, ItOwn.start _ _, rfl, by rw [← hR0]; simp only [itsAcc, List.drop_zero]; cases itsF 6 args <;> rfl, Nat.le_refl _⟩
  rw [hR0]
  clear hR0 h hA
  obtain ⟨n0, hn0⟩ : ∃ n0, n0 = args.length := ⟨_, rfl⟩
  rw [← hn0] at hm ⊢
  replace hn0 := Hid.intro hn0
  go_enter Tryz.func263, Tryz.ntmps263
  go_wp2
  go_loopw [10] (fun v10 wr => ∃ (i : Nat) (p : List (Itm × Value)) (a1 : Option Addr) (L c1 : Nat), i ≤ n0 ∧ v10 = .int .i64 (i : Int) ∧ Hid (SvSt w b 6 a args R0 i p a1 L c1 wr)) (fun v10 wr => n0 - (intOf v10).toNat)
  case atStart => exact ⟨0, [], none, 0, 0, by omega, rfl, hst⟩
  case round =>
    clear hst
    obtain ⟨i, p, a1, L, c1, hi, rfl, hS⟩ := hrel
    by_cases hlt : i < n0
    · obtain ⟨arg, harg⟩ : ∃ arg, args[i]? = some arg := ⟨args[i]'(by rw [← hn0.out]; exact hlt), List.getElem?_eq_getElem _⟩
      obtain ⟨G, a', c', rfl, hG, hcell, hT, hy⟩ := hS.out.ins.at harg
      have hbl := blk_lt hS.out.blk
      have hlt2 : (i : Int) < (n0 : Int) := by omega
      have z0 := (cell_blockT hS.out.blk 0).trans rfl
      have zA : ∀ o, (wr.alloc o).cell? ⟨b, 0, none⟩ = some (.int .i64 6) := fun o => (cell_blockT (hS.out.below (below_alloc wr o)).blk 0).trans rfl
      have hTA : Toks (wr.alloc (.cells #[.int .i64 6, .string ⟨#[]⟩, .int .i64 0, .int .i64 0, .int .i64 0, .int .i32 0, .int .i64 0, .slice none 0 0, .int .u32 0, .int .i64 0] 91)) a' c' arg := hT.low (B := wr.heap.size) hT.old (below_alloc wr _) (Nat.le_refl _)
      have hLn : L ≤ 1100000 := by have := hS.out.few; omega
      have hone := parse_why a' c' arg { itmE with kind := 6 } _ hTA
      have hcell' := hcell
      obtain ⟨R1, hR1⟩ : ∃ R1, itOf 6 arg = R1 := ⟨_, rfl⟩
      have hse := @itOf_err 6 arg
      rw [hR1] at hse
      have hE : exprF arg { itmE with kind := 6 } = R1 := by rw [← hR1]; rfl
      rw [hE] at hone
      clear hE
      obtain ⟨W, hW, hWR0⟩ : ∃ W, whyOf R1 = W ∧ Hid (WhyW R1 W) := ⟨_, rfl, by cases R1 <;> rfl⟩
      rw [hW] at hone
      clear hW
      have hargH := Hid.intro harg
      have hR1H := Hid.intro hR1
      clear hT hTA hcell' harg hR1 hy
      generalize arg.length = ln at hcell hone
      replace hone := Hid.intro hone
      go_upto_region 8 with (go_at_call 231; (with_reducible refine (hone.out).mono ?_); rintro e w1 ⟨hb1, y, vb, m, vd, rfl, hoy, hxy⟩; obtain ⟨hx1, hB1⟩ := box_set (x := { itmE with kind := 6 }) (v0 := .slice none 0 0) rfl hb1; have x7 := (cell_blockT hx1 7).trans rfl; have x8 := (cell_blockT hx1 8).trans rfl; have xf7 := frozen_of_row w1 wr.heap.size 7 _ 91 hx1; have xf8 := frozen_of_row w1 wr.heap.size 8 _ 91 hx1; replace hx1 := Hid.intro hx1; replace hoy := Hid.intro hoy; replace hxy := Hid.intro hxy)
      all_goals first | omega | skip
      obtain ⟨s1, s2⟩ := row_set hx1.out 7 (.slice vb m vd)
      obtain ⟨t1, t2⟩ := row_set s1 8 (.int .u32 y.const)
      have hg12 := grown_trans s2 t2
      have hsz1 := hB1.size
      have hszA : (wr.alloc (.cells #[.int .i64 6, .string ⟨#[]⟩, .int .i64 0, .int .i64 0, .int .i64 0, .int .i32 0, .int .i64 0, .slice none 0 0, .int .u32 0, .int .i64 0] 91)).heap.size = wr.heap.size + 1 := by simp
      have hB2 : Below wr.heap.size wr ((w1.setCell ⟨wr.heap.size, 7, none⟩ (.slice vb m vd)).setCell ⟨wr.heap.size, 8, none⟩ (.int .u32 y.const)) := hB1.grown hg12 (by omega) (fun j hj => by cases hj; exact Nat.le_refl _)
      have hG2 : Hid (((w1.setCell ⟨wr.heap.size, 7, none⟩ (.slice vb m vd)).setCell ⟨wr.heap.size, 8, none⟩ (.int .u32 y.const)).heap[wr.heap.size]? = some (.cells (itmCells { itmE with kind := 6, e := y } (.slice vb m vd)) 91 (0, 0))) := t1
      have hQ : Hid (((w1.setCell ⟨wr.heap.size, 7, none⟩ (.slice vb m vd)).setCell ⟨wr.heap.size, 8, none⟩ (.int .u32 y.const)).ownsRow (b + 1) 123 2 (.slice vb m vd) y.terms.length (rowT y.terms)) := own_weaken (own_low hoy.out hg12 (by omega)) (by omega)
      have hWR : Hid (ExpW R1 y W) := by
        show ExpW R1 y W
        cases R1 with
        | error k => exact hWR0.out
        | ok x => exact ⟨hWR0.out, (hxy.out x rfl).symm⟩
      clear s1 s2 t1 t2 x7 x8 xf7 xf8 hx1 hone hoy hxy hWR0 hg12
      generalize ((w1.setCell ⟨wr.heap.size, 7, none⟩ (.slice vb m vd)).setCell ⟨wr.heap.size, 8, none⟩ (.int .u32 y.const)) = w2 at hB2 hG2 hQ ⊢
      have hS2 : Hid (SvSt w b 6 (some ⟨G, 0, none⟩) args R0 i p a1 L c1 w2) := hS.out.below hB2
      clear zA z0 hcell
      cases R1 with
      | error k =>
        have hk0 : (k == 0) = false := by rcases hse rfl with rfl | rfl <;> rfl
        obtain rfl : W = k := hWR.out
        go_wp2
        all_goals first | omega | skip
        go_ret
        rw [hS2.out.err hargH.out hR1H.out]
        exact ⟨hS2.out.bel, rfl⟩
      | ok x =>
        obtain ⟨hW0, hx⟩ : W = 0 ∧ { itmE with kind := 6, e := y } = x := hWR.out
        subst hW0
        subst hx
        clear hse
        have hG2L : w2.heap[wr.heap.size]? = some (.cells #[.int .i64 6, .string ⟨#[]⟩, .int .i64 0, .int .i64 0, .int .i64 0, .int .i32 0, .int .i64 0, .slice vb m vd, .int .u32 y.const, .int .i64 0] 91 (0, 0)) := hG2.out
        have y0 := (cell_blockT hG2L 0).trans rfl
        have y1 := (cell_blockT hG2L 1).trans rfl
        have y2 := (cell_blockT hG2L 2).trans rfl
        have y3 := (cell_blockT hG2L 3).trans rfl
        have y4 := (cell_blockT hG2L 4).trans rfl
        have y5 := (cell_blockT hG2L 5).trans rfl
        have y6 := (cell_blockT hG2L 6).trans rfl
        have y7 := (cell_blockT hG2L 7).trans rfl
        have y8 := (cell_blockT hG2L 8).trans rfl
        have y9 := (cell_blockT hG2L 9).trans rfl
        replace hG2L := Hid.intro hG2L
        have z1 := (cell_blockT hS2.out.blk 1).trans rfl
        have zA1 : ∀ o, (w2.alloc o).cell? ⟨b, 1, none⟩ = some (.slice a1 L c1) := fun o => (cell_blockT (hS2.out.below (below_alloc w2 o)).blk 1).trans rfl
        have cnH : Hid (∀ j u, (itmCells ({ itmE with kind := 6, e := y }) (Value.slice vb m vd)).toList[j]? = some u → (w2.alloc (.cells #[.int .i64 6, .string ⟨#[]⟩, .int .i64 0, .int .i64 0, .int .i64 0, .int .i32 0, .int .i64 0, .slice vb m vd, .int .u32 y.const, .int .i64 0] 91)).drew.cell? ((⟨w2.heap.size, 0, none⟩ : Addr).add j) = some u) := cells_new w2 #[.int .i64 6, .string ⟨#[]⟩, .int .i64 0, .int .i64 0, .int .i64 0, .int .i32 0, .int .i64 0, .slice vb m vd, .int .u32 y.const, .int .i64 0] 91
        have hsz2 := blk_lt hS2.out.blk
        have hownH : Hid ((w2.alloc (.cells #[.int .i64 6, .string ⟨#[]⟩, .int .i64 0, .int .i64 0, .int .i64 0, .int .i32 0, .int .i64 0, .slice vb m vd, .int .u32 y.const, .int .i64 0] 91)).drew.ownsRow (b + 1) 91 10 (.slice a1 L c1) L (rowI p)) := by
          have := (hS2.out.below ((below_alloc w2 (.cells #[.int .i64 6, .string ⟨#[]⟩, .int .i64 0, .int .i64 0, .int .i64 0, .int .i32 0, .int .i64 0, .slice vb m vd, .int .u32 y.const, .int .i64 0] 91)).drew)).own.row
          rw [← hS2.out.len] at this
          exact this
        go_wp2
        all_goals first | omega | skip
        go_region_law (refine step_item _ rfl (.tmp 47) (.tmp 49) rfl (b + 1) a1 L c1 p rfl hownH.out w2.heap.size ({ itmE with kind := 6, e := y }) vb m vd rfl cnH.out (by omega) (by simp; omega) ?_; intro a3 c3 w3 ho3 hg3; obtain ⟨hpf, hb3⟩ := hS2.out.push ((below_alloc w2 _).drew) hargH.out (q := ({ itmE with kind := 6, e := y }, Value.slice vb m vd)) hR1H.out hQ.out ho3 hg3; replace hpf := Hid.intro hpf; have u1 := (cell_blockT hb3 1).trans rfl; have uf := frozen_of_row w3 b 1 _ 231 hb3; clear hb3)
        all_goals clear u1 uf y0 y1 y2 y3 y4 y5 y6 y7 y8 y9 z1 zA1
        all_goals go_wp2_with fail
        all_goals go_roundw
        all_goals first
          | exact ⟨i + 1, _, _, _, _, by omega, by go_num, hpf⟩
          | (simp [intOf]; omega)
    · have hin : i = n0 := by omega
      have hfin : Hid (R0 = .ok (p.map (·.1))) := hS.out.fin (by rw [← hn0.out]; omega)
      subst hin
      have hlt3 : ¬ ((i : Int) < (i : Int)) := by omega
      go_wp2
      all_goals first | omega | skip
      go_ret
      rw [hfin.out]
      exact ⟨hS.out.bel, rfl, p, a1, L, c1, rfl, hS.out.blk, hS.out.own⟩
end Go.Proofs.YtogkchgjpflmjaaGreatDoor

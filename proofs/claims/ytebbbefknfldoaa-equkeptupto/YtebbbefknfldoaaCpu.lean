/- spandrelkeep's CopyUnit, of a unit that holds equs alone. -/
import Derived.Test.YtebbbefknfldoaaCpl
namespace Go.Proofs.Ytebbbefknfldoaa
open Go.ChangeShapes Go.WideShapes Go.ChangeAt Go.RowKit Go.Sort
set_option linter.unusedVariables false
set_option linter.unusedSimpArgs false
set_option maxRecDepth 100000
theorem step_fn1K {ops : Array Oper} {o : Oper} {a : Act} {K : Act → World → Prop} {Q : Exit → Act → World → Prop} {E : Prop} (P : Program) (w : World) (hgd : o.guard = none) (f : FuncId) (x : Operand) (ts : Array TypeId)
    (ho : o.op = .call { callee := .value (.func f), args := #[x], argTypes := ts }) (v : Value) (hx : a.eval x = v) (fn : Func) (hf : P.funcs[f]? = some fn) (hn : fn.name ≠ "runtime.NumGoroutine") (hb : fn.body ≠ none)
    (hK : Calls P f #[v] w fun e w' => ∃ v, e = .returned v ∧ K (a.put o.dst v) w') :
    if Region.wanted o (yielded ops a.tmps) = true then Oper.wp P o a w K Q else E := by
  have hw : Region.wanted o (yielded ops a.tmps) = true := by simp [Region.wanted, hgd]
  rw [if_pos hw]
  have hrun : (execOp a.eval o).run P w = .ok (.enter f #[v]) w := by
    simp [execOp, ho, resolve, invoke, callFunc, hx, hf, hn, hb, Deferred.ofValue, Act.eval]
    simpa [Act.eval] using hx
  unfold Oper.wp
  rw [hrun, Oper.upon_enter]
  refine hK.mono ?_
  rintro e w' ⟨v, rfl, h⟩
  exact h
theorem app0K (ty : TypeId) (g : Nat) (W : World) : (Builtin.append_ #[33, 33] ty #[.slice (some ⟨g, 0, none⟩) 0 0, .slice none 0 0]).run Try.prog W = .ok (.slice (some ⟨g, 0, none⟩) 0 0) W := by
  obtain ⟨i, hi, _, _, _⟩ := info_parts info9
  simp [Builtin.append_, run_underlying Try.underlying33, sizeOf, typeInfo, hi, Builtin.lenOf, Builtin.firstCells, loadCells, loadCellsFrom, storeCells, Result.andThen]
theorem step_app0K {ops : Array Oper} {o : Oper} {a : Act} {K : Act → World → Prop} {Q : Exit → Act → World → Prop} {E : Prop} (w : World) (hgd : o.guard = none) (s x : Operand)
    (ho : o.op = .call { callee := .builtin .append, args := #[s, x], argTypes := #[33, 33] }) (g : Nat) (hs : a.eval s = .slice (some ⟨g, 0, none⟩) 0 0) (hx : a.eval x = .slice none 0 0)
    (hK : K (a.put o.dst (.slice (some ⟨g, 0, none⟩) 0 0)) w) :
    if Region.wanted o (yielded ops a.tmps) = true then Oper.wp Try.prog o a w K Q else E := by
  have hw : Region.wanted o (yielded ops a.tmps) = true := by simp [Region.wanted, hgd]
  rw [if_pos hw]
  unfold Oper.wp
  simp [execOp, ho, resolve, invoke, builtin, hs, hx, app0K, Result.andThen]
  exact hK
theorem f39_name : Try.f39.name ≠ "runtime.NumGoroutine" := by decide
theorem f39_body : Try.f39.body ≠ none := by simp [Try.f39]
theorem chnK {w w1 w2 : World} (h1 : Below w.heap.size w w1) (h2 : Below w1.heap.size w1 w2) : Below w.heap.size w w2 := h1.trans (h2.mono h1.size)
theorem blk_otherK {w : World} {lo : Nat} {T T' : TypeId} {sz : Nat} {v : Value} {n : Nat} {xs : List Value} {b : Nat} {cs : Array Value} {r : Nat × Nat} (h : w.ownsRow lo T sz v n xs) (hb : w.heap[b]? = some (.cells cs T' r)) (hT : T ≠ T') : v.ownBlock ≠ some b := by
  intro e
  obtain ⟨cur, hc⟩ := own_type h e
  rw [hb] at hc
  injection hc with hc
  injection hc with _ hc
  exact hT hc.symm
theorem own_growK {w w' : World} {lo lo2 : Nat} {T T2 : TypeId} {sz sz2 : Nat} {v v2 : Value} {n n2 : Nat} {xs ys : List Value} (h : w.ownsRow lo T sz v n xs) (hG : w.ownsRow lo2 T2 sz2 v2 n2 ys) (hT : T ≠ T2) (hg : w.grownBy w' v2.ownBlock) : w'.ownsRow lo T sz v n xs := by
  refine ⟨h.1, ?_⟩
  rcases h.2 with h | ⟨g, cap, cu, h1, hb, hh, hr⟩
  · exact .inl h
  · refine .inr ⟨g, cap, cu, h1, hb, ?_, hr⟩
    rw [hg.block g (wblk_lt hh) (fun e => blk_otherK hG hh (Ne.symm hT) e.symm)]
    exact hh
theorem own_offK {w w' : World} {lo : Nat} {T T2 : TypeId} {sz : Nat} {v : Value} {n : Nat} {xs : List Value} (h : w.ownsRow lo T sz v n xs) {O : Nat} {cur : Array Value} (hO : w.heap[O]? = some (.cells cur T2 (0, 0))) (hT : T ≠ T2) (hg : w.grownBy w' (some O)) : w'.ownsRow lo T sz v n xs := by
  refine ⟨h.1, ?_⟩
  rcases h.2 with h | ⟨g, cap, cu, h1, hb, hh, hr⟩
  · exact .inl h
  · refine .inr ⟨g, cap, cu, h1, hb, ?_, hr⟩
    rw [hg.block g (wblk_lt hh) (fun e => ?_)]
    · exact hh
    · cases e
      rw [hh] at hO
      cases hO
      exact hT rfl
theorem four_readK {T : TypeId} {w : World} {g : Nat} {v0 v1 v2 v3 : Value} (h : w.heap[g]? = some (.cells #[v0, v1, v2, v3] T (0, 0))) : w.cell? ⟨g, 0, none⟩ = some v0 ∧ w.cell? ⟨g, 1, none⟩ = some v1 ∧ w.cell? ⟨g, 2, none⟩ = some v2 ∧ w.cell? ⟨g, 3, none⟩ = some v3 := by
  refine ⟨?_, ?_, ?_, ?_⟩ <;> (rw [cell_of_row w g _ _ T (0, 0) h]; rfl)
theorem szAK (w : World) (o : Obj) : (w.alloc o).heap.size = w.heap.size + 1 := by simp
theorem heap_newK (w : World) (cs : Array Value) (T : TypeId) {k : Nat} (h : k = w.heap.size) : (w.alloc (.cells cs T)).heap[k]? = some (.cells cs T (0, 0)) := by subst h; exact heap_alloc_new w _
theorem szD (w : World) : w.drew.heap.size = w.heap.size := rfl
theorem below_alK {W0 w : World} (h : Below W0.heap.size W0 w) (o : Obj) : Below W0.heap.size W0 (w.alloc o) := h.alloc h.size o
theorem below_drK {W0 w : World} (h : Below W0.heap.size W0 w) : Below W0.heap.size W0 w.drew := h.drew
structure CuM (W0 : World) (O gt gd gg : Nat) (wx : World) : Prop where
  bel : Below W0.heap.size W0 wx
  blk : wx.heap[O]? = some (.cells #[.slice (some ⟨gt, 0, none⟩) 0 0, .slice (some ⟨gd, 0, none⟩) 0 0, .slice none 0 0, .slice (some ⟨gg, 0, none⟩) 0 0] 57 (0, 0))
  low : W0.heap.size ≤ O
theorem cu_end {W0 wE : World} {O gt gd gg : Nat} (hB : Below W0.heap.size W0 wE) (hl : W0.heap.size ≤ O) (hO : wE.heap[O]? = some (.cells #[.slice none 0 0, .slice none 0 0, .slice none 0 0, .slice none 0 0] 57 (0, 0))) :
    CuM W0 O gt gd gg ((((wE.setCell ⟨O, 0, none⟩ (.slice (some ⟨gt, 0, none⟩) 0 0)).setCell ⟨O, 1, none⟩ (.slice (some ⟨gd, 0, none⟩) 0 0)).setCell ⟨O, 2, none⟩ (.slice none 0 0)).setCell ⟨O, 3, none⟩ (.slice (some ⟨gg, 0, none⟩) 0 0)) := by
  obtain ⟨r0, g0⟩ := row_set hO 0 (.slice (some ⟨gt, 0, none⟩) 0 0)
  obtain ⟨r1, g1⟩ := row_set r0 1 (.slice (some ⟨gd, 0, none⟩) 0 0)
  obtain ⟨r2, g2⟩ := row_set r1 2 (.slice none 0 0)
  obtain ⟨r3, g3⟩ := row_set r2 3 (.slice (some ⟨gg, 0, none⟩) 0 0)
  exact ⟨((((hB.setCell (p := ⟨O, 0, none⟩) hl _).setCell (p := ⟨O, 1, none⟩) hl _).setCell (p := ⟨O, 2, none⟩) hl _).setCell (p := ⟨O, 3, none⟩) hl _), r3, hl⟩
structure CuL (W0 : World) (O gt gd gg : Nat) (l : List Eqv) (i : Nat) (ev : Value) (qs : List (Eqv × Option Addr × Nat)) (wx : World) : Prop where
  bel : Below W0.heap.size W0 wx
  blk : wx.heap[O]? = some (.cells #[.slice (some ⟨gt, 0, none⟩) 0 0, .slice (some ⟨gd, 0, none⟩) 0 0, ev, .slice (some ⟨gg, 0, none⟩) 0 0] 57 (0, 0))
  low : W0.heap.size ≤ O
  row : wx.ownsRow W0.heap.size 31 3 ev i (rowQ qs)
  each : ∀ q ∈ qs, wx.ownsRow W0.heap.size 49 2 (.slice q.2.1 q.1.2.terms.length q.2.2) q.1.2.terms.length (rowT q.1.2.terms)
  ee : qs.map (·.1) = l.take i
structure CuS (W0 : World) (O gt gd gg : Nat) (ea2 : Option Addr) (i ec2 : Nat) (x : Eqv) (a1 : Option Addr) (tl e1 : Nat) (qs : List (Eqv × Option Addr × Nat)) (v3 : Value) (w3 : World) : Prop where
  bel : Below W0.heap.size W0 w3
  blk : w3.heap[O]? = some (.cells #[.slice (some ⟨gt, 0, none⟩) 0 0, .slice (some ⟨gd, 0, none⟩) 0 0, .slice ea2 i ec2, .slice (some ⟨gg, 0, none⟩) 0 0] 57 (0, 0))
  row : w3.ownsRow W0.heap.size 31 3 v3 (i + 1) (rowQ (qs ++ [(x, a1, e1)]))
  each : ∀ q ∈ qs ++ [(x, a1, e1)], w3.ownsRow W0.heap.size 49 2 (.slice q.2.1 q.1.2.terms.length q.2.2) q.1.2.terms.length (rowT q.1.2.terms)
theorem cu_step {W0 wr w1 w3 : World} {O gt gd gg : Nat} {l : List Eqv} {i ec2 : Nat} {ev : Value} {ea2 : Option Addr} {qs : List (Eqv × Option Addr × Nat)} {x : Eqv} {a1 : Option Addr} {tl e1 : Nat} {v3 : Value} {o : Obj} {B1 : Nat}
    (hS : CuL W0 O gt gd gg l i ev qs wr) (hblk : wr.heap[O]? = some (.cells #[.slice (some ⟨gt, 0, none⟩) 0 0, .slice (some ⟨gd, 0, none⟩) 0 0, .slice ea2 i ec2, .slice (some ⟨gg, 0, none⟩) 0 0] 57 (0, 0))) (hown : wr.ownsRow W0.heap.size 31 3 (.slice ea2 i ec2) i (rowQ qs)) (hB : Below wr.heap.size wr w1) (hO1 : w1.ownsRow B1 49 2 (.slice a1 tl e1) tl (rowT x.2.terms)) (htl : tl = x.2.terms.length) (hB1 : W0.heap.size ≤ B1)
    (ho : w3.ownsRow W0.heap.size 31 3 v3 (i + 1) (rowQ qs ++ [.string (str x.1), .slice a1 tl e1, .int .u32 x.2.const])) (hg : (w1.alloc o).grownBy w3 (Value.slice ea2 i ec2).ownBlock) : CuS W0 O gt gd gg ea2 i ec2 x a1 tl e1 qs v3 w3 := by
  have hE : Below wr.heap.size wr (w1.alloc o) := chnK hB (below_alloc w1 o)
  have hr := own_keptB hown hE
  have hbO := (hE.block O (wblk_lt hblk)).trans hblk
  have hW : Below W0.heap.size W0 (w1.alloc o) := hS.bel.trans (hE.mono (by
    have := hS.low
    have := wblk_lt hblk
    omega))
  refine ⟨hW.grown hg ?_ (fun j hj => (hr.lt _ hj).1), ?_, ?_, ?_⟩
  · have := hS.low
    have := wblk_lt hbO
    omega
  · rw [hg.block O (wblk_lt hbO) (fun e => blk_otherK hr hbO (by decide) e.symm)]
    exact hbO
  · rw [rowQ_app]
    subst htl
    exact ho
  · intro q hq
    rcases List.mem_append.1 hq with hq | hq
    · exact own_growK (own_keptB (hS.each q hq) hE) hr (by decide) hg
    · rw [List.mem_singleton] at hq
      subst hq
      show w3.ownsRow W0.heap.size 49 2 (.slice a1 x.2.terms.length e1) x.2.terms.length (rowT x.2.terms)
      rw [← htl]
      exact own_growK (own_weaken (own_keptB hO1 (below_alloc w1 o)) hB1) hr (by decide) hg
theorem cu_next {W0 wr w3 : World} {O gt gd gg : Nat} {l : List Eqv} {i ec2 : Nat} {ev : Value} {ea2 : Option Addr} {qs : List (Eqv × Option Addr × Nat)} {x : Eqv} {a1 : Option Addr} {tl e1 : Nat} {v3 : Value}
    (hS : CuL W0 O gt gd gg l i ev qs wr) (hx : l[i]? = some x) (h : CuS W0 O gt gd gg ea2 i ec2 x a1 tl e1 qs v3 w3) :
    CuL W0 O gt gd gg l (i + 1) v3 (qs ++ [(x, a1, e1)]) (w3.setCell ⟨O, 2, none⟩ v3) := by
  obtain ⟨r, hg⟩ := row_set h.blk 2 v3
  have hO := h.blk
  refine ⟨h.bel.setCell (p := ⟨O, 2, none⟩) hS.low _, r, hS.low, own_offK h.row hO (by decide) hg, fun q hq => own_offK (h.each q hq) hO (by decide) hg, ?_⟩
  rw [List.map_append, hS.ee, List.map_singleton]
  have hi := (List.getElem?_eq_some_iff.1 hx)
  rw [List.take_succ_eq_append_getElem hi.1, hi.2]
theorem cu_last {w W0 wr : World} {O R gt gd gg : Nat} {l : List Eqv} {i : Nat} {a : Option Addr} {c : Nat} {qs : List (Eqv × Option Addr × Nat)}
    (hB : Below w.heap.size w W0) (hR : W0.heap[R]? = some (.cells #[.slice none 0 0, .slice none 0 0, .slice none 0 0, .slice none 0 0] 57 (0, 0))) (hRw : w.heap.size ≤ R) (hS : CuL W0 O gt gd gg l i (.slice a i c) qs wr) (hi : l.length ≤ i) :
    Below w.heap.size w ((((wr.setCell ⟨R, 0, none⟩ (.slice (some ⟨gt, 0, none⟩) 0 0)).setCell ⟨R, 1, none⟩ (.slice (some ⟨gd, 0, none⟩) 0 0)).setCell ⟨R, 2, none⟩ (.slice a i c)).setCell ⟨R, 3, none⟩ (.slice (some ⟨gg, 0, none⟩) 0 0)) ∧ EqIn ((((wr.setCell ⟨R, 0, none⟩ (.slice (some ⟨gt, 0, none⟩) 0 0)).setCell ⟨R, 1, none⟩ (.slice (some ⟨gd, 0, none⟩) 0 0)).setCell ⟨R, 2, none⟩ (.slice a i c)).setCell ⟨R, 3, none⟩ (.slice (some ⟨gg, 0, none⟩) 0 0)) a l ∧ ((((wr.setCell ⟨R, 0, none⟩ (.slice (some ⟨gt, 0, none⟩) 0 0)).setCell ⟨R, 1, none⟩ (.slice (some ⟨gd, 0, none⟩) 0 0)).setCell ⟨R, 2, none⟩ (.slice a i c)).setCell ⟨R, 3, none⟩ (.slice (some ⟨gg, 0, none⟩) 0 0)).heap[R]? = some (.cells #[.slice (some ⟨gt, 0, none⟩) 0 0, .slice (some ⟨gd, 0, none⟩) 0 0, .slice a i c, .slice (some ⟨gg, 0, none⟩) 0 0] 57 (0, 0)) := by
  have hRl : R < W0.heap.size := wblk_lt hR
  have hRr := (hS.bel.block R hRl).trans hR
  obtain ⟨r0, g0⟩ := row_set hRr 0 (.slice (some ⟨gt, 0, none⟩) 0 0)
  obtain ⟨r1, g1⟩ := row_set r0 1 (.slice (some ⟨gd, 0, none⟩) 0 0)
  obtain ⟨r2, g2⟩ := row_set r1 2 (.slice a i c)
  obtain ⟨r3, g3⟩ := row_set r2 3 (.slice (some ⟨gg, 0, none⟩) 0 0)
  have hg := grown_trans (grown_trans (grown_trans g0 g1) g2) g3
  have hbw : Below w.heap.size w wr := chnK hB hS.bel
  have hql : qs.length = i := by
    have := hS.row.1
    rw [rowQ_len] at this
    omega
  refine ⟨((((hbw.setCell (p := ⟨R, 0, none⟩) hRw _).setCell (p := ⟨R, 1, none⟩) hRw _).setCell (p := ⟨R, 2, none⟩) hRw _).setCell (p := ⟨R, 3, none⟩) hRw _), ?_, r3⟩
  have h2 := own_eqIn (own_low hS.row hg hRl) hql.symm (fun q hq => own_tmLies (own_low (hS.each q hq) hg hRl))
  rw [hS.ee, List.take_of_length_le hi] at h2
  exact h2
set_option maxHeartbeats 16000000 in
theorem copyUnit_any (ea : Option Addr) (ec : Nat) (l : List Eqv) (hll : l.length ≤ 60) (hf : ∀ x ∈ l, x.2.terms.length ≤ 9000000) (w : World) (hS : EqSr w ea l) :
    Calls Try.prog 24 #[.agg #[.slice none 0 0, .slice none 0 0, .slice ea l.length ec, .slice none 0 0]] w fun e w' => Below w.heap.size w w' ∧ ∃ gt gd gg a c, e = .returned (.agg #[.slice (some ⟨gt, 0, none⟩) 0 0, .slice (some ⟨gd, 0, none⟩) 0 0, .slice a l.length c, .slice (some ⟨gg, 0, none⟩) 0 0]) ∧ EqIn w' a l := by
  obtain ⟨n3, hn3'⟩ : ∃ n3, n3 = l.length := ⟨_, rfl⟩
  rw [← hn3']
  have hl3 : n3 ≤ 60 := by rw [hn3']; exact hll
  have hB0 : Below w.heap.size w ((w.alloc (.cells #[.slice none 0 0, .slice none 0 0, .slice ea n3 ec, .slice none 0 0] 57)).alloc (.cells #[.slice none 0 0, .slice none 0 0, .slice none 0 0, .slice none 0 0] 57)) := (below_alloc w _).alloc (by simp) _
  have hS0 : EqSr ((w.alloc (.cells #[.slice none 0 0, .slice none 0 0, .slice ea n3 ec, .slice none 0 0] 57)).alloc (.cells #[.slice none 0 0, .slice none 0 0, .slice none 0 0, .slice none 0 0] 57)) ea l := by
    rcases hS with h | ⟨g, o, ha, hg, h⟩
    · exact .inl h
    · refine .inr ⟨g, o, ha, Nat.lt_of_lt_of_le hg hB0.size, fun i x hi => ?_⟩
      obtain ⟨va, vc, h1, h2, h3, h4⟩ := h i x hi
      exact ⟨va, vc, (hB0.cell (p := ⟨g, _, none⟩) hg).trans h1, (hB0.cell (p := ⟨g, _, none⟩) hg).trans h2, (hB0.cell (p := ⟨g, _, none⟩) hg).trans h3, h4.belowK hB0⟩
  have hrows := two_rowsK w #[.slice none 0 0, .slice none 0 0, .slice ea n3 ec, .slice none 0 0] #[.slice none 0 0, .slice none 0 0, .slice none 0 0, .slice none 0 0] 57 57
  have hs0 : ((w.alloc (.cells #[.slice none 0 0, .slice none 0 0, .slice ea n3 ec, .slice none 0 0] 57)).alloc (.cells #[.slice none 0 0, .slice none 0 0, .slice none 0 0, .slice none 0 0] 57)).heap.size = w.heap.size + 2 := by simp
  generalize hW0 : ((w.alloc (.cells #[.slice none 0 0, .slice none 0 0, .slice ea n3 ec, .slice none 0 0] 57)).alloc (.cells #[.slice none 0 0, .slice none 0 0, .slice none 0 0, .slice none 0 0] 57)) = W0 at *
  have hx := hrows.1
  have q1 := Hid.intro copyItems_nil
  have hK : Hid (∀ W, Below W0.heap.size W0 W → W.cell? ⟨w.heap.size, 0, none⟩ = some (.slice none 0 0) ∧ W.cell? ⟨w.heap.size, 1, none⟩ = some (.slice none 0 0) ∧ W.cell? ⟨w.heap.size, 2, none⟩ = some (.slice ea n3 ec) ∧ W.cell? ⟨w.heap.size, 3, none⟩ = some (.slice none 0 0)) := fun W hb => four_readK ((hb.block _ (wblk_lt hx)).trans hx)
  have hE0 := Hid.intro hS0
  have hEh := Hid.intro hf
  have hn3 := Hid.intro hn3'
  have hB0H := Hid.intro hB0
  have hRH := Hid.intro hrows.2
  have hlt : w.heap.size < W0.heap.size := by omega
  obtain ⟨c0, c1, c2, c3⟩ := hK.out W0 (Below.refl _ _)
  clear hS hS0 hB0 hx hf hll c2 hrows hn3'
  go_enter Try.func24, Try.ntmps24
  go_wp2
  all_goals first | omega | skip
  clear hW0 hs0
  go_cut [3] (fun v3 wx => ∃ (O gt gd gg : Nat), v3 = .pointer (some ⟨O, 0, none⟩) ∧ CuM W0 O gt gd gg wx)
  case first =>
    go_region_held3 (fun W => W.cell? ⟨w.heap.size, 0, none⟩ = some (.slice none 0 0) ∧ W.cell? ⟨w.heap.size, 1, none⟩ = some (.slice none 0 0) ∧ W.cell? ⟨w.heap.size, 3, none⟩ = some (.slice none 0 0)) (go_keep)
      ((first
        | (go_at_call 38; (with_reducible refine (q1.out _).mono ?_); rintro e w1 ⟨rfl, hw1⟩; have hB1 : Hid (Below W0.heap.size W0 w1) := Hid.intro (by rw [hw1]; (first | exact Below.refl _ _ | exact below_alK (Below.refl _ _) _ | exact below_alK (below_alK (Below.refl _ _) _) _ | exact below_alK (below_alK (below_alK (Below.refl _ _) _) _) _ | exact below_drK (Below.refl _ _) | exact below_alK (below_drK (Below.refl _ _)) _ | exact below_alK (below_alK (below_drK (Below.refl _ _)) _) _ | exact below_alK (below_alK (below_alK (below_drK (Below.refl _ _)) _) _) _)); obtain ⟨d0, d1, d2, d3⟩ := hK.out w1 hB1.out; clear d2; replace hw1 := Hid.intro hw1)
        | (go_at_call 38; (with_reducible refine (q1.out _).mono ?_); rintro e w2 ⟨rfl, hw2⟩; have hB2 : Hid (Below W0.heap.size W0 w2) := Hid.intro (by rw [hw2]; (first | exact hB1.out | exact below_alK (hB1.out) _ | exact below_alK (below_alK (hB1.out) _) _ | exact below_alK (below_alK (below_alK (hB1.out) _) _) _ | exact below_drK (hB1.out) | exact below_alK (below_drK (hB1.out)) _ | exact below_alK (below_alK (below_drK (hB1.out)) _) _ | exact below_alK (below_alK (below_alK (below_drK (hB1.out)) _) _) _)); obtain ⟨e0, e1, e2, e3⟩ := hK.out w2 hB2.out; clear e2; (first | (have o9 : w2.heap[w1.heap.size]? = some (.cells #[.slice none 0 0, .slice none 0 0, .slice none 0 0, .slice none 0 0] 57 (0, 0)) := (by rw [hw2]; (repeat (refine (Below.heap_alloc _ _ _ (by simp only [szAK, szD]; omega)).trans ?_)); exact heap_newK _ _ _ (by first | rfl | exact (szAK _ _).symm)); obtain ⟨k0, k1, k2, k3⟩ := four_readK o9; have fz := fun j => frozen_of_row w2 (w1.heap.size) j _ 57 o9; have o8 := fun ob : Obj => (Below.heap_alloc w2 ob _ (wblk_lt o9)).trans o9; have l0 := fun ob => (four_readK (o8 ob)).1; have l1 := fun ob => (four_readK (o8 ob)).2.1; have l2 := fun ob => (four_readK (o8 ob)).2.2.1; have l3 := fun ob => (four_readK (o8 ob)).2.2.2; have lz := fun ob j => frozen_of_row _ (w1.heap.size) j _ 57 (o8 ob); have n9 : ¬ w.heap.size = w1.heap.size ∧ ¬ w1.heap.size = w.heap.size := (by have h7 := hB1.out.size; omega); obtain ⟨n8, n9⟩ := n9; replace o9 := Hid.intro o9; clear o8) | (have o9 : w2.heap[(w1.heap.size + 1)]? = some (.cells #[.slice none 0 0, .slice none 0 0, .slice none 0 0, .slice none 0 0] 57 (0, 0)) := (by rw [hw2]; (repeat (refine (Below.heap_alloc _ _ _ (by simp only [szAK, szD]; omega)).trans ?_)); exact heap_newK _ _ _ (by first | rfl | exact (szAK _ _).symm)); obtain ⟨k0, k1, k2, k3⟩ := four_readK o9; have fz := fun j => frozen_of_row w2 ((w1.heap.size + 1)) j _ 57 o9; have o8 := fun ob : Obj => (Below.heap_alloc w2 ob _ (wblk_lt o9)).trans o9; have l0 := fun ob => (four_readK (o8 ob)).1; have l1 := fun ob => (four_readK (o8 ob)).2.1; have l2 := fun ob => (four_readK (o8 ob)).2.2.1; have l3 := fun ob => (four_readK (o8 ob)).2.2.2; have lz := fun ob j => frozen_of_row _ ((w1.heap.size + 1)) j _ 57 (o8 ob); have n9 : ¬ w.heap.size = (w1.heap.size + 1) ∧ ¬ (w1.heap.size + 1) = w.heap.size := (by have h7 := hB1.out.size; omega); obtain ⟨n8, n9⟩ := n9; replace o9 := Hid.intro o9; clear o8) | (have o9 : w2.heap[W0.heap.size]? = some (.cells #[.slice none 0 0, .slice none 0 0, .slice none 0 0, .slice none 0 0] 57 (0, 0)) := (by rw [hw2, hw1.out]; (repeat (refine (Below.heap_alloc _ _ _ (by simp only [szAK, szD]; omega)).trans ?_)); exact heap_newK _ _ _ (by first | rfl | exact (szAK _ _).symm)); obtain ⟨k0, k1, k2, k3⟩ := four_readK o9; have fz := fun j => frozen_of_row w2 (W0.heap.size) j _ 57 o9; have o8 := fun ob : Obj => (Below.heap_alloc w2 ob _ (wblk_lt o9)).trans o9; have l0 := fun ob => (four_readK (o8 ob)).1; have l1 := fun ob => (four_readK (o8 ob)).2.1; have l2 := fun ob => (four_readK (o8 ob)).2.2.1; have l3 := fun ob => (four_readK (o8 ob)).2.2.2; have lz := fun ob j => frozen_of_row _ (W0.heap.size) j _ 57 (o8 ob); have n9 : ¬ w.heap.size = W0.heap.size ∧ ¬ W0.heap.size = w.heap.size := (by have h7 := hB1.out.size; omega); obtain ⟨n8, n9⟩ := n9; replace o9 := Hid.intro o9; clear o8) | (have o9 : w2.heap[(W0.heap.size + 1)]? = some (.cells #[.slice none 0 0, .slice none 0 0, .slice none 0 0, .slice none 0 0] 57 (0, 0)) := (by rw [hw2, hw1.out]; (repeat (refine (Below.heap_alloc _ _ _ (by simp only [szAK, szD]; omega)).trans ?_)); exact heap_newK _ _ _ (by first | rfl | exact (szAK _ _).symm)); obtain ⟨k0, k1, k2, k3⟩ := four_readK o9; have fz := fun j => frozen_of_row w2 ((W0.heap.size + 1)) j _ 57 o9; have o8 := fun ob : Obj => (Below.heap_alloc w2 ob _ (wblk_lt o9)).trans o9; have l0 := fun ob => (four_readK (o8 ob)).1; have l1 := fun ob => (four_readK (o8 ob)).2.1; have l2 := fun ob => (four_readK (o8 ob)).2.2.1; have l3 := fun ob => (four_readK (o8 ob)).2.2.2; have lz := fun ob j => frozen_of_row _ ((W0.heap.size + 1)) j _ 57 (o8 ob); have n9 : ¬ w.heap.size = (W0.heap.size + 1) ∧ ¬ (W0.heap.size + 1) = w.heap.size := (by have h7 := hB1.out.size; omega); obtain ⟨n8, n9⟩ := n9; replace o9 := Hid.intro o9; clear o8) | skip); replace hw2 := Hid.intro hw2)
        | (refine step_app0K _ rfl (.tmp 11) (.tmp 13) rfl _ (by rfl) (by rfl) ?_)))
    all_goals (go_wp2_with fail; go_meet)
    all_goals first
      | exact ⟨_, _, _, _, rfl, ⟨(by first | exact hB2.out | exact below_alK hB2.out _ | exact below_alK (below_alK hB2.out _) _), (by first | exact heap_newK _ _ _ (by first | rfl | exact (szAK _ _).symm) | exact (Below.heap_alloc _ _ _ (by simp only [szAK, szD]; omega)).trans (heap_newK _ _ _ (by first | rfl | exact (szAK _ _).symm))), (by have h7 := hB1.out.size; have h6 := hB2.out.size; omega)⟩⟩
      | exact ⟨_, _, _, _, rfl, cu_end (by first | exact hB2.out | exact below_alK hB2.out _ | exact below_alK (below_alK hB2.out _) _) (by have h7 := hB1.out.size; have h6 := hB2.out.size; omega) (by first | exact o9.out | exact (Below.heap_alloc _ _ _ (wblk_lt o9.out)).trans o9.out)⟩
  case rest =>
    obtain ⟨O, gt, gd, gg, hv3, hM⟩ := hcut
    subst hv3
    replace hM := Hid.intro hM
    go_wp2
    all_goals first | omega | skip
    go_loopw [4] (fun v4 wr => ∃ (i : Nat) (ev : Value) (qs : List (Eqv × Option Addr × Nat)), i ≤ n3 ∧ v4 = .int .i64 (i : Int) ∧ Hid (CuL W0 O gt gd gg l i ev qs wr)) (fun v4 wr => n3 - (intOf v4).toNat)
    case atStart => exact ⟨0, _, [], by omega, rfl, Hid.intro ⟨hM.out.bel, hM.out.blk, hM.out.low, World.ownsRow_nil _ _ _ _, (fun q h => by cases h), rfl⟩⟩
    case round =>
      obtain ⟨i, ev, qs, hi, rfl, hS⟩ := hrel
      obtain ⟨c0, c1, c2, c3⟩ := hK.out wr hS.out.bel
      obtain ⟨k0, k1, k2, k3⟩ := four_readK hS.out.blk
      clear c0 c1 c3
      by_cases hlt2 : i < n3
      · have hlt3 : (i : Int) < (n3 : Int) := by omega
        have z0 : (0 : Int) ≤ (i : Int) := by omega
        obtain ⟨x, hx⟩ : ∃ x, l[i]? = some x := ⟨l[i]'(by rw [← hn3.out]; exact hlt2), List.getElem?_eq_getElem _⟩
        have hxm := List.mem_of_getElem? hx
        obtain ⟨g, o, ha, hgl2, hq⟩ : ∃ g o, ea = some ⟨g, o, none⟩ ∧ g < W0.heap.size ∧ ∃ va vc, W0.cell? ⟨g, o + i * 3, none⟩ = some (.string (str x.1)) ∧ W0.cell? ⟨g, o + i * 3 + 1, none⟩ = some (.slice va x.2.terms.length vc) ∧ W0.cell? ⟨g, o + i * 3 + 2, none⟩ = some (.int .u32 x.2.const) ∧ Src W0 (.slice va x.2.terms.length vc) x.2.terms.length (rowT x.2.terms) := by
          rcases hE0.out with h | ⟨g, o, h1, h2, h3⟩
          · rw [h] at hx; cases hx
          · exact ⟨g, o, h1, h2, h3 i x hx⟩
        obtain ⟨va, vc, s0, s1, s2, hsrc⟩ := hq
        subst ha
        obtain ⟨ea2, ec2, hev⟩ := own_slice hS.out.row
        subst hev
        have hL := Hid.intro (fun W (hb : Below W0.heap.size W0 W) => copyLin_any va x.2.terms.length vc x.2 rfl (hEh.out x hxm) W (hsrc.belowK hb))
        have hcells : Hid (∀ W, Below W0.heap.size W0 W → W.cell? ⟨g, o + i * 3, none⟩ = some (.string (str x.1)) ∧ W.cell? ⟨g, o + i * 3 + 1, none⟩ = some (.slice va x.2.terms.length vc) ∧ W.cell? ⟨g, o + i * 3 + 2, none⟩ = some (.int .u32 x.2.const) ∧ W.cell? ⟨w.heap.size, 2, none⟩ = some (.slice (some ⟨g, o, none⟩) n3 ec)) := fun W hb => ⟨(hb.cell (p := ⟨g, _, none⟩) hgl2).trans s0, (hb.cell (p := ⟨g, _, none⟩) hgl2).trans s1, (hb.cell (p := ⟨g, _, none⟩) hgl2).trans s2, (hK.out W hb).2.2.1⟩
        obtain ⟨y0, y1, y2, y3⟩ := hcells.out wr hS.out.bel
        have hblk := Hid.intro hS.out.blk
        have hown0 := Hid.intro hS.out.row
        clear s0 s1 s2
        obtain ⟨tl, htl⟩ : ∃ tl, tl = x.2.terms.length := ⟨_, rfl⟩
        rw [← htl] at hL hcells y1
        replace htl := Hid.intro htl
        clear hsrc k0 k1 k3 hM
        obtain ⟨i1, hi1, hy0, hy1, hy2⟩ := info_parts info31
        have nO1 : ¬ g = O ∧ ¬ O = g ∧ ¬ w.heap.size = O ∧ ¬ O = w.heap.size := by have := hS.out.low; omega
        obtain ⟨nO1, nO2, nO3, nO4⟩ := nO1
        go_wp2
        all_goals first | omega | skip
        refine wp_region_last (by kernel_rfl) 19 _ rfl rfl rfl (by kernel_rfl) (fun W => W.cell? ⟨g, o + i * 3, none⟩ = some (.string (str x.1)) ∧ W.cell? ⟨g, o + i * 3 + 1, none⟩ = some (.slice va tl vc) ∧ W.cell? ⟨g, o + i * 3 + 2, none⟩ = some (.int .u32 x.2.const) ∧ W.cell? ⟨w.heap.size, 2, none⟩ = some (.slice (some ⟨g, o, none⟩) n3 ec) ∧ W.cell? ⟨O, 2, none⟩ = some (.slice ea2 i ec2)) ⟨y0, y1, y2, y3, k2⟩ (fun hHeld => ?_)
        simp only [List.setIfInBounds_toArray, List.set_cons_succ, List.set_cons_zero, noOp]
        refine wpAnyH_take (i := 0) (v := ?v0) (by simp only [List.getElem?_toArray, List.getElem?_cons_succ, List.getElem?_cons_zero]; rfl) (by kernel_rfl) (by kernel_rfl) (by kernel_rfl) (by exact fun _ _ _ h => h) (Or.inl ⟨by rfl, ?y0⟩) (by assumption) ?r0
        case y0 => (intro w hSw; (try dsimp only at hSw); go_simp; (try with_reducible rfl))
        try simp only [Act.put, List.setIfInBounds_toArray, List.set_cons_zero, List.set_cons_succ]
        refine wpAnyH_take (i := 1) (v := ?v1) (by simp only [List.getElem?_toArray, List.getElem?_cons_succ, List.getElem?_cons_zero]; rfl) (by kernel_rfl) (by kernel_rfl) (by kernel_rfl) (by exact fun _ _ _ h => h) (Or.inl ⟨by rfl, ?y1⟩) (by assumption) ?r1
        case y1 => (intro w hSw; (try dsimp only at hSw); go_simp; (try with_reducible rfl))
        try simp only [Act.put, List.setIfInBounds_toArray, List.set_cons_zero, List.set_cons_succ]
        refine wpAnyH_take (i := 2) (v := ?v2) (by simp only [List.getElem?_toArray, List.getElem?_cons_succ, List.getElem?_cons_zero]; rfl) (by kernel_rfl) (by kernel_rfl) (by kernel_rfl) (by exact fun _ _ _ h => h) (Or.inl ⟨by rfl, ?y2⟩) (by assumption) ?r2
        case y2 => (intro w hSw; (try dsimp only at hSw); go_simp; (try with_reducible rfl))
        try simp only [Act.put, List.setIfInBounds_toArray, List.set_cons_zero, List.set_cons_succ]
        refine wpAnyH_take (i := 3) (v := ?v3) (by simp only [List.getElem?_toArray, List.getElem?_cons_succ, List.getElem?_cons_zero]; rfl) (by kernel_rfl) (by kernel_rfl) (by kernel_rfl) (by exact fun _ _ _ h => h) (Or.inl ⟨by rfl, ?y3⟩) (by assumption) ?r3
        case y3 => (intro w hSw; (try dsimp only at hSw); go_simp; (try with_reducible rfl))
        try simp only [Act.put, List.setIfInBounds_toArray, List.set_cons_zero, List.set_cons_succ]
        refine wpAnyH_take (i := 4) (v := ?v4) (by simp only [List.getElem?_toArray, List.getElem?_cons_succ, List.getElem?_cons_zero]; rfl) (by kernel_rfl) (by kernel_rfl) (by kernel_rfl) (by exact fun _ _ _ h => h) (Or.inl ⟨by rfl, ?y4⟩) (by assumption) ?r4
        case y4 => (intro w hSw; (try dsimp only at hSw); go_simp; (try with_reducible rfl))
        try simp only [Act.put, List.setIfInBounds_toArray, List.set_cons_zero, List.set_cons_succ]
        refine wpAnyH_take (i := 5) (v := ?v5) (by simp only [List.getElem?_toArray, List.getElem?_cons_succ, List.getElem?_cons_zero]; rfl) (by kernel_rfl) (by kernel_rfl) (by kernel_rfl) (by exact fun _ _ _ h => h) (Or.inl ⟨by rfl, ?y5⟩) (by assumption) ?r5
        case y5 => (intro w hSw; (try dsimp only at hSw); go_simp; (try with_reducible rfl))
        try simp only [Act.put, List.setIfInBounds_toArray, List.set_cons_zero, List.set_cons_succ]
        refine wpAnyH_take (i := 6) (v := ?v6) (by simp only [List.getElem?_toArray, List.getElem?_cons_succ, List.getElem?_cons_zero]; rfl) (by kernel_rfl) (by kernel_rfl) (by kernel_rfl) (by exact fun _ _ _ h => h) (Or.inl ⟨by rfl, ?y6⟩) (by assumption) ?r6
        case y6 => (intro w hSw; (try dsimp only at hSw); go_simp; (try with_reducible rfl))
        try simp only [Act.put, List.setIfInBounds_toArray, List.set_cons_zero, List.set_cons_succ]
        refine wpAnyH_take (i := 7) (v := ?v7) (by simp only [List.getElem?_toArray, List.getElem?_cons_succ, List.getElem?_cons_zero]; rfl) (by kernel_rfl) (by kernel_rfl) (by kernel_rfl) (by exact fun _ _ _ h => h) (Or.inl ⟨by rfl, ?y7⟩) (by assumption) ?r7
        case y7 => (intro w hSw; (try dsimp only at hSw); go_simp; (try with_reducible rfl))
        try simp only [Act.put, List.setIfInBounds_toArray, List.set_cons_zero, List.set_cons_succ]
        refine wpAnyH_take (i := 8) (v := ?v8) (by simp only [List.getElem?_toArray, List.getElem?_cons_succ, List.getElem?_cons_zero]; rfl) (by kernel_rfl) (by kernel_rfl) (by kernel_rfl) (by exact fun _ _ _ h => h) (Or.inl ⟨by rfl, ?y8⟩) (by assumption) ?r8
        case y8 => (intro w hSw; (try dsimp only at hSw); go_simp; (try with_reducible rfl))
        try simp only [Act.put, List.setIfInBounds_toArray, List.set_cons_zero, List.set_cons_succ]
        refine wpAnyH_take (i := 9) (v := ?v9) (by simp only [List.getElem?_toArray, List.getElem?_cons_succ, List.getElem?_cons_zero]; rfl) (by kernel_rfl) (by kernel_rfl) (by kernel_rfl) (by exact fun _ _ _ h => h) (Or.inl ⟨by rfl, ?y9⟩) (by assumption) ?r9
        case y9 => (intro w hSw; (try dsimp only at hSw); go_simp; (try with_reducible rfl))
        try simp only [Act.put, List.setIfInBounds_toArray, List.set_cons_zero, List.set_cons_succ]
        refine wpAnyH_take (i := 10) (v := ?v10) (by simp only [List.getElem?_toArray, List.getElem?_cons_succ, List.getElem?_cons_zero]; rfl) (by kernel_rfl) (by kernel_rfl) (by kernel_rfl) (by exact fun _ _ _ h => h) (Or.inl ⟨by rfl, ?y10⟩) (by assumption) ?r10
        case y10 => (intro w hSw; (try dsimp only at hSw); go_simp; (try with_reducible rfl))
        try simp only [Act.put, List.setIfInBounds_toArray, List.set_cons_zero, List.set_cons_succ]
        refine wpAnyH_take (i := 11) (v := ?v11) (by simp only [List.getElem?_toArray, List.getElem?_cons_succ, List.getElem?_cons_zero]; rfl) (by kernel_rfl) (by kernel_rfl) (by kernel_rfl) (by exact fun _ _ _ h => h) (Or.inl ⟨by rfl, ?y11⟩) (by assumption) ?r11
        case y11 => (intro w hSw; (try dsimp only at hSw); go_simp; (try with_reducible rfl))
        try simp only [Act.put, List.setIfInBounds_toArray, List.set_cons_zero, List.set_cons_succ]
        refine wpAnyH_take (i := 12) (v := ?v12) (by simp only [List.getElem?_toArray, List.getElem?_cons_succ, List.getElem?_cons_zero]; rfl) (by kernel_rfl) (by kernel_rfl) (by kernel_rfl) (by exact fun _ _ _ h => h) (Or.inl ⟨by rfl, ?y12⟩) (by assumption) ?r12
        case y12 => (intro w hSw; (try dsimp only at hSw); go_simp; (try with_reducible rfl))
        try simp only [Act.put, List.setIfInBounds_toArray, List.set_cons_zero, List.set_cons_succ]
        refine wpAnyH_take (i := 13) (v := ?v13) (by simp only [List.getElem?_toArray, List.getElem?_cons_succ, List.getElem?_cons_zero]; rfl) (by kernel_rfl) (by kernel_rfl) (by kernel_rfl) (by exact fun _ _ _ h => h) (Or.inl ⟨by rfl, ?y13⟩) (by assumption) ?r13
        case y13 => (intro w hSw; (try dsimp only at hSw); go_simp; (try with_reducible rfl))
        try simp only [Act.put, List.setIfInBounds_toArray, List.set_cons_zero, List.set_cons_succ]
        refine wpAnyH_ready (rs := [14]) (by kernel_rfl) (by simp) ?_
        refine AllReadyH.cons (o := ?or14) ?hor14 (fun K hK => ?stepr14) AllReadyH.nil
        case hor14 => (simp only [List.getElem?_toArray, List.getElem?_cons_succ, List.getElem?_cons_zero]; rfl)
        refine step_fn1K Try.prog _ ?g 39 (.tmp 36) #[29] ?h (.agg #[.slice va tl vc, .int .u32 x.2.const]) ?i Try.f39 Try.func39 f39_name f39_body ((hL.out _ hS.out.bel.drew).mono ?k)
        case g => rfl
        case h => rfl
        case i => rfl
        rintro e w1 ⟨a1, e1, rfl, hO1, hb1⟩
        refine ⟨_, rfl, ?_⟩
        have hB1 : Hid (Below wr.heap.size wr w1) := chnK (Below.refl _ _).drew hb1
        have hA1 : Hid (Below W0.heap.size W0 w1) := chnK hS.out.bel hB1.out
        obtain ⟨p0, p1, p2, p4⟩ := hcells.out w1 hA1.out
        have p3 : w1.cell? ⟨O, 2, none⟩ = some (.slice ea2 i ec2) := (four_readK ((hB1.out.block O (wblk_lt hblk.out)).trans hblk.out)).2.2.1
        have p3a : ∀ ob : Obj, (w1.alloc ob).cell? ⟨O, 2, none⟩ = some (.slice ea2 i ec2) := (fun ob => (four_readK (((chnK hB1.out (below_alloc w1 ob)).block O (wblk_lt hblk.out)).trans hblk.out)).2.2.1)
        replace hO1 := Hid.intro hO1
        clear hb1
        refine hK.out _ _ ⟨p0, p1, p2, p4, p3⟩ (fun hHeld => ?_)
        clear hK K
        try simp only [Act.put, List.setIfInBounds_toArray, List.set_cons_zero, List.set_cons_succ]
        refine wpAnyH_take (i := 15) (v := ?v15) (by simp only [List.getElem?_toArray, List.getElem?_cons_succ, List.getElem?_cons_zero]; rfl) (by kernel_rfl) (by kernel_rfl) (by kernel_rfl) (by exact fun _ _ _ h => h) (Or.inl ⟨by rfl, ?y15⟩) (by assumption) ?r15
        case y15 => (intro w hSw; (try dsimp only at hSw); go_simp; (try with_reducible rfl))
        try simp only [Act.put, List.setIfInBounds_toArray, List.set_cons_zero, List.set_cons_succ]
        refine wpAnyH_ready (rs := [16]) (by kernel_rfl) (by simp) ?_
        refine AllReadyH.cons (o := ?or16) ?hor16 (fun K hK => ?stepr16) AllReadyH.nil
        case hor16 => (simp only [List.getElem?_toArray, List.getElem?_cons_succ, List.getElem?_cons_zero]; rfl)
        go_simp
        refine hK.out _ _ (by have hh := hcells.out _ (chnK hA1.out (below_alloc w1 (.cells #[.string (str x.1), .slice a1 tl e1, .int .u32 x.2.const] 31))); exact ⟨hh.1, hh.2.1, hh.2.2.1, hh.2.2.2, p3a _⟩) (fun hHeld => ?_)
        clear hK K
        try simp only [Act.put, List.setIfInBounds_toArray, List.set_cons_zero, List.set_cons_succ]
        refine wpAnyH_ready (rs := [17]) (by kernel_rfl) (by simp) ?_
        refine AllReadyH.cons (o := ?or17) ?hor17 (fun K hK => ?stepr17) AllReadyH.nil
        case hor17 => (simp only [List.getElem?_toArray, List.getElem?_cons_succ, List.getElem?_cons_zero]; rfl)
        refine step_app _ rfl (.tmp 24) (.tmp 39) 22 rfl W0.heap.size 31 i1 _ 3 48 Try.underlying22 hi1 hy0 hy1 hy2 rfl (by decide) (.slice ea2 i ec2) i (rowQ qs) rfl (own_keptB hown0.out (chnK hB1.out (below_alloc w1 (.cells #[.string (str x.1), .slice a1 tl e1, .int .u32 x.2.const] 31)))) (.slice (some ⟨w1.heap.size, 0, none⟩) 1 1) 1 ([.string (str x.1), .slice a1 tl e1, .int .u32 x.2.const]) rfl (.inr ⟨_, _, rfl, cells_new w1 _ _⟩) rfl (by simp [Value.oneCell']) (by unfold maxLen; omega) (by omega) (by have h1 := hA1.out.size; rw [szAK]; omega) ?_
        intro v3 w3 ho hg hw
        have hnx : Hid (CuS W0 O gt gd gg ea2 i ec2 x a1 tl e1 qs v3 w3) := cu_step hS.out hblk.out hown0.out hB1.out hO1.out htl.out (by have h1 := hS.out.bel.size; first | exact h1 | (rw [szD]; exact h1)) ho hg
        obtain ⟨ea3, ec3, hev3⟩ := own_slice hnx.out.row
        subst hev3
        obtain ⟨t0, t1, t2, t4⟩ := hcells.out w3 hnx.out.bel
        obtain ⟨_, _, t3, _⟩ := four_readK hnx.out.blk
        have tf := frozen_of_row w3 O 2 _ 57 hnx.out.blk
        clear ho hg hw
        refine hK.out _ _ ⟨t0, t1, t2, t4, t3⟩ (fun hHeld => ?_)
        clear hK K
        try simp only [Act.put, List.setIfInBounds_toArray, List.set_cons_zero, List.set_cons_succ]
        refine wpAnyH_take (i := 18) (v := ?v18) (by simp only [List.getElem?_toArray, List.getElem?_cons_succ, List.getElem?_cons_zero]; rfl) (by kernel_rfl) (by kernel_rfl) (by kernel_rfl) (by exact fun _ _ _ h => h) (Or.inl ⟨by rfl, ?y18⟩) (by assumption) ?r18
        case y18 => (intro w hSw; (try dsimp only at hSw); go_simp; (try with_reducible rfl))
        try simp only [Act.put, List.setIfInBounds_toArray, List.set_cons_zero, List.set_cons_succ]
        refine wpAnyH_take (i := 19) (v := ?v19) (by simp only [List.getElem?_toArray, List.getElem?_cons_succ, List.getElem?_cons_zero]; rfl) (by kernel_rfl) (by kernel_rfl) (by kernel_rfl) (by exact fun _ _ _ h => h) (Or.inl ⟨by rfl, ?y19⟩) (by assumption) ?r19
        case y19 => (intro w hSw; (try dsimp only at hSw); go_simp; (try with_reducible rfl))
        try simp only [Act.put, List.setIfInBounds_toArray, List.set_cons_zero, List.set_cons_succ]
        refine wpAnyH_done (by kernel_rfl) ?_ _
        show Oper.wp _ _ _ _ _ _
        go_simp
        all_goals (go_wp2_with fail; go_roundw)
        all_goals first
          | exact ⟨i + 1, _, _, by omega, by go_num, cu_next hS.out hx hnx.out⟩
          | (simp [intOf]; omega)
      · obtain ⟨ez, ecz, hevz⟩ := own_slice hS.out.row
        subst hevz
        have hin : i = n3 := by omega
        subst hin
        have hend := Hid.intro (cu_last (R := w.heap.size + 1) hB0H.out hRH.out (by omega) hS.out (by rw [← hn3.out]; exact Nat.le_refl _))
        obtain ⟨q0, q1', q2, q3⟩ := four_readK ((hS.out.bel.block _ (wblk_lt hRH.out)).trans hRH.out)
        have fq := fun j => frozen_of_row wr (w.heap.size + 1) j _ 57 ((hS.out.bel.block _ (wblk_lt hRH.out)).trans hRH.out)
        have hne1 : ¬ (i : Int) < (i : Int) := by omega
        clear hM
        go_wp2
        all_goals first | omega | skip
        obtain ⟨z0, z1, z2, z3⟩ := four_readK hend.out.2.2
        refine bodyPost_ret (by simp [results, Try.results24, go_sem, z0, z1, z2, z3]; try rfl) rfl ?_
        refine ⟨hend.out.1, ?_⟩
        exact ⟨_, _, _, _, ⟨_, rfl⟩, hend.out.2.1⟩
end Go.Proofs.Ytebbbefknfldoaa

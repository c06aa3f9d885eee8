/- item's Read of an operation's line. -/
import Derived.Test.YtogkchgjpflmjaaGreatDoorOwn
namespace Go.Proofs.YtogkchgjpflmjaaGreatDoor
open Go.ChangeShapes Go.WideShapes Go.ChangeAt Go.RowKit
set_option linter.unusedVariables false
set_option maxRecDepth 100000
def ItemsLie (w : World) (vi : Value) (l : List Itm) : Prop := (l = [] ∧ vi = .slice none 0 0) ∨ ∃ q c, vi = .slice (some ⟨q, 0, none⟩) l.length c ∧ q < w.heap.size ∧ ∀ (i : Nat) (x : Itm), l[i]? = some x → ∃ va n vc, ItAt w q (i * 10) x va n vc ∧ n = x.e.terms.length ∧ TmLies w va x.e.terms
def opThg (s : List UInt8) (args : List (List Tok)) (sec : Int) : Except Int Thg :=
  if args.length ≠ (wantsF (shapeN (findN s))).length then .error 20
  else match opF (wantsF (shapeN (findN s))) args 0 (opItm (findN s)) with
    | .error k => .error k
    | .ok x => if standsB x.kind sec = true then .ok ⟨1, [x], [], linE, 0⟩ else .error 21
theorem nil_op (a : Addr) (w : World) : (binOp .eql 192 (.iface 242 (.pointer (some a))) .nilIface).run Tryz.prog w = .ok (.bool false) w := by kernel_rfl
theorem six_set {w : World} {g : Nat} {c0 c1 c2 c3 c4 c5 : Value} (h : w.heap[g]? = some (.cells #[c0, c1, c2, c3, c4, c5] 137 (0, 0))) (v0 v1 v2 v3 v4 v5 : Value) :
    ((((((w.setCell ⟨g, 0, none⟩ v0).setCell ⟨g, 1, none⟩ v1).setCell ⟨g, 2, none⟩ v2).setCell ⟨g, 3, none⟩ v3).setCell ⟨g, 4, none⟩ v4).setCell ⟨g, 5, none⟩ v5).heap[g]? = some (.cells #[v0, v1, v2, v3, v4, v5] 137 (0, 0)) ∧ w.grownBy ((((((w.setCell ⟨g, 0, none⟩ v0).setCell ⟨g, 1, none⟩ v1).setCell ⟨g, 2, none⟩ v2).setCell ⟨g, 3, none⟩ v3).setCell ⟨g, 4, none⟩ v4).setCell ⟨g, 5, none⟩ v5) (some g) := by
  obtain ⟨a0, b0⟩ := row_set h 0 v0
  obtain ⟨a1, b1⟩ := row_set a0 1 v1
  obtain ⟨a2, b2⟩ := row_set a1 2 v2
  obtain ⟨a3, b3⟩ := row_set a2 3 v3
  obtain ⟨a4, b4⟩ := row_set a3 4 v4
  obtain ⟨a5, b5⟩ := row_set a4 5 v5
  refine ⟨?_, grown_trans (grown_trans (grown_trans (grown_trans (grown_trans b0 b1) b2) b3) b4) b5⟩
  rw [a5]
  rfl
theorem thing_ret {w w8 w9 : World} {v0 v1 v2 v3 v4 v5 : Value} (h : w9.heap[w.heap.size + 1]? = some (.cells #[v0, v1, v2, v3, v4, v5] 137 (0, 0))) : w9.cell? ⟨w.heap.size + 1, 0, none⟩ = some v0 ∧ w9.cell? ⟨w.heap.size + 1, 1, none⟩ = some v1 ∧ w9.cell? ⟨w.heap.size + 1, 2, none⟩ = some v2 ∧ w9.cell? ⟨w.heap.size + 1, 3, none⟩ = some v3 ∧ w9.cell? ⟨w.heap.size + 1, 4, none⟩ = some v4 ∧ w9.cell? ⟨w.heap.size + 1, 5, none⟩ = some v5 :=
  ⟨(cell_blockT h 0).trans rfl, (cell_blockT h 1).trans rfl, (cell_blockT h 2).trans rfl, (cell_blockT h 3).trans rfl, (cell_blockT h 4).trans rfl, (cell_blockT h 5).trans rfl⟩
abbrev zero6 : Array Value := #[.int .i64 0, .slice none 0 0, .string ⟨#[]⟩, .slice none 0 0, .int .u32 0, .int .i64 0]
abbrev thing6 (q : Nat) : Array Value := #[.int .i64 1, .slice (some ⟨q, 0, none⟩) 1 1, .string (str []), .slice none 0 0, .int .u32 0, .int .i64 0]
structure RStI (w : World) (b : Nat) (x : Itm) (va : Option Addr) (n vc q p : Nat) (wr : World) : Prop where
  bel : Below w.heap.size w wr
  res : wr.heap[w.heap.size + 1]? = some (.cells zero6 137 (0, 0))
  thing : wr.heap[p]? = some (.cells (thing6 q) 137 (0, 0))
  item : wr.heap[q]? = some (.cells (itmCells x (.slice va n vc)) 91 (0, 0))
  own : wr.ownsRow (b + 1) 123 2 (.slice va n vc) x.e.terms.length (rowT x.e.terms)
  lo : w.heap.size + 2 ≤ b
  fr : w.heap.size ≤ q
theorem blk_lt {w : World} {g : Nat} {o : Obj} (h : w.heap[g]? = some o) : g < w.heap.size := (Array.getElem?_eq_some_iff.1 h).1
theorem RStI.below {w : World} {b : Nat} {x : Itm} {va : Option Addr} {n vc q p : Nat} {wr w' : World} (h : RStI w b x va n vc q p wr) (hb : Below wr.heap.size wr w') : RStI w b x va n vc q p w' :=
  ⟨h.bel.trans (hb.mono h.bel.size), by rw [hb.block _ (blk_lt h.res)]; exact h.res, by rw [hb.block _ (blk_lt h.thing)]; exact h.thing, by rw [hb.block _ (blk_lt h.item)]; exact h.item, own_low h.own (grown_wide (grown_of_below hb) (some b)) (by omega), h.lo, h.fr⟩
theorem itAt_row {w : World} {g : Nat} {x : Itm} {va : Option Addr} {n vc : Nat} (h : w.heap[g]? = some (.cells (itmCells x (.slice va n vc)) 91 (0, 0))) : ItAt w g 0 x va n vc := by
  have key := fun j => cell_blockT h j
  exact ⟨key 0, key 1, key 2, key 3, key 4, key 5, key 6, key 7, key 8, key 9⟩
theorem opF_err {wants : List UInt8} {args : List (List Tok)} : ∀ {place : Nat} {x : Itm} {k : Int}, opF wants args place x = .error k → k = 20 ∨ k = 21 := by
  induction args with
  | nil => intro place x k h; cases h
  | cons arg r ih =>
    intro place x k h
    rw [opF] at h
    cases hs : stepF (atI (bs (str wants)) place) place arg x with
    | error e => rw [hs] at h; cases h; exact stepF_err hs
    | ok x' => rw [hs] at h; exact ih h
theorem wants_ok (s : Int) : ∀ i, i < (wantsF s).length → wantC (atI (bs (str (wantsF s))) i) := by
  have key : ∀ l : List UInt8, (l.all fun c => c == 114 || c == 122 || c == 110 || c == 61 || c == 101) = true → ∀ i, i < l.length → wantC (atI (bs (str l)) i) := by
    intro l hl i hi
    have h1 : atI (bs (str l)) i = ((l[i].toNat : Nat) : Int) := by simp [atI, bs, str, List.getD_eq_getElem?_getD, hi]
    rw [h1]
    have h2 := List.all_eq_true.1 hl l[i] (List.getElem_mem hi)
    simp only [Bool.or_eq_true, beq_iff_eq] at h2
    unfold wantC
    rcases h2 with (((h | h) | h) | h) | h <;> rw [h] <;> simp
  apply key
  unfold wantsF
  (repeat' split) <;> rfl
set_option maxHeartbeats 1000000 in
theorem read_op (lb s : List UInt8) (hd : s ∉ dirs) (hf : 1 ≤ findN s) (hf2 : findN s ≤ 43) (hs0 : s ≠ []) (a : Option Addr) (c : Nat) (args : List (List Tok)) (hal : args.length ≤ 1100000) (sec : Int) (w : World) (hA : ArgsIn w.heap.size w a args) (hT : Tab w) :
    Calls Tryz.prog 69 #[.agg #[.string (str lb), .string (str s), .slice a args.length c], .int .i64 sec] w fun e w' => Below w.heap.size w w' ∧ ThOwn w.heap.size w' (opThg s args sec) e := by
  have hne : ((str s).toList == []) = false := by rw [str_toList]; exact beq_false_of_ne hs0
  have hnl : ∀ a w, (binOp .eql 192 (.iface 242 (.pointer (some a))) .nilIface).run Tryz.prog w = .ok (.bool false) w := nil_op
  have hT0 : Tab ((w.alloc (.cells #[.string (str lb), .string (str s), .slice a args.length c] 133)).alloc (.cells #[.int .i64 0, .slice none 0 0, .string ⟨#[]⟩, .slice none 0 0, .int .u32 0, .int .i64 0] 137)) := ((hT.alloc _).alloc _)
  have hro := Hid.intro (readerOf_op s hd hf hf2 _ hT0)
  have hF : opThg s args sec = if args.length ≠ (wantsF (shapeN (findN s))).length then .error 20 else match opF (wantsF (shapeN (findN s))) args 0 (opItm (findN s)) with | .error k => .error k | .ok x => if standsB x.kind sec = true then .ok ⟨1, [x], [], linE, 0⟩ else .error 21 := rfl
  rw [hF]
  have hwl := wants_len (shapeN (findN s))
  clear hF hT0
  generalize hW : wantsF (shapeN (findN s)) = W at hro hwl ⊢
  obtain ⟨n0, hn0⟩ : ∃ n0, n0 = args.length := ⟨_, rfl⟩
  rw [← hn0] at hal hro ⊢
  replace hn0 := Hid.intro hn0
  replace hW := Hid.intro hW
  have hwB : ∀ w1, Below ((w.alloc (.cells #[.string (str lb), .string (str s), .slice a n0 c] 133)).alloc (.cells #[.int .i64 0, .slice none 0 0, .string ⟨#[]⟩, .slice none 0 0, .int .u32 0, .int .i64 0] 137)).heap.size ((w.alloc (.cells #[.string (str lb), .string (str s), .slice a n0 c] 133)).alloc (.cells #[.int .i64 0, .slice none 0 0, .string ⟨#[]⟩, .slice none 0 0, .int .u32 0, .int .i64 0] 137)) w1 → Below w.heap.size w w1 ∧ w.heap.size + 2 ≤ w1.heap.size := fun w1 h1 => by
    have hq := h1.size
    have hq2 : ((w.alloc (.cells #[.string (str lb), .string (str s), .slice a n0 c] 133)).alloc (.cells #[.int .i64 0, .slice none 0 0, .string ⟨#[]⟩, .slice none 0 0, .int .u32 0, .int .i64 0] 137)).heap.size = w.heap.size + 2 := by simp
    exact ⟨((below_alloc w _).alloc (by simp) _).trans (h1.mono (by omega)), by omega⟩
  replace hwB := Hid.intro hwB
  by_cases hlen : n0 = W.length
  · rw [if_neg (by simp [hlen])]
    have g1 : ¬ n0 < W.length := by omega
    have g2 : ¬ W.length < n0 := by omega
    replace hlen := Hid.intro hlen
    go_enter Tryz.func69, Tryz.ntmps69
    have hok := wants_ok (shapeN (findN s))
    rw [hW.out] at hok
    have hlen2 : args.length = W.length := by rw [← hn0.out]; exact hlen.out
    have hT1 : ∀ w1, Below w.heap.size w w1 → Tab w1 := fun w1 h1 => hT.below h1 hT.size
    have hsz2 := hT.size
    have hrd : Hid (∀ w1, Below ((w.alloc (.cells #[.string (str lb), .string (str s), .slice a n0 c] 133)).alloc (.cells #[.int .i64 0, .slice none 0 0, .string ⟨#[]⟩, .slice none 0 0, .int .u32 0, .int .i64 0] 137)).heap.size ((w.alloc (.cells #[.string (str lb), .string (str s), .slice a n0 c] 133)).alloc (.cells #[.int .i64 0, .slice none 0 0, .string ⟨#[]⟩, .slice none 0 0, .int .u32 0, .int .i64 0] 137)) w1 → ∀ b, ((w.alloc (.cells #[.string (str lb), .string (str s), .slice a n0 c] 133)).alloc (.cells #[.int .i64 0, .slice none 0 0, .string ⟨#[]⟩, .slice none 0 0, .int .u32 0, .int .i64 0] 137)).heap.size ≤ b → OpB w1 b W (opItm (findN s)) none 0 0 → Calls Tryz.prog 269 #[.pointer (some ⟨b, 0, none⟩), .slice a n0 c] w1 fun e w' => OneOut w1 b W (opF W args 0 (opItm (findN s))) e w') := fun w1 h1 b hb hO => by
      obtain ⟨hw1, hw2⟩ := hwB.out w1 h1
      have hb' : w.heap.size + 2 ≤ b := by simpa using hb
      have := opRead_any b W (opItm (findN s)) none 0 0 hok hwl a c args hlen2 w1 ((hA.below hw1).mono (by omega) (by have := hO.lt; omega)) hO (hT1 w1 hw1) (by omega)
      rwa [← hn0.out] at this
    clear hok hlen2
    have hoe := @opF_err W args 0 (opItm (findN s))
    generalize opF W args 0 (opItm (findN s)) = R at hrd hoe ⊢
    cases R with
    | error k =>
      simp only [OneOut, whyOf] at hrd
      have hk : k = 20 ∨ k = 21 := hoe rfl
      clear hoe
      have hk0 : (k == 0) = false := by rcases hk with rfl | rfl <;> rfl
      go_wp2_with (first | (go_at_call 105; (with_reducible refine (hro.out).mono ?_); rintro e w1 ⟨hb1, b, hb, rfl, hO⟩; have hs1 := hb1.size; replace hO := Hid.intro hO; have hl1 := fun j => (cell_blockT (show w1.heap[w.heap.size]? = some (.cells #[.string (str lb), .string (str s), .slice a n0 c] 133 (0, 0)) from (by rw [hb1.block _ (by simp; omega), Below.heap_alloc _ _ _ (by simp)]; exact heap_alloc_new w _)) j); have l1 := (hl1 1).trans rfl; have l2 := (hl1 2).trans rfl; clear hl1; have hr1 : Hid (w1.heap[w.heap.size + 1]? = some (.cells #[.int .i64 0, .slice none 0 0, .string ⟨#[]⟩, .slice none 0 0, .int .u32 0, .int .i64 0] 137 (0, 0))) := (by show _ = _; rw [hb1.block _ (by simp)]; have := heap_alloc_new (w.alloc (.cells #[.string (str lb), .string (str s), .slice a n0 c] 133)) (.cells #[.int .i64 0, .slice none 0 0, .string ⟨#[]⟩, .slice none 0 0, .int .u32 0, .int .i64 0] 137); rwa [show (w.alloc (.cells #[.string (str lb), .string (str s), .slice a n0 c] 133)).heap.size = w.heap.size + 1 by simp] at this); have rc := fun j => cell_blockT hr1.out j; have rc0 := (rc 0).trans rfl; have rc1 := (rc 1).trans rfl; have rc2 := (rc 2).trans rfl; have rc3 := (rc 3).trans rfl; have rc4 := (rc 4).trans rfl; have rc5 := (rc 5).trans rfl; clear rc; have rf := fun j => frozen_of_row w1 (w.heap.size + 1) j _ 137 hr1.out) | (go_at_call 269; (with_reducible refine (hrd.out w1 hb1 b hb hO.out).mono ?_); rintro e w2 ⟨rfl, hb2, hO2⟩; have hs2 := hb2.size; have hr2 : Hid (w2.heap[w.heap.size + 1]? = some (.cells #[.int .i64 0, .slice none 0 0, .string ⟨#[]⟩, .slice none 0 0, .int .u32 0, .int .i64 0] 137 (0, 0))) := (by show _ = _; rw [hb2.block _ (by simp at hb; omega)]; exact hr1.out); have rd := fun j => cell_blockT hr2.out j; have rd0 := (rd 0).trans rfl; have rd1 := (rd 1).trans rfl; have rd2 := (rd 2).trans rfl; have rd3 := (rd 3).trans rfl; have rd4 := (rd 4).trans rfl; have rd5 := (rd 5).trans rfl; clear rd; have rg := fun j => frozen_of_row w2 (w.heap.size + 1) j _ 137 hr2.out))
      all_goals first | omega | skip
      obtain ⟨hw1, hw2⟩ := hwB.out w1 hb1
      have hw3 : Below w.heap.size w w2 := hw1.trans (hb2.mono (by simp at hb; omega))
      obtain ⟨s1, s2⟩ := six_set hr2.out (.int .i64 0) (.slice none 0 0) (.string ⟨#[]⟩) (.slice none 0 0) (.int .u32 0) (.int .i64 0)
      have hB9 := (hw3).grown s2 (by omega) (fun j hj => by cases hj; omega)
      generalize ((((((w2.setCell ⟨w.heap.size + 1, 0, none⟩ (.int .i64 0)).setCell ⟨w.heap.size + 1, 1, none⟩ (.slice none 0 0)).setCell ⟨w.heap.size + 1, 2, none⟩ (.string ⟨#[]⟩)).setCell ⟨w.heap.size + 1, 3, none⟩ (.slice none 0 0)).setCell ⟨w.heap.size + 1, 4, none⟩ (.int .u32 0)).setCell ⟨w.heap.size + 1, 5, none⟩ (.int .i64 0)) = w9 at s1 s2 hB9 ⊢
      obtain ⟨k0, k1, k2, k3, k4, k5⟩ := thing_ret (w8 := w9) s1
      refine bodyPost_ret (by simp [results, Tryz.results69, go_sem, k0, k1, k2, k3, k4, k5]; try rfl) rfl ?_
      exact ⟨hB9, rfl⟩
    | ok x =>
      simp only [OneOut, whyOf] at hrd
      clear hoe
      go_upto_region 10 with (first | (go_at_call 105; (with_reducible refine (hro.out).mono ?_); rintro e w1 ⟨hb1, b, hb, rfl, hO⟩; have hs1 := hb1.size; replace hO := Hid.intro hO; have hl1 := fun j => (cell_blockT (show w1.heap[w.heap.size]? = some (.cells #[.string (str lb), .string (str s), .slice a n0 c] 133 (0, 0)) from (by rw [hb1.block _ (by simp; omega), Below.heap_alloc _ _ _ (by simp)]; exact heap_alloc_new w _)) j); have l1 := (hl1 1).trans rfl; have l2 := (hl1 2).trans rfl; clear hl1; have hr1 : Hid (w1.heap[w.heap.size + 1]? = some (.cells #[.int .i64 0, .slice none 0 0, .string ⟨#[]⟩, .slice none 0 0, .int .u32 0, .int .i64 0] 137 (0, 0))) := (by show _ = _; rw [hb1.block _ (by simp)]; have := heap_alloc_new (w.alloc (.cells #[.string (str lb), .string (str s), .slice a n0 c] 133)) (.cells #[.int .i64 0, .slice none 0 0, .string ⟨#[]⟩, .slice none 0 0, .int .u32 0, .int .i64 0] 137); rwa [show (w.alloc (.cells #[.string (str lb), .string (str s), .slice a n0 c] 133)).heap.size = w.heap.size + 1 by simp] at this); have rc := fun j => cell_blockT hr1.out j; have rc0 := (rc 0).trans rfl; have rc1 := (rc 1).trans rfl; have rc2 := (rc 2).trans rfl; have rc3 := (rc 3).trans rfl; have rc4 := (rc 4).trans rfl; have rc5 := (rc 5).trans rfl; clear rc; have rf := fun j => frozen_of_row w1 (w.heap.size + 1) j _ 137 hr1.out) | (go_at_call 269; (with_reducible refine (hrd.out w1 hb1 b hb hO.out).mono ?_); rintro e w2 ⟨rfl, hb2, hO2⟩; have hs2 := hb2.size; have hr2 : Hid (w2.heap[w.heap.size + 1]? = some (.cells #[.int .i64 0, .slice none 0 0, .string ⟨#[]⟩, .slice none 0 0, .int .u32 0, .int .i64 0] 137 (0, 0))) := (by show _ = _; rw [hb2.block _ (by simp at hb; omega)]; exact hr1.out); have rd := fun j => cell_blockT hr2.out j; have rd0 := (rd 0).trans rfl; have rd1 := (rd 1).trans rfl; have rd2 := (rd 2).trans rfl; have rd3 := (rd 3).trans rfl; have rd4 := (rd 4).trans rfl; have rd5 := (rd 5).trans rfl; clear rd; have rg := fun j => frozen_of_row w2 (w.heap.size + 1) j _ 137 hr2.out; obtain ⟨va, n, vc, hO3⟩ := hO2; replace hO3 := Hid.intro hO3) | (go_at_call 106; (with_reducible refine (said_op b W x va n vc w2 hO3.out).mono ?_); rintro e w3 ⟨hb3, q, hq, rfl, hqh⟩))
      all_goals first | omega | skip
      obtain ⟨hw1, hw2⟩ := hwB.out w1 hb1
      have hbb : w.heap.size + 2 ≤ b := by simpa using hb
      have hOlt := hO3.out.lt
      have hs3 := hb3.size
      have hB3 : Below w.heap.size w w3 := (hw1.trans (hb2.mono (by omega))).trans (hb3.mono (by omega))
      have hS : RStI w b x va n vc q w3.heap.size (w3.alloc (.cells (thing6 q) 137)) :=
        ⟨hB3.alloc hB3.size _, by rw [Below.heap_alloc _ _ _ (by omega), hb3.block _ (by omega)]; exact hr2.out, heap_alloc_new w3 _, by rw [Below.heap_alloc _ _ _ (blk_lt hqh)]; exact hqh, (own_low hO3.out.own (grown_wide (grown_of_below hb3) (some b)) (by omega)).alloc _, hbb, by omega⟩
      generalize hp : w3.heap.size = p at hS ⊢
      generalize (w3.alloc (.cells (thing6 q) 137)) = w4 at hS ⊢
      clear rd0 rd1 rd2 rd3 rd4 rd5 rg rc0 rc1 rc2 rc3 rc4 rc5 rf l1 l2 hr1 hr2 hqh hO3 hb3 hb2 hb1 hO hro hrd hwB hp hB3
      replace hS := Hid.intro hS
      have t1 := (cell_blockT hS.out.thing 1).trans rfl
      go_wp2
      all_goals first | omega | skip
      clear t1
      have hst := Hid.intro (fun w1 => stands_any x.kind sec w1)
      go_loopw [54] (fun v54 wr => ∃ i : Nat, i ≤ 1 ∧ v54 = .int .i64 (i : Int) ∧ (i = 1 → standsB x.kind sec = true) ∧ Hid (RStI w b x va n vc q p wr)) (fun v54 wr => 1 - (intOf v54).toNat)
      case atStart => exact ⟨0, by omega, rfl, fun h => by omega, hS⟩
      case round =>
        clear hS
        obtain ⟨i, hi, rfl, hi1, hS⟩ := hrel
        have hlo := hS.out.lo
        by_cases hi0 : i = 0
        · subst hi0
          obtain ⟨c0, c1, c2, c3, c4, c5, c6, c7, c8, c9⟩ := itAt_row hS.out.item
          have hal := Hid.intro (fun o => hS.out.below (below_alloc wr o))
          have r0 := fun o => (cell_blockT (hal.out o).res 0).trans rfl
          have r1 := fun o => (cell_blockT (hal.out o).res 1).trans rfl
          have r2 := fun o => (cell_blockT (hal.out o).res 2).trans rfl
          have r3 := fun o => (cell_blockT (hal.out o).res 3).trans rfl
          have r4 := fun o => (cell_blockT (hal.out o).res 4).trans rfl
          have r5 := fun o => (cell_blockT (hal.out o).res 5).trans rfl
          have rf := fun o j => frozen_of_row (wr.alloc o) (w.heap.size + 1) j _ 137 (hal.out o).res
          cases hsb : standsB x.kind sec
          · rw [hsb] at hst
            go_wp2_with (go_at_call 107; (with_reducible refine (hst.out _).mono ?_); rintro e w5 ⟨rfl, rfl⟩)
            all_goals first | omega | skip
            have hal2 := hal.out (.cells (itmCells x (.slice va n vc)) 91)
            have hbs := hal2.bel.size
            obtain ⟨s1, s2⟩ := six_set hal2.res (.int .i64 0) (.slice none 0 0) (.string ⟨#[]⟩) (.slice none 0 0) (.int .u32 0) (.int .i64 0)
            have hB9 := (hal2.bel).grown s2 (by omega) (fun j hj => by cases hj; omega)
            generalize (((((((wr.alloc (.cells (itmCells x (.slice va n vc)) 91)).setCell ⟨w.heap.size + 1, 0, none⟩ (.int .i64 0)).setCell ⟨w.heap.size + 1, 1, none⟩ (.slice none 0 0)).setCell ⟨w.heap.size + 1, 2, none⟩ (.string ⟨#[]⟩)).setCell ⟨w.heap.size + 1, 3, none⟩ (.slice none 0 0)).setCell ⟨w.heap.size + 1, 4, none⟩ (.int .u32 0)).setCell ⟨w.heap.size + 1, 5, none⟩ (.int .i64 0)) = w9 at s1 s2 hB9 ⊢
            obtain ⟨k0, k1, k2, k3, k4, k5⟩ := thing_ret (w8 := w9) s1
            refine bodyPost_ret (by simp [results, Tryz.results69, go_sem, k0, k1, k2, k3, k4, k5]; try rfl) rfl ?_
            exact ⟨hB9, rfl⟩
          · rw [hsb] at hst
            go_wp2_with (go_at_call 107; (with_reducible refine (hst.out _).mono ?_); rintro e w5 ⟨rfl, rfl⟩)
            all_goals first | omega | skip
            go_roundw
            case rel => exact ⟨1, by omega, by go_num, fun _ => by first | exact hsb | trivial, Hid.intro (hal.out _)⟩
            case measure => simp [intOf]
        · have hie : i = 1 := by omega
          subst hie
          have hsb := hi1 rfl
          have t := fun j => cell_blockT hS.out.thing j
          have t0 := (t 0).trans rfl
          have t1 := (t 1).trans rfl
          have t2 := (t 2).trans rfl
          have t3 := (t 3).trans rfl
          have t4 := (t 4).trans rfl
          have t5 := (t 5).trans rfl
          have r0 := (cell_blockT hS.out.res 0).trans rfl
          have r1 := (cell_blockT hS.out.res 1).trans rfl
          have r2 := (cell_blockT hS.out.res 2).trans rfl
          have r3 := (cell_blockT hS.out.res 3).trans rfl
          have r4 := (cell_blockT hS.out.res 4).trans rfl
          have r5 := (cell_blockT hS.out.res 5).trans rfl
          have rf := fun j => frozen_of_row wr (w.heap.size + 1) j _ 137 hS.out.res
          clear t
          go_wp2
          all_goals first | omega | skip
          obtain ⟨s1, s2⟩ := six_set hS.out.res (.int .i64 1) (.slice (some ⟨q, 0, none⟩) 1 1) (.string (str [])) (.slice none 0 0) (.int .u32 0) (.int .i64 0)
          have hbs := hS.out.bel.size
          have hrl := blk_lt hS.out.res
          have hql := blk_lt hS.out.item
          have hB9 := (hS.out.bel).grown s2 (by omega) (fun j hj => by cases hj; omega)
          have hown9 := own_low hS.out.own s2 (by omega)
          have hqn : q ≠ w.heap.size + 1 := fun e => by
            have h1 := hS.out.item
            rw [e, hS.out.res] at h1
            injection h1 with h1
            injection h1 with _ h1
            cases h1
          have hit9 : (((((((wr.setCell ⟨w.heap.size + 1, 0, none⟩ (.int .i64 1)).setCell ⟨w.heap.size + 1, 1, none⟩ (.slice (some ⟨q, 0, none⟩) 1 1)).setCell ⟨w.heap.size + 1, 2, none⟩ (.string (str []))).setCell ⟨w.heap.size + 1, 3, none⟩ (.slice none 0 0)).setCell ⟨w.heap.size + 1, 4, none⟩ (.int .u32 0)).setCell ⟨w.heap.size + 1, 5, none⟩ (.int .i64 0))).heap[q]? = some (.cells (itmCells x (.slice va n vc)) 91 (0, 0)) := by
            rw [s2.block q hql (by simp [hqn])]; exact hS.out.item
          generalize ((((((wr.setCell ⟨w.heap.size + 1, 0, none⟩ (.int .i64 1)).setCell ⟨w.heap.size + 1, 1, none⟩ (.slice (some ⟨q, 0, none⟩) 1 1)).setCell ⟨w.heap.size + 1, 2, none⟩ (.string (str []))).setCell ⟨w.heap.size + 1, 3, none⟩ (.slice none 0 0)).setCell ⟨w.heap.size + 1, 4, none⟩ (.int .u32 0)).setCell ⟨w.heap.size + 1, 5, none⟩ (.int .i64 0)) = w9 at s1 s2 hB9 hown9 hit9 ⊢
          obtain ⟨k0, k1, k2, k3, k4, k5⟩ := thing_ret (w8 := w9) s1
          refine bodyPost_ret (by simp [results, Tryz.results69, go_sem, k0, k1, k2, k3, k4, k5]; try rfl) rfl ?_
          refine ⟨hB9, ?_⟩
          exact ⟨.slice (some ⟨q, 0, none⟩) 1 1, none, 0, 0, rfl, ThO.one hit9 (by have := hS.out.fr; omega) (own_weaken hown9 (by omega))⟩
  · rw [if_pos hlen]
    rcases Nat.lt_or_gt_of_ne hlen with hl | hl
    · go_enter Tryz.func69, Tryz.ntmps69
      go_wp2_with (go_at_call 105; (with_reducible refine (hro.out).mono ?_); rintro e w1 ⟨hb1, b, hb, rfl, hO⟩; have hs1 := hb1.size; replace hO := Hid.intro hO; have hl1 := fun j => (cell_blockT (show w1.heap[w.heap.size]? = some (.cells #[.string (str lb), .string (str s), .slice a n0 c] 133 (0, 0)) from (by rw [hb1.block _ (by simp; omega), Below.heap_alloc _ _ _ (by simp)]; exact heap_alloc_new w _)) j); have l1 := (hl1 1).trans rfl; have l2 := (hl1 2).trans rfl; clear hl1; have hr1 : Hid (w1.heap[w.heap.size + 1]? = some (.cells #[.int .i64 0, .slice none 0 0, .string ⟨#[]⟩, .slice none 0 0, .int .u32 0, .int .i64 0] 137 (0, 0))) := (by show _ = _; rw [hb1.block _ (by simp)]; have := heap_alloc_new (w.alloc (.cells #[.string (str lb), .string (str s), .slice a n0 c] 133)) (.cells #[.int .i64 0, .slice none 0 0, .string ⟨#[]⟩, .slice none 0 0, .int .u32 0, .int .i64 0] 137); rwa [show (w.alloc (.cells #[.string (str lb), .string (str s), .slice a n0 c] 133)).heap.size = w.heap.size + 1 by simp] at this); have rc := fun j => cell_blockT hr1.out j; have rc0 := (rc 0).trans rfl; have rc1 := (rc 1).trans rfl; have rc2 := (rc 2).trans rfl; have rc3 := (rc 3).trans rfl; have rc4 := (rc 4).trans rfl; have rc5 := (rc 5).trans rfl; clear rc; have rf := fun j => frozen_of_row w1 (w.heap.size + 1) j _ 137 hr1.out)
      all_goals first | omega | skip
      obtain ⟨hw1, hw2⟩ := hwB.out w1 hb1
      obtain ⟨s1, s2⟩ := six_set hr1.out (.int .i64 0) (.slice none 0 0) (.string ⟨#[]⟩) (.slice none 0 0) (.int .u32 0) (.int .i64 0)
      have hB9 := (hw1).grown s2 (by omega) (fun j hj => by cases hj; omega)
      generalize ((((((w1.setCell ⟨w.heap.size + 1, 0, none⟩ (.int .i64 0)).setCell ⟨w.heap.size + 1, 1, none⟩ (.slice none 0 0)).setCell ⟨w.heap.size + 1, 2, none⟩ (.string ⟨#[]⟩)).setCell ⟨w.heap.size + 1, 3, none⟩ (.slice none 0 0)).setCell ⟨w.heap.size + 1, 4, none⟩ (.int .u32 0)).setCell ⟨w.heap.size + 1, 5, none⟩ (.int .i64 0)) = w9 at s1 s2 hB9 ⊢
      obtain ⟨k0, k1, k2, k3, k4, k5⟩ := thing_ret (w8 := w9) s1
      refine bodyPost_ret (by simp [results, Tryz.results69, go_sem, k0, k1, k2, k3, k4, k5]; try rfl) rfl ?_
      exact ⟨hB9, rfl⟩
    · go_enter Tryz.func69, Tryz.ntmps69
      have hl2 : ¬ n0 < W.length := by omega
      go_wp2_with (go_at_call 105; (with_reducible refine (hro.out).mono ?_); rintro e w1 ⟨hb1, b, hb, rfl, hO⟩; have hs1 := hb1.size; replace hO := Hid.intro hO; have hl1 := fun j => (cell_blockT (show w1.heap[w.heap.size]? = some (.cells #[.string (str lb), .string (str s), .slice a n0 c] 133 (0, 0)) from (by rw [hb1.block _ (by simp; omega), Below.heap_alloc _ _ _ (by simp)]; exact heap_alloc_new w _)) j); have l1 := (hl1 1).trans rfl; have l2 := (hl1 2).trans rfl; clear hl1; have hr1 : Hid (w1.heap[w.heap.size + 1]? = some (.cells #[.int .i64 0, .slice none 0 0, .string ⟨#[]⟩, .slice none 0 0, .int .u32 0, .int .i64 0] 137 (0, 0))) := (by show _ = _; rw [hb1.block _ (by simp)]; have := heap_alloc_new (w.alloc (.cells #[.string (str lb), .string (str s), .slice a n0 c] 133)) (.cells #[.int .i64 0, .slice none 0 0, .string ⟨#[]⟩, .slice none 0 0, .int .u32 0, .int .i64 0] 137); rwa [show (w.alloc (.cells #[.string (str lb), .string (str s), .slice a n0 c] 133)).heap.size = w.heap.size + 1 by simp] at this); have rc := fun j => cell_blockT hr1.out j; have rc0 := (rc 0).trans rfl; have rc1 := (rc 1).trans rfl; have rc2 := (rc 2).trans rfl; have rc3 := (rc 3).trans rfl; have rc4 := (rc 4).trans rfl; have rc5 := (rc 5).trans rfl; clear rc; have rf := fun j => frozen_of_row w1 (w.heap.size + 1) j _ 137 hr1.out)
      all_goals first | omega | skip
      obtain ⟨hw1, hw2⟩ := hwB.out w1 hb1
      obtain ⟨s1, s2⟩ := six_set hr1.out (.int .i64 0) (.slice none 0 0) (.string ⟨#[]⟩) (.slice none 0 0) (.int .u32 0) (.int .i64 0)
      have hB9 := (hw1).grown s2 (by omega) (fun j hj => by cases hj; omega)
      generalize ((((((w1.setCell ⟨w.heap.size + 1, 0, none⟩ (.int .i64 0)).setCell ⟨w.heap.size + 1, 1, none⟩ (.slice none 0 0)).setCell ⟨w.heap.size + 1, 2, none⟩ (.string ⟨#[]⟩)).setCell ⟨w.heap.size + 1, 3, none⟩ (.slice none 0 0)).setCell ⟨w.heap.size + 1, 4, none⟩ (.int .u32 0)).setCell ⟨w.heap.size + 1, 5, none⟩ (.int .i64 0)) = w9 at s1 s2 hB9 ⊢
      obtain ⟨k0, k1, k2, k3, k4, k5⟩ := thing_ret (w8 := w9) s1
      refine bodyPost_ret (by simp [results, Tryz.results69, go_sem, k0, k1, k2, k3, k4, k5]; try rfl) rfl ?_
      exact ⟨hB9, rfl⟩
end Go.Proofs.YtogkchgjpflmjaaGreatDoor

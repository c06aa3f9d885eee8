/- book.Roomy and Intact over instructions. -/
import Derived.Test.YtmpckkogllnkkaaDoorISame
import Derived.Laws.CopyOwn
namespace Go.Proofs.YtmpckkogllnkkaaDoor
open Go.ChangeShapes Go.WideShapes Go.ChangeAt Go.RowKit
set_option linter.unusedVariables false
set_option maxRecDepth 100000

section
variable {P : Program}
/-- copy of elements of S cells -/
theorem run_copy_wide (w : World) (dT sT ty elem : TypeId) (g o dLen dCap : Nat) (a : Addr) (sLen sCap : Nat) (cur : Array Value) (t : TypeId) (cs : List Value) (S n : Nat)
    (hu : P.underlying dT = some (.slice elem)) (hs : (P.info? elem).map (·.size) = some S)
    (hg : w.heap[g]? = some (.cells cur t (0, 0))) (hmin : Nat.min sLen dLen = n) (hn : cs.length = n * S)
    (hsrc : ∀ j v, cs[j]? = some v → w.cell? (a.add j) = some v) (hfit : o + cs.length ≤ cur.size) (h1 : ∀ v ∈ cs, v.oneCell' = true) :
    (Builtin.copy_ #[dT, sT] ty #[.slice (some ⟨g, o, none⟩) dLen dCap, .slice (some a) sLen sCap]).run P w =
      .ok (goInt n) (w.setRow g (cur.toList.take o ++ cs ++ cur.toList.drop (o + cs.length)).toArray) := by
  have hl := run_loadCells_list (P := P) w a cs hsrc
  have hst := run_storeCells_at P g o t cs 0 cur w hg (by simpa using hfit) h1
  cases hq : P.info? elem with
  | none => simp [hq] at hs
  | some i =>
    have hi : i.size = S := by simpa [hq] using hs
    simp [Builtin.copy_, run_underlying hu, Builtin.lenOf, Builtin.firstCells, sizeOf, typeInfo, hq, hi, hmin, ← hn, hl, hst]
theorem run_copy_nothing (w : World) (dT sT ty elem : TypeId) (d a : Option Addr) (dLen dCap sLen sCap S : Nat) (hu : P.underlying dT = some (.slice elem)) (hs : (P.info? elem).map (·.size) = some S) (hn : Nat.min sLen dLen = 0) :
    (Builtin.copy_ #[dT, sT] ty #[.slice d dLen dCap, .slice a sLen sCap]).run P w = .ok (goInt 0) w := by
  cases hq : P.info? elem with
  | none => simp [hq] at hs
  | some i =>
    have hl : ∀ (x : Addr), (loadCells x 0).run P w = .ok #[] w := fun x => by simpa using run_loadCells_list (P := P) w x [] (by simp)
    cases d <;> cases a <;> simp [Builtin.copy_, run_underlying hu, Builtin.lenOf, Builtin.firstCells, sizeOf, typeInfo, hq, hn, storeCells, hl]

theorem wpList_copy_wide {w : World} {ops : Array Oper} {rest : List Oper} {o : Oper} {a : Act} {Q : Exit → Act → World → Prop} (hgd : o.guard = none) (d s : Operand) (dT sT : TypeId)
    (ho : o.op = .call { callee := .builtin .copy, args := #[d, s], argTypes := #[dT, sT] }) (elem : TypeId) (S n : Nat) (hu : P.underlying dT = some (.slice elem)) (hsz : (P.info? elem).map (·.size) = some S)
    (dp sp : Option Addr) (dLen dCap sLen sCap : Nat) (hd : a.eval d = .slice dp dLen dCap) (hs : a.eval s = .slice sp sLen sCap)
    (g : Nat) (cur : List Value) (t : TypeId) (hg : w.heap[g]? = some (.cells cur.toArray t (0, 0))) (cs : List Value) (hmin : Nat.min sLen dLen = n) (hn : cs.length = n * S)
    (hpos : 0 < n → dp = some ⟨g, 0, none⟩ ∧ ∃ ad, sp = some ad ∧ ∀ j v, cs[j]? = some v → w.cell? (ad.add j) = some v)
    (hfit : cs.length ≤ cur.length) (h1 : ∀ v ∈ cs, v.oneCell' = true) (B : Nat) (w0 : World) (hb : Below B w0 w) (hBg : B ≤ g)
    (h : ∀ w', Hid (w'.heap[g]? = some (.cells (splice cur 0 cs).toArray t (0, 0))) → Below B w0 w' → wpList P ops Q rest (a.put o.dst (goInt n)) w') :
    wpList P ops Q (o :: rest) a w := by
  refine wpList_plain hgd fun K hK => ?_
  by_cases h0 : n = 0
  · subst h0
    obtain rfl : cs = [] := List.eq_nil_of_length_eq_zero (by rw [hn, Nat.zero_mul])
    have hrun := run_copy_nothing (P := P) w dT sT o.type elem dp sp dLen dCap sLen sCap S hu hsz hmin
    unfold Oper.wp
    simp [execOp, ho, resolve, invoke, builtin, hd, hs, hrun, Result.andThen]
    exact hK _ _ (h w (show _ = _ by simpa [splice] using hg) hb)
  · obtain ⟨rfl, ad, rfl, hsrc⟩ := hpos (by omega)
    have hrun := run_copy_wide (P := P) w dT sT o.type elem g 0 dLen dCap ad sLen sCap cur.toArray t cs S n hu hsz hg hmin hn hsrc (by simpa using hfit) h1
    unfold Oper.wp
    simp [execOp, ho, resolve, invoke, builtin, hd, hs, hrun, Result.andThen]
    exact hK _ _ (h _ (show _ = _ by simpa [splice] using setRow_heap w g _ _ t _ hg) (below_setRow hb hBg _))
end

def rowI (xs : List Ins) : List Value := xs.flatMap Ins.cells
theorem rowI_length (xs : List Ins) : (rowI xs).length = xs.length * 5 := by
  induction xs with
  | nil => rfl
  | cons x xs ih =>
    have hx : rowI (x :: xs) = x.cells ++ rowI xs := by simp [rowI]
    have hl : x.cells.length = 5 := rfl
    rw [hx, List.length_append, ih, hl, List.length_cons]
    omega
theorem rowI_get (xs : List Ins) (i j : Nat) (x : Ins) (hi : xs[i]? = some x) (hj : j < 5) : (rowI xs)[i * 5 + j]? = x.cells[j]? := flat_at Ins.cells 5 (fun _ => rfl) xs i j x hi hj
theorem rowI_one (xs : List Ins) : ∀ v ∈ rowI xs, v.oneCell' = true := by
  intro v hv
  simp only [rowI, List.mem_flatMap] at hv
  obtain ⟨x, _, hx⟩ := hv
  simp only [Ins.cells, List.mem_cons, List.not_mem_nil, or_false] at hx
  rcases hx with rfl | rfl | rfl | rfl | rfl <;> rfl

/-- block g of w is a row that holds just the instructions xs -/
def RowN (w : World) (g : Nat) (xs : List Ins) : Prop := w.heap[g]? = some (.cells (rowI xs).toArray 27 (0, 0))
theorem RowN.at {w : World} {g : Nat} {xs : List Ins} (h : RowN w g xs) (i : Nat) (x : Ins) (hi : xs[i]? = some x) : InsAt w g (i * 5) x := by
  have key : ∀ j, j < 5 → w.cell? ⟨g, i * 5 + j, none⟩ = x.cells[j]? := fun j hj => by rw [cell_block h, List.getElem?_toArray, rowI_get xs i j x hi hj]
  exact ⟨(key 0 (by omega)).trans rfl, (key 1 (by omega)).trans rfl, (key 2 (by omega)).trans rfl, (key 3 (by omega)).trans rfl, (key 4 (by omega)).trans rfl⟩
theorem RowN.lt {w : World} {g : Nat} {xs : List Ins} (h : RowN w g xs) : g < w.heap.size := (Array.getElem?_eq_some_iff.1 h).1
theorem RowN.below {w w' : World} {g B : Nat} {xs : List Ins} (h : RowN w g xs) (hb : Below B w w') (hg : g < B) : RowN w' g xs := by
  unfold RowN at h ⊢
  rw [hb.block g hg, h]
theorem RowN.frozen {w : World} {g : Nat} {xs : List Ins} (h : RowN w g xs) (i : Nat) : w.frozen? ⟨g, i, none⟩ = false := frozen_of_row w g i _ 27 h
theorem RowN.lies {w : World} {g : Nat} {xs ys : List Ins} (h : RowN w g (xs ++ ys)) (hok : ∀ x ∈ xs, x.ok) : ILies w (some ⟨g, 0, none⟩) xs :=
  ⟨hok, .inr ⟨g, 0, rfl, fun i x hx => by
    have hl := (List.getElem?_eq_some_iff.1 hx).1
    have := h.at i x (by rw [List.getElem?_append_left hl]; exact hx)
    rwa [Nat.zero_add]⟩⟩

theorem setI (xs : List Ins) (k : Nat) (hk : k < xs.length) (y : Ins) : (((((rowI xs).set (k * 5) (.int .i64 y.o)).set (k * 5 + 1) (.int .i64 y.a)).set (k * 5 + 2) (.int .i64 y.b)).set (k * 5 + 3) (.int .i32 y.n)).set (k * 5 + 4) (.int .i64 y.f) = rowI (xs.set k y) := by
  induction xs generalizing k with
  | nil => simp at hk
  | cons x xs ih =>
    have hx : ∀ z zs, rowI (z :: zs) = z.cells ++ rowI zs := fun z zs => by simp [rowI]
    cases k with
    | zero =>
      rw [List.set_cons_zero, hx, hx]
      rfl
    | succ k =>
      rw [List.set_cons_succ, hx, hx, ← ih k (by simpa using hk)]
      have hl : x.cells.length = 5 := rfl
      have e : ∀ (L : List Value) (j : Nat) (v : Value), (x.cells ++ L).set ((k + 1) * 5 + j) v = x.cells ++ L.set (k * 5 + j) v := fun L j v => by
        rw [List.set_append_right _ _ (by rw [hl]; omega), hl, show (k + 1) * 5 + j - 5 = k * 5 + j by omega]
      have e0 := e (rowI xs) 0 (.int .i64 y.o)
      rw [Nat.add_zero, Nat.add_zero] at e0
      rw [e0, e, e, e, e]
      rfl
theorem RowN.set {w : World} {g : Nat} {xs : List Ins} (h : RowN w g xs) (k : Nat) (hk : k < xs.length) (y : Ins) :
    RowN (((((w.setCell ⟨g, k * 5, none⟩ (.int .i64 y.o)).setCell ⟨g, k * 5 + 1, none⟩ (.int .i64 y.a)).setCell ⟨g, k * 5 + 2, none⟩ (.int .i64 y.b)).setCell ⟨g, k * 5 + 3, none⟩ (.int .i32 y.n)).setCell ⟨g, k * 5 + 4, none⟩ (.int .i64 y.f)) g (xs.set k y) := by
  have h1 := heap_setCell_same w g (k * 5) _ 27 (.int .i64 y.o) h
  have h2 := heap_setCell_same _ g (k * 5 + 1) _ 27 (.int .i64 y.a) h1
  have h3 := heap_setCell_same _ g (k * 5 + 2) _ 27 (.int .i64 y.b) h2
  have h4 := heap_setCell_same _ g (k * 5 + 3) _ 27 (.int .i32 y.n) h3
  have h5 := heap_setCell_same _ g (k * 5 + 4) _ 27 (.int .i64 y.f) h4
  unfold RowN
  rw [h5, ← setI xs k hk y]
  simp

/-- a row of N instructions: xs, then marks up to place k, then noughts -/
def fillI (xs : List Ins) (m : Ins) (N k : Nat) : List Ins := xs ++ List.replicate (k - xs.length) m ++ List.replicate (N - k) ⟨0, 0, 0, 0, 0⟩
theorem fillI_length (xs : List Ins) (m : Ins) (N k : Nat) (h : xs.length ≤ k) (hk : k ≤ N) : (fillI xs m N k).length = N := by simp [fillI]; omega
theorem fillI_set (xs : List Ins) (m : Ins) (N k : Nat) (h : xs.length ≤ k) (hk : k < N) : (fillI xs m N k).set k m = fillI xs m N (k + 1) := by
  unfold fillI
  rw [List.set_append_right _ _ (by simp; omega)]
  have e1 : k - (xs ++ List.replicate (k - xs.length) m).length = 0 := by simp; omega
  obtain ⟨j, hj⟩ : ∃ j, N - k = j + 1 := ⟨N - k - 1, by omega⟩
  have hj' : N - (k + 1) = j := by omega
  rw [e1, hj, hj', List.replicate_succ, List.set_cons_zero, show k + 1 - xs.length = (k - xs.length) + 1 by omega, List.replicate_succ']
  simp

theorem Tryd.info27 : (Tryd.prog.info? 27).map (fun i => (i.zero, i.size, i.bytes)) = some (some (.agg #[.int .i64 0, .int .i64 0, .int .i64 0, .int .i32 0, .int .i64 0]), 5, 40) := by kernel_rfl

theorem made_cells (n : Nat) : (madeCells (Value.agg #[.int .i64 0, .int .i64 0, .int .i64 0, .int .i32 0, .int .i64 0]).cells (n * 5)).toList = rowI (List.replicate n ⟨0, 0, 0, 0, 0⟩) := by
  apply List.ext_getElem?
  intro j
  by_cases hj : j < n * 5
  · obtain ⟨i, k, hk, rfl⟩ : ∃ i k, k < 5 ∧ j = i * 5 + k := ⟨j / 5, j % 5, Nat.mod_lt _ (by omega), by omega⟩
    have hi : i < n := by omega
    rw [rowI_get _ i k ⟨0, 0, 0, 0, 0⟩ (by rw [List.getElem?_replicate_of_lt hi]) hk]
    have hm : (i * 5 + k) % 5 = k := by omega
    have hg : ∀ (Z : Array Value) (N j : Nat), j < N → (madeCells Z N).toList[j]? = some (Z[j % Z.size]!) := fun Z N j h => by simp [madeCells, h]
    rw [hg _ _ _ hj]
    have hs : (Value.agg #[.int .i64 0, .int .i64 0, .int .i64 0, .int .i32 0, .int .i64 0]).cells.size = 5 := rfl
    rw [hs, hm]
    have : k = 0 ∨ k = 1 ∨ k = 2 ∨ k = 3 ∨ k = 4 := by omega
    rcases this with rfl | rfl | rfl | rfl | rfl <;> rfl
  · rw [List.getElem?_eq_none (by simp [madeCells]; omega), List.getElem?_eq_none (by rw [rowI_length]; simp; omega)]

theorem made_rowI {w : World} {base g n : Nat} (h : w.ownsRow base 27 5 (.slice (some ⟨g, 0, none⟩) n n) n (madeCells (Value.agg #[.int .i64 0, .int .i64 0, .int .i64 0, .int .i32 0, .int .i64 0]).cells (n * 5)).toList) : RowN w g (List.replicate n ⟨0, 0, 0, 0, 0⟩) := by
  rcases h.2 with ⟨h', _⟩ | ⟨g', cap', cur, h', _, hg, _, _, hs, ht⟩
  · simp at h'
  · simp only [Value.slice.injEq, Option.some.injEq, Addr.mk.injEq, and_true, true_and] at h'
    obtain ⟨rfl, rfl⟩ := h'
    unfold RowN
    rw [hg]
    have e : cur.toList = rowI (List.replicate n ⟨0, 0, 0, 0, 0⟩) := by
      rw [List.take_of_length_le (by simpa using Nat.le_of_eq hs)] at ht
      rw [ht, made_cells]
    rw [← e]

theorem ilies_src {w : World} {a : Option Addr} {xs : List Ins} (hl : ILies w a xs) {w1 : World} (hb : Below w.heap.size w w1) (h0 : 0 < xs.length) :
    ∃ ad, a = some ad ∧ ∀ j v, (rowI xs)[j]? = some v → w1.cell? (ad.add j) = some v := by
  rcases hl.2 with rfl | ⟨g, off, rfl, hc⟩
  · simp at h0
  · refine ⟨_, rfl, fun j v hj => ?_⟩
    have hlt : j < xs.length * 5 := by
      have := (List.getElem?_eq_some_iff.1 hj).1
      rwa [rowI_length] at this
    obtain ⟨i, k, hk, rfl⟩ : ∃ i k, k < 5 ∧ j = i * 5 + k := ⟨j / 5, j % 5, Nat.mod_lt _ (by omega), by omega⟩
    obtain ⟨x, hx⟩ : ∃ x, xs[i]? = some x := ⟨_, List.getElem?_eq_getElem (by omega)⟩
    have hI := (hc i x hx).below hb (hc i x hx).lt
    rw [rowI_get xs i k x hx hk] at hj
    rw [show (⟨g, off, none⟩ : Addr).add (i * 5 + k) = ⟨g, off + i * 5 + k, none⟩ by unfold Addr.add; split <;> simp_all [Nat.add_assoc], ← hj]
    have : k = 0 ∨ k = 1 ∨ k = 2 ∨ k = 3 ∨ k = 4 := by omega
    rcases this with rfl | rfl | rfl | rfl | rfl
    · exact hI.o
    · exact hI.a
    · exact hI.b
    · exact hI.n
    · exact hI.f

theorem splice_rowI (xs : List Ins) (m : Ins) (N : Nat) (h : xs.length ≤ N) : splice (rowI (List.replicate N ⟨0, 0, 0, 0, 0⟩)) 0 (rowI xs) = rowI (fillI xs m N xs.length) := by
  have e1 : fillI xs m N xs.length = xs ++ List.replicate (N - xs.length) ⟨0, 0, 0, 0, 0⟩ := by simp [fillI]
  have e2 : ∀ ys zs, rowI (ys ++ zs) = rowI ys ++ rowI zs := fun ys zs => by simp [rowI]
  have e3 : List.replicate N (⟨0, 0, 0, 0, 0⟩ : Ins) = List.replicate xs.length ⟨0, 0, 0, 0, 0⟩ ++ List.replicate (N - xs.length) ⟨0, 0, 0, 0, 0⟩ := by rw [List.replicate_append_replicate]; congr 1; omega
  have hl : (rowI (List.replicate xs.length ⟨0, 0, 0, 0, 0⟩)).length = (rowI xs).length := by rw [rowI_length, rowI_length, List.length_replicate]
  rw [e1, e2, splice, e3, e2, List.take_zero, List.nil_append, Nat.zero_add, ← hl, List.drop_left]

theorem below_set5 {w w' : World} {B g k : Nat} (h : Below B w w') (hg : B ≤ g) (v0 v1 v2 v3 v4 : Value) : Below B w (((((w'.setCell ⟨g, k * 5, none⟩ v0).setCell ⟨g, k * 5 + 1, none⟩ v1).setCell ⟨g, k * 5 + 2, none⟩ v2).setCell ⟨g, k * 5 + 3, none⟩ v3).setCell ⟨g, k * 5 + 4, none⟩ v4) :=
  Below.setCell (p := ⟨g, k * 5 + 4, none⟩) (Below.setCell (p := ⟨g, k * 5 + 3, none⟩) (Below.setCell (p := ⟨g, k * 5 + 2, none⟩) (Below.setCell (p := ⟨g, k * 5 + 1, none⟩) (Below.setCell (p := ⟨g, k * 5, none⟩) h hg _) hg _) hg _) hg _) hg _

set_option maxHeartbeats 1000000 in
theorem roomyI (a : Option Addr) (cap : Nat) (xs : List Ins) (n : Nat) (hn : n = xs.length) (m : Ins) (w : World) (hl : ILies w a xs) (hm : n ≤ 1000) :
    Calls Tryd.prog 13 #[.slice a n cap, instV m.o m.a m.b m.n m.f] w fun e w' => ∃ g, e = .returned (.slice (some ⟨g, 0, none⟩) (n + 80) (n + 80)) ∧ Hid (w.heap.size < g) ∧ RowN w' g (xs ++ List.replicate 80 m) ∧ Below w.heap.size w w' := by
  obtain ⟨i0, hi, hz0, hz1, hz2⟩ := info_parts Tryd.info27
  have hlH := Hid.intro hl
  have hnH := Hid.intro hn
  have hI0 := Hid.intro (inst_new w m.o m.a m.b m.n m.f)
  have hw0 := Hid.intro (below_alloc w (.cells #[.int .i64 m.o, .int .i64 m.a, .int .i64 m.b, .int .i32 m.n, .int .i64 m.f] 27))
  have hsz5 : (Tryd.prog.info? 27).map (·.size) = some 5 := by kernel_rfl
  clear hl hn
  go_enter Tryd.func13, Tryd.ntmps13
  go_wp2_with (first
    | (at_make; go_must (refine wpList_make_full _ rfl (.tmp 9) (.tmp 9) 35 rfl (w.heap.size + 1) 27 i0 (.agg #[.int .i64 0, .int .i64 0, .int .i64 0, .int .i32 0, .int .i64 0]) 5 Tryd.underlying35 hi hz0 hz1 .i64 .i64 _ _ (n + 80) rfl rfl (by omega) (by omega) (by rw [hz2]; omega) (by unfold maxLen; omega) (by simp) ?_; intro w1 hown1 hgrow1; have hr1 := Hid.intro (made_rowI hown1); have hb1 : Hid (Below (w.heap.size + 1) (w.alloc (.cells #[.int .i64 m.o, .int .i64 m.a, .int .i64 m.b, .int .i32 m.n, .int .i64 m.f] 27)) w1) := (Below.refl _ _).grown hgrow1 (by simp) (fun k hk => by cases hk); clear hown1 hgrow1))
    | (refine wpList_copy_wide rfl (.tmp 11) (.tmp 12) 35 35 rfl 27 5 n Tryd.underlying35 hsz5 _ _ _ _ _ _ rfl rfl (w.heap.size + 1) (rowI (List.replicate (n + 80) ⟨0, 0, 0, 0, 0⟩)) 27 (by have := hr1.out; unfold RowN at this; simpa using this) (rowI xs) (Nat.min_eq_left (by omega)) (by rw [rowI_length, hnH.out]) (fun h0 => ⟨by simp, ilies_src hlH.out (chain2 hw0.out (hb1.out.mono (by simp))) (by have := hnH.out; omega)⟩) (by rw [rowI_length, rowI_length, List.length_replicate]; have := hnH.out; omega) (rowI_one xs) (w.heap.size + 1) _ hb1.out (Nat.le_refl _) ?_; intro w2 hg2 hb2; replace hb2 := Hid.intro hb2))
  have hR2 : Hid (RowN w2 (w.heap.size + 1) (fillI xs m (n + 80) n)) := by
    have := hg2.out
    rw [splice_rowI xs m _ (by have := hnH.out; omega)] at this
    show RowN _ _ _
    rw [hnH.out] at this ⊢
    exact this
  clear hg2 hr1 hb1
  go_loopw [6] (fun i wr => ∃ k : Nat, n ≤ k ∧ k ≤ n + 80 ∧ i = .int .i64 k ∧ Hid (RowN wr (w.heap.size + 1) (fillI xs m (n + 80) k)) ∧ Hid (Below (w.heap.size + 1) (w.alloc (.cells #[.int .i64 m.o, .int .i64 m.a, .int .i64 m.b, .int .i32 m.n, .int .i64 m.f] 27)) wr)) (fun i _ => n + 80 - (intOf i).toNat)
  case atStart => exact ⟨n, Nat.le_refl _, by omega, rfl, hR2, hb2⟩
  case round =>
    obtain ⟨k, hk0, hk, rfl, hrow, hbr⟩ := hrel
    have hk0' : Hid (xs.length ≤ k) := (show xs.length ≤ k by have := hnH.out; omega)
    by_cases hlt : k < n + 80
    · obtain ⟨y, hy⟩ : ∃ y, (fillI xs m (n + 80) k)[k]? = some y := ⟨_, List.getElem?_eq_getElem (by rw [fillI_length _ _ _ _ hk0'.out hk]; exact hlt)⟩
      obtain ⟨q0, q1, q2, q3, q4⟩ := hrow.out.at k y hy
      have qf := fun j => hrow.out.frozen j
      obtain ⟨p0, p1, p2, p3, p4, _⟩ := hI0.out.below hbr.out (by simp)
      have q5 : Hid (RowN _ (w.heap.size + 1) (fillI xs m (n + 80) (k + 1))) := (by
        have := hrow.out.set k (by rw [fillI_length _ _ _ _ hk0'.out hk]; exact hlt) m
        rwa [fillI_set xs m _ k hk0'.out hlt] at this)
      have q6 := Hid.intro (below_set5 (k := k) hbr.out (Nat.le_refl _) (.int .i64 m.o) (.int .i64 m.a) (.int .i64 m.b) (.int .i32 m.n) (.int .i64 m.f))
      clear hy
      go_wp2
      all_goals first | omega | skip
      go_roundw
      case rel => exact ⟨k + 1, by omega, by omega, by go_num, q5, q6⟩
      case measure => simp [intOf]; omega
    · have e : k = n + 80 := by omega
      subst e
      go_wp2
      all_goals first | omega | skip
      go_ret
      refine ⟨_, rfl, (show w.heap.size < w.heap.size + 1 by omega), ?_, chain2 hw0.out (hbr.out.mono (by simp))⟩
      have := hrow.out
      have e2 : fillI xs m (n + 80) (n + 80) = xs ++ List.replicate 80 m := by
        have := hnH.out
        simp [fillI, this]
      rw [e2] at this
      exact this

theorem ILies.drewN {w : World} {a : Option Addr} {xs : List Ins} (h : ILies w a xs) (n : Nat) : ILies (w.drewN n) a xs := by
  refine ⟨h.1, ?_⟩
  rcases h.2 with h | ⟨g, off, ha, hc⟩
  · exact .inl h
  · exact .inr ⟨g, off, ha, fun i x hx => by
      obtain ⟨h0, h1, h2, h3, h4⟩ := hc i x hx
      exact ⟨h0, h1, h2, h3, h4⟩⟩

set_option maxHeartbeats 1000000 in
theorem intactI (a : Option Addr) (g cap : Nat) (xs : List Ins) (n : Nat) (hn : n = xs.length) (m : Ins) (w : World) (hl : ILies w a xs) (hr : RowN w g (xs ++ List.replicate 80 m)) (hm : n ≤ 1000) :
    Calls Tryd.prog 14 #[.slice (some ⟨g, 0, none⟩) (n + 80) (n + 80), .slice a n cap, instV m.o m.a m.b m.n m.f] w fun e w' => e = .returned (.bool true) ∧ Below w.heap.size w w' := by
  have hI0 := Hid.intro (inst_new w m.o m.a m.b m.n m.f)
  have hw0 := Hid.intro (below_alloc w (.cells #[.int .i64 m.o, .int .i64 m.a, .int .i64 m.b, .int .i32 m.n, .int .i64 m.f] 27))
  have hs := Hid.intro (fun c => sameI (some ⟨g, 0, none⟩) a c cap xs n hn _ ((hr.lies hl.1).below hw0.out) (hl.below hw0.out) hm)
  have hr0 := Hid.intro (hr.below hw0.out hr.lt)
  have hnH := Hid.intro hn
  clear hl hr hn
  go_enter Tryd.func14, Tryd.ntmps14
  go_wp2_with (go_at_call 28; refine (hs.out _).mono ?_; rintro e w1 ⟨rfl, q0, rfl⟩)
  all_goals first | omega | skip
  go_loopw [7] (fun i wr => ∃ k q : Nat, n ≤ k ∧ k ≤ n + 80 ∧ i = .int .i64 k ∧ wr = (w.alloc (.cells #[.int .i64 m.o, .int .i64 m.a, .int .i64 m.b, .int .i32 m.n, .int .i64 m.f] 27)).drewN q) (fun i _ => n + 80 - (intOf i).toNat)
  case atStart => exact ⟨n, q0, Nat.le_refl _, by omega, rfl, rfl⟩
  case round =>
    obtain ⟨k, q, hk0, hk, rfl, rfl⟩ := hrel
    by_cases hlt : k < n + 80
    · have hx : (xs ++ List.replicate 80 m)[k]? = some m := by
        have := hnH.out
        rw [List.getElem?_append_right (by omega), List.getElem?_replicate_of_lt (by omega)]
      obtain ⟨r0, r1, r2, r3, r4⟩ := hr0.out.at k m hx
      obtain ⟨p0, p1, p2, p3, p4, _⟩ := hI0.out
      have hb1 : (k : Int) < (n : Int) + 80 := by omega
      clear hx
      go_wp2
      go_quiet (fail)
      go_wp2
      all_goals first | omega | skip
      go_roundw
      case rel => exact ⟨k + 1, q + nq, by omega, by omega, by go_num, by simp⟩
      case measure => simp [intOf]; omega
    · go_wp2
      all_goals first | omega | skip
      go_ret
      exact ⟨rfl, below_drewN hw0.out _⟩
end Go.Proofs.YtmpckkogllnkkaaDoor

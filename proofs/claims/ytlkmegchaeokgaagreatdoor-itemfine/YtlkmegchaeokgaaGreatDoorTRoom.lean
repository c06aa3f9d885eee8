/- book.Same, Roomy and Intact over the program's tokens. -/
import Derived.Test.YtlkmegchaeokgaaGreatDoorKnown
import Derived.Test.YtlkmegchaeokgaaGreatDoorQuietB
import Derived.Deep.QuietTactic
import Derived.BigQuiet
import Derived.WalkSmall
import Derived.WalkSpells
import Derived.Laws.CopyOwn
namespace Go.Proofs.YtlkmegchaeokgaaGreatDoor
open Go.ChangeShapes Go.WideShapes Go.ChangeAt Go.RowKit
set_option linter.unusedVariables false
set_option maxRecDepth 100000

theorem cell_blockT {w : World} {b : Nat} {cs : Array Value} {t : TypeId} {z : _} (h : w.heap[b]? = some (.cells cs t z)) (j : Nat) : w.cell? ⟨b, j, none⟩ = cs[j]? := by
  unfold World.cell?
  rw [h]
  rfl
theorem flat_atT {α β : Type} (f : α → List β) (k : Nat) (hf : ∀ x, (f x).length = k) : ∀ (l : List α) (i j : Nat) (x : α), l[i]? = some x → j < k → (l.flatMap f)[i * k + j]? = (f x)[j]?
  | [], i, j, x, h, hj => by simp at h
  | y :: l, 0, j, x, h, hj => by
    simp only [List.getElem?_cons_zero, Option.some.injEq] at h
    subst h
    rw [List.flatMap_cons, Nat.zero_mul, Nat.zero_add, List.getElem?_append_left (by rw [hf]; exact hj)]
  | y :: l, i + 1, j, x, h, hj => by
    rw [List.flatMap_cons, List.getElem?_append_right (by rw [hf, Nat.succ_mul]; omega), hf, show (i + 1) * k + j - k = i * k + j by rw [Nat.succ_mul]; omega]
    exact flat_atT f k hf l i j x (by simpa using h) hj

/-- at block g, from place off on, lies t -/
structure TkAt (w : World) (g off : Nat) (t : Tok) : Prop where
  o : w.cell? ⟨g, off, none⟩ = some (.int .i64 t.kind)
  a : w.cell? ⟨g, off + 1, none⟩ = some (.string (str t.text))
  b : w.cell? ⟨g, off + 2, none⟩ = some (.int .u32 t.num)
  n : w.cell? ⟨g, off + 3, none⟩ = some (.int .i64 (t.place : Int))
theorem TkAt.lt {w : World} {g off : Nat} {x : Tok} (h : TkAt w g off x) : g < w.heap.size := World.block_lt_of_cell? w _ h.o
theorem TkAt.below {w w' : World} {g off B : Nat} {x : Tok} (h : TkAt w g off x) (hb : Below B w w') (hB : g < B) : TkAt w' g off x :=
  ⟨(hb.cell (p := ⟨g, off, none⟩) hB).trans h.o, (hb.cell (p := ⟨g, off + 1, none⟩) hB).trans h.a, (hb.cell (p := ⟨g, off + 2, none⟩) hB).trans h.b, (hb.cell (p := ⟨g, off + 3, none⟩) hB).trans h.n⟩
/-- the tokens ts lie in w from a on -/
def TLies (w : World) (a : Option Addr) (xs : List Tok) : Prop := xs = [] ∨ ∃ g off, a = some ⟨g, off, none⟩ ∧ ∀ i x, xs[i]? = some x → TkAt w g (off + i * 4) x
theorem TLies.below {w w' : World} {a : Option Addr} {xs : List Tok} (h : TLies w a xs) (hb : Below w.heap.size w w') : TLies w' a xs := by
  rcases h with h | ⟨g, off, ha, hc⟩
  · exact .inl h
  · exact .inr ⟨g, off, ha, fun i x hx => (hc i x hx).below hb (hc i x hx).lt⟩
abbrev tokV (t : Tok) : Value := .agg #[.int .i64 t.kind, .string (str t.text), .int .u32 t.num, .int .i64 (t.place : Int)]
theorem tk_new (w : World) (t : Tok) : TkAt (w.alloc (.cells #[.int .i64 t.kind, .string (str t.text), .int .u32 t.num, .int .i64 (t.place : Int)] 64)) w.heap.size 0 t :=
  ⟨(cell_blockT (heap_alloc_new w _) 0).trans rfl, (cell_blockT (heap_alloc_new w _) 1).trans rfl, (cell_blockT (heap_alloc_new w _) 2).trans rfl, (cell_blockT (heap_alloc_new w _) 3).trans rfl⟩

theorem sameT (a1 a2 : Option Addr) (c1 c2 : Nat) (xs : List Tok) (n0 : Nat) (hn0 : n0 = xs.length) (w : World) (h1 : TLies w a1 xs) (h2 : TLies w a2 xs) (hm : n0 ≤ 1000) :
    Calls Tryz.prog 20 #[.slice a1 n0 c1, .slice a2 n0 c2] w fun e w' => e = .returned (.bool true) ∧ ∃ n, w' = w.drewN n := by
  by_cases h0 : n0 = 0
  · subst h0
    go_enter Tryz.func20, Tryz.ntmps20
    go_wp2
    go_loop [5] (fun i => i = .int .i64 0) (fun _ => 0)
    case atStart => rfl
    case round =>
      subst hrel
      go_wp2
      go_ret
      exact ⟨rfl, 0, rfl⟩
  · rcases h1 with rfl | ⟨g1, o1, rfl, hc1⟩
    · simp at hn0; omega
    · rcases h2 with rfl | ⟨g2, o2, rfl, hc2⟩
      · simp at hn0; omega
      · have hH1 := Hid.intro hc1
        have hH2 := Hid.intro hc2
        have hnH := Hid.intro hn0
        clear hc1 hc2 hn0
        go_enter Tryz.func20, Tryz.ntmps20
        go_wp2
        go_loopw [5] (fun i wr => ∃ k n : Nat, k ≤ n0 ∧ i = .int .i64 k ∧ wr = w.drewN n) (fun i _ => n0 - (intOf i).toNat)
        case atStart => exact ⟨0, 0, Nat.zero_le _, rfl, rfl⟩
        case round =>
          obtain ⟨k, n, hk, rfl, rfl⟩ := hrel
          by_cases hlt : k < n0
          · obtain ⟨t, ht⟩ : ∃ t, xs[k]? = some t := ⟨xs[k]'(by rw [← hnH.out]; exact hlt), List.getElem?_eq_getElem _⟩
            obtain ⟨q0, q1, q2, q3⟩ := hH1.out k t ht
            obtain ⟨p0, p1, p2, p3⟩ := hH2.out k t ht
            clear ht
            go_wp2
            go_quiet (fail)
            go_wp2
            all_goals first
              | omega
              | skip
            go_roundw
            case rel => exact ⟨k + 1, n + nq, by omega, by go_num, by simp⟩
            case measure => simp [intOf]; omega
          · go_wp2
            all_goals first
              | omega
              | (go_ret; exact ⟨rfl, n, rfl⟩)

section
variable {P : Program}
/-- copy of elements of S cells -/
theorem run_copy_wide (w : World) (dT sT ty elem : TypeId) (g o dLen dCap : Nat) (a : Addr) (sLen sCap : Nat) (cur : Array Value) (t : TypeId) (cs : List Value) (S n : Nat)
    (hu : P.underlying dT = some (.slice elem)) (hs : (P.info? elem).map (·.size) = some S)
    (hg : w.heap[g]? = some (.cells cur t (0, 0))) (hmin : Nat.min sLen dLen = n) (hn : cs.length = n * S)
    (hsrc : ∀ j v, cs[j]? = some v → w.cell? (a.add j) = some v) (hfit : o + cs.length ≤ cur.size) (h1 : ∀ v ∈ cs, v.oneCell' = true) :
    (Builtin.copy_ #[dT, sT] ty #[.slice (some ⟨g, o, none⟩) dLen dCap, .slice (some a) sLen sCap]).run P w =
      .ok (goInt n) (w.setRow g (cur.toList.take o ++ cs ++ cur.toList.drop (o + cs.length)).toArray) := by
  have hl := run_loadCells_list (P := P) w a cs hsrc
  have hst := run_storeCells_at P g o t cs 0 cur w hg (by simpa using hfit) h1
  cases hq : P.info? elem with
  | none => simp [hq] at hs
  | some i =>
    have hi : i.size = S := by simpa [hq] using hs
    simp [Builtin.copy_, run_underlying hu, Builtin.lenOf, Builtin.firstCells, sizeOf, typeInfo, hq, hi, hmin, ← hn, hl, hst]
theorem run_copy_nothing (w : World) (dT sT ty elem : TypeId) (d a : Option Addr) (dLen dCap sLen sCap S : Nat) (hu : P.underlying dT = some (.slice elem)) (hs : (P.info? elem).map (·.size) = some S) (hn : Nat.min sLen dLen = 0) :
    (Builtin.copy_ #[dT, sT] ty #[.slice d dLen dCap, .slice a sLen sCap]).run P w = .ok (goInt 0) w := by
  cases hq : P.info? elem with
  | none => simp [hq] at hs
  | some i =>
    have hl : ∀ (x : Addr), (loadCells x 0).run P w = .ok #[] w := fun x => by simpa using run_loadCells_list (P := P) w x [] (by simp)
    cases d <;> cases a <;> simp [Builtin.copy_, run_underlying hu, Builtin.lenOf, Builtin.firstCells, sizeOf, typeInfo, hq, hn, storeCells, hl]

theorem wpList_copy_wide {w : World} {ops : Array Oper} {rest : List Oper} {o : Oper} {a : Act} {Q : Exit → Act → World → Prop} (hgd : o.guard = none) (d s : Operand) (dT sT : TypeId)
    (ho : o.op = .call { callee := .builtin .copy, args := #[d, s], argTypes := #[dT, sT] }) (elem : TypeId) (S n : Nat) (hu : P.underlying dT = some (.slice elem)) (hsz : (P.info? elem).map (·.size) = some S)
    (dp sp : Option Addr) (dLen dCap sLen sCap : Nat) (hd : a.eval d = .slice dp dLen dCap) (hs : a.eval s = .slice sp sLen sCap)
    (g : Nat) (cur : List Value) (t : TypeId) (hg : w.heap[g]? = some (.cells cur.toArray t (0, 0))) (cs : List Value) (hmin : Nat.min sLen dLen = n) (hn : cs.length = n * S)
    (hpos : 0 < n → dp = some ⟨g, 0, none⟩ ∧ ∃ ad, sp = some ad ∧ ∀ j v, cs[j]? = some v → w.cell? (ad.add j) = some v)
    (hfit : cs.length ≤ cur.length) (h1 : ∀ v ∈ cs, v.oneCell' = true) (B : Nat) (w0 : World) (hb : Below B w0 w) (hBg : B ≤ g)
    (h : ∀ w', Hid (w'.heap[g]? = some (.cells (splice cur 0 cs).toArray t (0, 0))) → Below B w0 w' → wpList P ops Q rest (a.put o.dst (goInt n)) w') :
    wpList P ops Q (o :: rest) a w := by
  refine wpList_plain hgd fun K hK => ?_
  by_cases h0 : n = 0
  · subst h0
    obtain rfl : cs = [] := List.eq_nil_of_length_eq_zero (by rw [hn, Nat.zero_mul])
    have hrun := run_copy_nothing (P := P) w dT sT o.type elem dp sp dLen dCap sLen sCap S hu hsz hmin
    unfold Oper.wp
    simp [execOp, ho, resolve, invoke, builtin, hd, hs, hrun, Result.andThen]
    exact hK _ _ (h w (show _ = _ by simpa [splice] using hg) hb)
  · obtain ⟨rfl, ad, rfl, hsrc⟩ := hpos (by omega)
    have hrun := run_copy_wide (P := P) w dT sT o.type elem g 0 dLen dCap ad sLen sCap cur.toArray t cs S n hu hsz hg hmin hn hsrc (by simpa using hfit) h1
    unfold Oper.wp
    simp [execOp, ho, resolve, invoke, builtin, hd, hs, hrun, Result.andThen]
    exact hK _ _ (h _ (show _ = _ by simpa [splice] using setRow_heap w g _ _ t _ hg) (below_setRow hb hBg _))
end

def rowK (xs : List Tok) : List Value := xs.flatMap Tok.cells
theorem rowK_length (xs : List Tok) : (rowK xs).length = xs.length * 4 := by
  induction xs with
  | nil => rfl
  | cons x xs ih =>
    have hx : rowK (x :: xs) = x.cells ++ rowK xs := by simp [rowK]
    have hl : x.cells.length = 4 := rfl
    rw [hx, List.length_append, ih, hl, List.length_cons]
    omega
theorem rowK_get (xs : List Tok) (i j : Nat) (x : Tok) (hi : xs[i]? = some x) (hj : j < 4) : (rowK xs)[i * 4 + j]? = x.cells[j]? := flat_atT Tok.cells 4 (fun _ => rfl) xs i j x hi hj
theorem rowK_one (xs : List Tok) : ∀ v ∈ rowK xs, v.oneCell' = true := by
  intro v hv
  simp only [rowK, List.mem_flatMap] at hv
  obtain ⟨x, _, hx⟩ := hv
  simp only [Tok.cells, List.mem_cons, List.not_mem_nil, or_false] at hx
  rcases hx with rfl | rfl | rfl | rfl <;> rfl

/-- block g of w is a row that holds just the instructions xs -/
def RowK2 (w : World) (g : Nat) (xs : List Tok) : Prop := w.heap[g]? = some (.cells (rowK xs).toArray 64 (0, 0))
theorem RowK2.at {w : World} {g : Nat} {xs : List Tok} (h : RowK2 w g xs) (i : Nat) (x : Tok) (hi : xs[i]? = some x) : TkAt w g (i * 4) x := by
  have key : ∀ j, j < 4 → w.cell? ⟨g, i * 4 + j, none⟩ = x.cells[j]? := fun j hj => by rw [cell_blockT h, List.getElem?_toArray, rowK_get xs i j x hi hj]
  exact ⟨(key 0 (by omega)).trans rfl, (key 1 (by omega)).trans rfl, (key 2 (by omega)).trans rfl, (key 3 (by omega)).trans rfl⟩
theorem RowK2.lt {w : World} {g : Nat} {xs : List Tok} (h : RowK2 w g xs) : g < w.heap.size := (Array.getElem?_eq_some_iff.1 h).1
theorem RowK2.below {w w' : World} {g B : Nat} {xs : List Tok} (h : RowK2 w g xs) (hb : Below B w w') (hg : g < B) : RowK2 w' g xs := by
  unfold RowK2 at h ⊢
  rw [hb.block g hg, h]
theorem RowK2.frozen {w : World} {g : Nat} {xs : List Tok} (h : RowK2 w g xs) (i : Nat) : w.frozen? ⟨g, i, none⟩ = false := frozen_of_row w g i _ 64 h
theorem RowK2.lies {w : World} {g : Nat} {xs ys : List Tok} (h : RowK2 w g (xs ++ ys)) : TLies w (some ⟨g, 0, none⟩) xs :=
  .inr ⟨g, 0, rfl, fun i x hx => by
    have hl := (List.getElem?_eq_some_iff.1 hx).1
    have := h.at i x (by rw [List.getElem?_append_left hl]; exact hx)
    rwa [Nat.zero_add]⟩

theorem setT (xs : List Tok) (k : Nat) (hk : k < xs.length) (y : Tok) : ((((rowK xs).set (k * 4) (.int .i64 y.kind)).set (k * 4 + 1) (.string (str y.text))).set (k * 4 + 2) (.int .u32 y.num)).set (k * 4 + 3) (.int .i64 (y.place : Int)) = rowK (xs.set k y) := by
  induction xs generalizing k with
  | nil => simp at hk
  | cons x xs ih =>
    have hx : ∀ z zs, rowK (z :: zs) = z.cells ++ rowK zs := fun z zs => by simp [rowK]
    cases k with
    | zero =>
      rw [List.set_cons_zero, hx, hx]
      rfl
    | succ k =>
      rw [List.set_cons_succ, hx, hx, ← ih k (by simpa using hk)]
      have hl : x.cells.length = 4 := rfl
      have e : ∀ (L : List Value) (j : Nat) (v : Value), (x.cells ++ L).set ((k + 1) * 4 + j) v = x.cells ++ L.set (k * 4 + j) v := fun L j v => by
        rw [List.set_append_right _ _ (by rw [hl]; omega), hl, show (k + 1) * 4 + j - 4 = k * 4 + j by omega]
      have e0 := e (rowK xs) 0 (.int .i64 y.kind)
      rw [Nat.add_zero, Nat.add_zero] at e0
      rw [e0, e, e, e]
      rfl
theorem RowK2.set {w : World} {g : Nat} {xs : List Tok} (h : RowK2 w g xs) (k : Nat) (hk : k < xs.length) (y : Tok) :
    RowK2 ((((w.setCell ⟨g, k * 4, none⟩ (.int .i64 y.kind)).setCell ⟨g, k * 4 + 1, none⟩ (.string (str y.text))).setCell ⟨g, k * 4 + 2, none⟩ (.int .u32 y.num)).setCell ⟨g, k * 4 + 3, none⟩ (.int .i64 (y.place : Int))) g (xs.set k y) := by
  have h1 := heap_setCell_same w g (k * 4) _ 64 (.int .i64 y.kind) h
  have h2 := heap_setCell_same _ g (k * 4 + 1) _ 64 (.string (str y.text)) h1
  have h3 := heap_setCell_same _ g (k * 4 + 2) _ 64 (.int .u32 y.num) h2
  have h4 := heap_setCell_same _ g (k * 4 + 3) _ 64 (.int .i64 (y.place : Int)) h3
  unfold RowK2
  rw [h4, ← setT xs k hk y]
  simp

/-- a row of N instructions: xs, then marks up to place k, then noughts -/
def fillT (xs : List Tok) (m : Tok) (N k : Nat) : List Tok := xs ++ List.replicate (k - xs.length) m ++ List.replicate (N - k) ⟨0, [], 0, 0⟩
theorem fillT_length (xs : List Tok) (m : Tok) (N k : Nat) (h : xs.length ≤ k) (hk : k ≤ N) : (fillT xs m N k).length = N := by simp [fillT]; omega
theorem fillT_set (xs : List Tok) (m : Tok) (N k : Nat) (h : xs.length ≤ k) (hk : k < N) : (fillT xs m N k).set k m = fillT xs m N (k + 1) := by
  unfold fillT
  rw [List.set_append_right _ _ (by simp; omega)]
  have e1 : k - (xs ++ List.replicate (k - xs.length) m).length = 0 := by simp; omega
  obtain ⟨j, hj⟩ : ∃ j, N - k = j + 1 := ⟨N - k - 1, by omega⟩
  have hj' : N - (k + 1) = j := by omega
  rw [e1, hj, hj', List.replicate_succ, List.set_cons_zero, show k + 1 - xs.length = (k - xs.length) + 1 by omega, List.replicate_succ']
  simp

theorem infoTk : (Tryz.prog.info? 64).map (fun i => (i.zero, i.size, i.bytes)) = some (some (.agg #[.int .i64 0, .string ⟨#[]⟩, .int .u32 0, .int .i64 0]), 4, 40) := by kernel_rfl

theorem made_cellsT (n : Nat) : (madeCells (Value.agg #[.int .i64 0, .string ⟨#[]⟩, .int .u32 0, .int .i64 0]).cells (n * 4)).toList = rowK (List.replicate n ⟨0, [], 0, 0⟩) := by
  apply List.ext_getElem?
  intro j
  by_cases hj : j < n * 4
  · obtain ⟨i, k, hk, rfl⟩ : ∃ i k, k < 4 ∧ j = i * 4 + k := ⟨j / 4, j % 4, Nat.mod_lt _ (by omega), by omega⟩
    have hi : i < n := by omega
    rw [rowK_get _ i k ⟨0, [], 0, 0⟩ (by rw [List.getElem?_replicate_of_lt hi]) hk]
    have hm : (i * 4 + k) % 4 = k := by omega
    have hg : ∀ (Z : Array Value) (N j : Nat), j < N → (madeCells Z N).toList[j]? = some (Z[j % Z.size]!) := fun Z N j h => by simp [madeCells, h]
    rw [hg _ _ _ hj]
    have hs : (Value.agg #[.int .i64 0, .string ⟨#[]⟩, .int .u32 0, .int .i64 0]).cells.size = 4 := rfl
    rw [hs, hm]
    have : k = 0 ∨ k = 1 ∨ k = 2 ∨ k = 3 := by omega
    rcases this with rfl | rfl | rfl | rfl <;> rfl
  · rw [List.getElem?_eq_none (by simp [madeCells]; omega), List.getElem?_eq_none (by rw [rowK_length]; simp; omega)]

theorem made_rowK {w : World} {base g n : Nat} (h : w.ownsRow base 64 4 (.slice (some ⟨g, 0, none⟩) n n) n (madeCells (Value.agg #[.int .i64 0, .string ⟨#[]⟩, .int .u32 0, .int .i64 0]).cells (n * 4)).toList) : RowK2 w g (List.replicate n ⟨0, [], 0, 0⟩) := by
  rcases h.2 with ⟨h', _⟩ | ⟨g', cap', cur, h', _, hg, _, _, hs, ht⟩
  · simp at h'
  · simp only [Value.slice.injEq, Option.some.injEq, Addr.mk.injEq, and_true, true_and] at h'
    obtain ⟨rfl, rfl⟩ := h'
    unfold RowK2
    rw [hg]
    have e : cur.toList = rowK (List.replicate n ⟨0, [], 0, 0⟩) := by
      rw [List.take_of_length_le (by simpa using Nat.le_of_eq hs)] at ht
      rw [ht, made_cellsT]
    rw [← e]

theorem tlies_src {w : World} {a : Option Addr} {xs : List Tok} (hl : TLies w a xs) {w1 : World} (hb : Below w.heap.size w w1) (h0 : 0 < xs.length) :
    ∃ ad, a = some ad ∧ ∀ j v, (rowK xs)[j]? = some v → w1.cell? (ad.add j) = some v := by
  rcases hl with rfl | ⟨g, off, rfl, hc⟩
  · simp at h0
  · refine ⟨_, rfl, fun j v hj => ?_⟩
    have hlt : j < xs.length * 4 := by
      have := (List.getElem?_eq_some_iff.1 hj).1
      rwa [rowK_length] at this
    obtain ⟨i, k, hk, rfl⟩ : ∃ i k, k < 4 ∧ j = i * 4 + k := ⟨j / 4, j % 4, Nat.mod_lt _ (by omega), by omega⟩
    obtain ⟨x, hx⟩ : ∃ x, xs[i]? = some x := ⟨_, List.getElem?_eq_getElem (by omega)⟩
    have hI := (hc i x hx).below hb (hc i x hx).lt
    rw [rowK_get xs i k x hx hk] at hj
    rw [show (⟨g, off, none⟩ : Addr).add (i * 4 + k) = ⟨g, off + i * 4 + k, none⟩ by unfold Addr.add; split <;> simp_all [Nat.add_assoc], ← hj]
    have : k = 0 ∨ k = 1 ∨ k = 2 ∨ k = 3 := by omega
    rcases this with rfl | rfl | rfl | rfl
    · exact hI.o
    · exact hI.a
    · exact hI.b
    · exact hI.n

theorem splice_rowK (xs : List Tok) (m : Tok) (N : Nat) (h : xs.length ≤ N) : splice (rowK (List.replicate N ⟨0, [], 0, 0⟩)) 0 (rowK xs) = rowK (fillT xs m N xs.length) := by
  have e1 : fillT xs m N xs.length = xs ++ List.replicate (N - xs.length) ⟨0, [], 0, 0⟩ := by simp [fillT]
  have e2 : ∀ ys zs, rowK (ys ++ zs) = rowK ys ++ rowK zs := fun ys zs => by simp [rowK]
  have e3 : List.replicate N (⟨0, [], 0, 0⟩ : Tok) = List.replicate xs.length ⟨0, [], 0, 0⟩ ++ List.replicate (N - xs.length) ⟨0, [], 0, 0⟩ := by rw [List.replicate_append_replicate]; congr 1; omega
  have hl : (rowK (List.replicate xs.length ⟨0, [], 0, 0⟩)).length = (rowK xs).length := by rw [rowK_length, rowK_length, List.length_replicate]
  rw [e1, e2, splice, e3, e2, List.take_zero, List.nil_append, Nat.zero_add, ← hl, List.drop_left]

theorem below_set4t {w w' : World} {B g k : Nat} (h : Below B w w') (hg : B ≤ g) (v0 v1 v2 v3 : Value) : Below B w ((((w'.setCell ⟨g, k * 4, none⟩ v0).setCell ⟨g, k * 4 + 1, none⟩ v1).setCell ⟨g, k * 4 + 2, none⟩ v2).setCell ⟨g, k * 4 + 3, none⟩ v3) :=
  Below.setCell (p := ⟨g, k * 4 + 3, none⟩) (Below.setCell (p := ⟨g, k * 4 + 2, none⟩) (Below.setCell (p := ⟨g, k * 4 + 1, none⟩) (Below.setCell (p := ⟨g, k * 4, none⟩) h hg _) hg _) hg _) hg _
theorem chainT {w w1 w2 : World} (a : Below w.heap.size w w1) (b : Below w1.heap.size w1 w2) : Below w.heap.size w w2 := a.trans (b.mono a.size)
theorem belT (w : World) (o : Obj) : Below w.heap.size w (w.alloc o) := (Below.refl _ w).alloc (Nat.le_refl _) o

end Go.Proofs.YtlkmegchaeokgaaGreatDoor

/- book.Same, Roomy and Intact over terms. -/
import Derived.Test.YtijdjljnppkhmabDoorConcat
import Derived.Test.YtijdjljnppkhmabDoorQuietB
import Derived.Deep.QuietTactic
import Derived.BigQuiet
import Derived.WalkSmall
import Derived.WalkSpells
import Derived.Laws.CopyOwn
namespace Go.Proofs.YtijdjljnppkhmabDoor
open Go.ChangeShapes Go.WideShapes Go.ChangeAt Go.RowKit
set_option linter.unusedVariables false
set_option maxRecDepth 100000

theorem cell_blockT {w : World} {b : Nat} {cs : Array Value} {t : TypeId} {z : _} (h : w.heap[b]? = some (.cells cs t z)) (j : Nat) : w.cell? ⟨b, j, none⟩ = cs[j]? := by
  unfold World.cell?
  rw [h]
  rfl
theorem TmAt.lt {w : World} {g off : Nat} {x : Tm} (h : TmAt w g off x) : g < w.heap.size := World.block_lt_of_cell? w _ h.name
abbrev termV (t : Tm) : Value := .agg #[.string (str t.name), .int .u32 t.coef]
theorem tk_new (w : World) (t : Tm) : TmAt (w.alloc (.cells #[.string (str t.name), .int .u32 t.coef] 30)) w.heap.size 0 t :=
  ⟨(cell_blockT (heap_alloc_new w _) 0).trans rfl, (cell_blockT (heap_alloc_new w _) 1).trans rfl⟩
theorem TmLies.belowM {w w' : World} {a : Option Addr} {xs : List Tm} (h : TmLies w a xs) (hb : Below w.heap.size w w') : TmLies w' a xs := h.below hb (Nat.le_refl _)

theorem sameT (a1 a2 : Option Addr) (c1 c2 : Nat) (xs : List Tm) (n0 : Nat) (hn0 : n0 = xs.length) (w : World) (h1 : TmLies w a1 xs) (h2 : TmLies w a2 xs) (hm : n0 ≤ 9000000) :
    Calls Tryd.prog 22 #[.slice a1 n0 c1, .slice a2 n0 c2] w fun e w' => e = .returned (.bool true) ∧ ∃ n, w' = w.drewN n := by
  by_cases h0 : n0 = 0
  · subst h0
    go_enter Tryd.func22, Tryd.ntmps22
    go_wp2
    go_loop [5] (fun i => i = .int .i64 0) (fun _ => 0)
    case atStart => rfl
    case round =>
      subst hrel
      go_wp2
      go_ret
      exact ⟨rfl, 0, rfl⟩
  · rcases h1 with rfl | ⟨g1, o1, rfl, _, hc1⟩
    · simp at hn0; omega
    · rcases h2 with rfl | ⟨g2, o2, rfl, _, hc2⟩
      · simp at hn0; omega
      · have hH1 := Hid.intro hc1
        have hH2 := Hid.intro hc2
        have hnH := Hid.intro hn0
        clear hc1 hc2 hn0
        go_enter Tryd.func22, Tryd.ntmps22
        go_wp2
        go_loopw [5] (fun i wr => ∃ k n : Nat, k ≤ n0 ∧ i = .int .i64 k ∧ wr = w.drewN n) (fun i _ => n0 - (intOf i).toNat)
        case atStart => exact ⟨0, 0, Nat.zero_le _, rfl, rfl⟩
        case round =>
          obtain ⟨k, n, hk, rfl, rfl⟩ := hrel
          by_cases hlt : k < n0
          · obtain ⟨t, ht⟩ : ∃ t, xs[k]? = some t := ⟨xs[k]'(by rw [← hnH.out]; exact hlt), List.getElem?_eq_getElem _⟩
            obtain ⟨q0, q1⟩ := hH1.out k t ht
            obtain ⟨p0, p1⟩ := hH2.out k t ht
            clear ht
            go_wp2
            go_quiet (fail)
            go_wp2
            all_goals first
              | omega
              | skip
            go_roundw
            case rel => exact ⟨k + 1, n + nq, by omega, by go_num, by simp⟩
            case measure => simp [intOf]; omega
          · go_wp2
            all_goals first
              | omega
              | (go_ret; exact ⟨rfl, n, rfl⟩)

section
variable {P : Program}
/-- copy of elements of S cells -/
theorem run_copy_wide (w : World) (dT sT ty elem : TypeId) (g o dLen dCap : Nat) (a : Addr) (sLen sCap : Nat) (cur : Array Value) (t : TypeId) (cs : List Value) (S n : Nat)
    (hu : P.underlying dT = some (.slice elem)) (hs : (P.info? elem).map (·.size) = some S)
    (hg : w.heap[g]? = some (.cells cur t (0, 0))) (hmin : Nat.min sLen dLen = n) (hn : cs.length = n * S)
    (hsrc : ∀ j v, cs[j]? = some v → w.cell? (a.add j) = some v) (hfit : o + cs.length ≤ cur.size) (h1 : ∀ v ∈ cs, v.oneCell' = true) :
    (Builtin.copy_ #[dT, sT] ty #[.slice (some ⟨g, o, none⟩) dLen dCap, .slice (some a) sLen sCap]).run P w =
      .ok (goInt n) (w.setRow g (cur.toList.take o ++ cs ++ cur.toList.drop (o + cs.length)).toArray) := by
  have hl := run_loadCells_list (P := P) w a cs hsrc
  have hst := run_storeCells_at P g o t cs 0 cur w hg (by simpa using hfit) h1
  cases hq : P.info? elem with
  | none => simp [hq] at hs
  | some i =>
    have hi : i.size = S := by simpa [hq] using hs
    simp [Builtin.copy_, run_underlying hu, Builtin.lenOf, Builtin.firstCells, sizeOf, typeInfo, hq, hi, hmin, ← hn, hl, hst]
theorem run_copy_nothing (w : World) (dT sT ty elem : TypeId) (d a : Option Addr) (dLen dCap sLen sCap S : Nat) (hu : P.underlying dT = some (.slice elem)) (hs : (P.info? elem).map (·.size) = some S) (hn : Nat.min sLen dLen = 0) :
    (Builtin.copy_ #[dT, sT] ty #[.slice d dLen dCap, .slice a sLen sCap]).run P w = .ok (goInt 0) w := by
  cases hq : P.info? elem with
  | none => simp [hq] at hs
  | some i =>
    have hl : ∀ (x : Addr), (loadCells x 0).run P w = .ok #[] w := fun x => by simpa using run_loadCells_list (P := P) w x [] (by simp)
    cases d <;> cases a <;> simp [Builtin.copy_, run_underlying hu, Builtin.lenOf, Builtin.firstCells, sizeOf, typeInfo, hq, hn, storeCells, hl]

theorem wpList_copy_wide {w : World} {ops : Array Oper} {rest : List Oper} {o : Oper} {a : Act} {Q : Exit → Act → World → Prop} (hgd : o.guard = none) (d s : Operand) (dT sT : TypeId)
    (ho : o.op = .call { callee := .builtin .copy, args := #[d, s], argTypes := #[dT, sT] }) (elem : TypeId) (S n : Nat) (hu : P.underlying dT = some (.slice elem)) (hsz : (P.info? elem).map (·.size) = some S)
    (dp sp : Option Addr) (dLen dCap sLen sCap : Nat) (hd : a.eval d = .slice dp dLen dCap) (hs : a.eval s = .slice sp sLen sCap)
    (g : Nat) (cur : List Value) (t : TypeId) (hg : w.heap[g]? = some (.cells cur.toArray t (0, 0))) (cs : List Value) (hmin : Nat.min sLen dLen = n) (hn : cs.length = n * S)
    (hpos : 0 < n → dp = some ⟨g, 0, none⟩ ∧ ∃ ad, sp = some ad ∧ ∀ j v, cs[j]? = some v → w.cell? (ad.add j) = some v)
    (hfit : cs.length ≤ cur.length) (h1 : ∀ v ∈ cs, v.oneCell' = true) (B : Nat) (w0 : World) (hb : Below B w0 w) (hBg : B ≤ g)
    (h : ∀ w', Hid (w'.heap[g]? = some (.cells (splice cur 0 cs).toArray t (0, 0))) → Below B w0 w' → wpList P ops Q rest (a.put o.dst (goInt n)) w') :
    wpList P ops Q (o :: rest) a w := by
  refine wpList_plain hgd fun K hK => ?_
  by_cases h0 : n = 0
  · subst h0
    obtain rfl : cs = [] := List.eq_nil_of_length_eq_zero (by rw [hn, Nat.zero_mul])
    have hrun := run_copy_nothing (P := P) w dT sT o.type elem dp sp dLen dCap sLen sCap S hu hsz hmin
    unfold Oper.wp
    simp [execOp, ho, resolve, invoke, builtin, hd, hs, hrun, Result.andThen]
    exact hK _ _ (h w (show _ = _ by simpa [splice] using hg) hb)
  · obtain ⟨rfl, ad, rfl, hsrc⟩ := hpos (by omega)
    have hrun := run_copy_wide (P := P) w dT sT o.type elem g 0 dLen dCap ad sLen sCap cur.toArray t cs S n hu hsz hg hmin hn hsrc (by simpa using hfit) h1
    unfold Oper.wp
    simp [execOp, ho, resolve, invoke, builtin, hd, hs, hrun, Result.andThen]
    exact hK _ _ (h _ (show _ = _ by simpa [splice] using setRow_heap w g _ _ t _ hg) (below_setRow hb hBg _))
end

/-- block g of w is a row that holds just the instructions xs -/
def RowM2 (w : World) (g : Nat) (xs : List Tm) : Prop := w.heap[g]? = some (.cells (rowT xs).toArray 30 (0, 0))
theorem RowM2.at {w : World} {g : Nat} {xs : List Tm} (h : RowM2 w g xs) (i : Nat) (x : Tm) (hi : xs[i]? = some x) : TmAt w g (i * 2) x := by
  have key : ∀ j, j < 2 → w.cell? ⟨g, i * 2 + j, none⟩ = x.cells[j]? := fun j hj => by rw [cell_blockT h, List.getElem?_toArray, rowT_get xs i j x hi hj]
  exact ⟨(key 0 (by omega)).trans rfl, (key 1 (by omega)).trans rfl⟩
theorem RowM2.lt {w : World} {g : Nat} {xs : List Tm} (h : RowM2 w g xs) : g < w.heap.size := (Array.getElem?_eq_some_iff.1 h).1
theorem RowM2.below {w w' : World} {g B : Nat} {xs : List Tm} (h : RowM2 w g xs) (hb : Below B w w') (hg : g < B) : RowM2 w' g xs := by
  unfold RowM2 at h ⊢
  rw [hb.block g hg, h]
theorem RowM2.frozen {w : World} {g : Nat} {xs : List Tm} (h : RowM2 w g xs) (i : Nat) : w.frozen? ⟨g, i, none⟩ = false := frozen_of_row w g i _ 30 h
theorem RowM2.lies {w : World} {g : Nat} {xs ys : List Tm} (h : RowM2 w g (xs ++ ys)) : TmLies w (some ⟨g, 0, none⟩) xs :=
  .inr ⟨g, 0, rfl, h.lt, fun i x hx => by
    have hl := (List.getElem?_eq_some_iff.1 hx).1
    have := h.at i x (by rw [List.getElem?_append_left hl]; exact hx)
    rwa [Nat.zero_add]⟩

theorem setT (xs : List Tm) (k : Nat) (hk : k < xs.length) (y : Tm) : ((rowT xs).set (k * 2) (.string (str y.name))).set (k * 2 + 1) (.int .u32 y.coef) = rowT (xs.set k y) := by
  induction xs generalizing k with
  | nil => simp at hk
  | cons x xs ih =>
    have hx : ∀ z zs, rowT (z :: zs) = z.cells ++ rowT zs := fun z zs => by simp [rowT]
    cases k with
    | zero =>
      rw [List.set_cons_zero, hx, hx]
      rfl
    | succ k =>
      rw [List.set_cons_succ, hx, hx, ← ih k (by simpa using hk)]
      have hl : x.cells.length = 2 := rfl
      have e : ∀ (L : List Value) (j : Nat) (v : Value), (x.cells ++ L).set ((k + 1) * 2 + j) v = x.cells ++ L.set (k * 2 + j) v := fun L j v => by
        rw [List.set_append_right _ _ (by rw [hl]; omega), hl, show (k + 1) * 2 + j - 2 = k * 2 + j by omega]
      have e0 := e (rowT xs) 0 (.string (str y.name))
      rw [Nat.add_zero, Nat.add_zero] at e0
      rw [e0, e]
      rfl
theorem RowM2.set {w : World} {g : Nat} {xs : List Tm} (h : RowM2 w g xs) (k : Nat) (hk : k < xs.length) (y : Tm) :
    RowM2 ((w.setCell ⟨g, k * 2, none⟩ (.string (str y.name))).setCell ⟨g, k * 2 + 1, none⟩ (.int .u32 y.coef)) g (xs.set k y) := by
  have h1 := heap_setCell_same w g (k * 2) _ 30 (.string (str y.name)) h
  have h2 := heap_setCell_same _ g (k * 2 + 1) _ 30 (.int .u32 y.coef) h1
  unfold RowM2
  rw [h2, ← setT xs k hk y]
  simp

/-- a row of N instructions: xs, then marks up to place k, then noughts -/
def fillT (xs : List Tm) (m : Tm) (N k : Nat) : List Tm := xs ++ List.replicate (k - xs.length) m ++ List.replicate (N - k) ⟨[], 0⟩
theorem fillT_length (xs : List Tm) (m : Tm) (N k : Nat) (h : xs.length ≤ k) (hk : k ≤ N) : (fillT xs m N k).length = N := by simp [fillT]; omega
theorem fillT_set (xs : List Tm) (m : Tm) (N k : Nat) (h : xs.length ≤ k) (hk : k < N) : (fillT xs m N k).set k m = fillT xs m N (k + 1) := by
  unfold fillT
  rw [List.set_append_right _ _ (by simp; omega)]
  have e1 : k - (xs ++ List.replicate (k - xs.length) m).length = 0 := by simp; omega
  obtain ⟨j, hj⟩ : ∃ j, N - k = j + 1 := ⟨N - k - 1, by omega⟩
  have hj' : N - (k + 1) = j := by omega
  rw [e1, hj, hj', List.replicate_succ, List.set_cons_zero, show k + 1 - xs.length = (k - xs.length) + 1 by omega, List.replicate_succ']
  simp

theorem infoTk : (Tryd.prog.info? 30).map (fun i => (i.zero, i.size, i.bytes)) = some (some (.agg #[.string ⟨#[]⟩, .int .u32 0]), 2, 24) := by kernel_rfl

theorem made_cellsT (n : Nat) : (madeCells (Value.agg #[.string ⟨#[]⟩, .int .u32 0]).cells (n * 2)).toList = rowT (List.replicate n ⟨[], 0⟩) := by
  apply List.ext_getElem?
  intro j
  by_cases hj : j < n * 2
  · obtain ⟨i, k, hk, rfl⟩ : ∃ i k, k < 2 ∧ j = i * 2 + k := ⟨j / 2, j % 2, Nat.mod_lt _ (by omega), by omega⟩
    have hi : i < n := by omega
    rw [rowT_get _ i k ⟨[], 0⟩ (by rw [List.getElem?_replicate_of_lt hi]) hk]
    have hm : (i * 2 + k) % 2 = k := by omega
    have hg : ∀ (Z : Array Value) (N j : Nat), j < N → (madeCells Z N).toList[j]? = some (Z[j % Z.size]!) := fun Z N j h => by simp [madeCells, h]
    rw [hg _ _ _ hj]
    have hs : (Value.agg #[.string ⟨#[]⟩, .int .u32 0]).cells.size = 2 := rfl
    rw [hs, hm]
    have : k = 0 ∨ k = 1 := by omega
    rcases this with rfl | rfl <;> rfl
  · rw [List.getElem?_eq_none (by simp [madeCells]; omega), List.getElem?_eq_none (by rw [rowT_length]; simp; omega)]

theorem made_rowM {w : World} {base g n : Nat} (h : w.ownsRow base 30 2 (.slice (some ⟨g, 0, none⟩) n n) n (madeCells (Value.agg #[.string ⟨#[]⟩, .int .u32 0]).cells (n * 2)).toList) : RowM2 w g (List.replicate n ⟨[], 0⟩) := by
  rcases h.2 with ⟨h', _⟩ | ⟨g', cap', cur, h', _, hg, _, _, hs, ht⟩
  · simp at h'
  · simp only [Value.slice.injEq, Option.some.injEq, Addr.mk.injEq, and_true, true_and] at h'
    obtain ⟨rfl, rfl⟩ := h'
    unfold RowM2
    rw [hg]
    have e : cur.toList = rowT (List.replicate n ⟨[], 0⟩) := by
      rw [List.take_of_length_le (by simpa using Nat.le_of_eq hs)] at ht
      rw [ht, made_cellsT]
    rw [← e]

theorem tlies_src {w : World} {a : Option Addr} {xs : List Tm} (hl : TmLies w a xs) {w1 : World} (hb : Below w.heap.size w w1) (h0 : 0 < xs.length) :
    ∃ ad, a = some ad ∧ ∀ j v, (rowT xs)[j]? = some v → w1.cell? (ad.add j) = some v := by
  rcases hl with rfl | ⟨g, off, rfl, _, hc⟩
  · simp at h0
  · refine ⟨_, rfl, fun j v hj => ?_⟩
    have hlt : j < xs.length * 2 := by
      have := (List.getElem?_eq_some_iff.1 hj).1
      rwa [rowT_length] at this
    obtain ⟨i, k, hk, rfl⟩ : ∃ i k, k < 2 ∧ j = i * 2 + k := ⟨j / 2, j % 2, Nat.mod_lt _ (by omega), by omega⟩
    obtain ⟨x, hx⟩ : ∃ x, xs[i]? = some x := ⟨_, List.getElem?_eq_getElem (by omega)⟩
    have hI := (hc i x hx).below hb (hc i x hx).lt
    rw [rowT_get xs i k x hx hk] at hj
    rw [show (⟨g, off, none⟩ : Addr).add (i * 2 + k) = ⟨g, off + i * 2 + k, none⟩ by unfold Addr.add; split <;> simp_all [Nat.add_assoc], ← hj]
    have : k = 0 ∨ k = 1 := by omega
    rcases this with rfl | rfl
    · exact hI.name
    · exact hI.coef

theorem splice_rowM (xs : List Tm) (m : Tm) (N : Nat) (h : xs.length ≤ N) : splice (rowT (List.replicate N ⟨[], 0⟩)) 0 (rowT xs) = rowT (fillT xs m N xs.length) := by
  have e1 : fillT xs m N xs.length = xs ++ List.replicate (N - xs.length) ⟨[], 0⟩ := by simp [fillT]
  have e2 : ∀ ys zs, rowT (ys ++ zs) = rowT ys ++ rowT zs := fun ys zs => by simp [rowT]
  have e3 : List.replicate N (⟨[], 0⟩ : Tm) = List.replicate xs.length ⟨[], 0⟩ ++ List.replicate (N - xs.length) ⟨[], 0⟩ := by rw [List.replicate_append_replicate]; congr 1; omega
  have hl : (rowT (List.replicate xs.length ⟨[], 0⟩)).length = (rowT xs).length := by rw [rowT_length, rowT_length, List.length_replicate]
  rw [e1, e2, splice, e3, e2, List.take_zero, List.nil_append, Nat.zero_add, ← hl, List.drop_left]

theorem below_set2t {w w' : World} {B g k : Nat} (h : Below B w w') (hg : B ≤ g) (v0 v1 : Value) : Below B w ((w'.setCell ⟨g, k * 2, none⟩ v0).setCell ⟨g, k * 2 + 1, none⟩ v1) :=
  Below.setCell (p := ⟨g, k * 2 + 1, none⟩) (Below.setCell (p := ⟨g, k * 2, none⟩) h hg _) hg _
theorem chainT {w w1 w2 : World} (a : Below w.heap.size w w1) (b : Below w1.heap.size w1 w2) : Below w.heap.size w w2 := a.trans (b.mono a.size)
theorem belT (w : World) (o : Obj) : Below w.heap.size w (w.alloc o) := (Below.refl _ w).alloc (Nat.le_refl _) o

set_option maxHeartbeats 1000000 in
theorem roomyT (a : Option Addr) (cap : Nat) (xs : List Tm) (n : Nat) (hn : n = xs.length) (m : Tm) (w : World) (hl : TmLies w a xs) (hm : n ≤ 9000000) :
    Calls Tryd.prog 6 #[.slice a n cap, termV m] w fun e w' => ∃ g, e = .returned (.slice (some ⟨g, 0, none⟩) (n + 80) (n + 80)) ∧ Hid (w.heap.size < g) ∧ RowM2 w' g (xs ++ List.replicate 80 m) ∧ Below w.heap.size w w' := by
  obtain ⟨i0, hi, hz0, hz1, hz2⟩ := info_parts infoTk
  have hlH := Hid.intro hl
  have hnH := Hid.intro hn
  have hI0 := Hid.intro (tk_new w m)
  have hw0 := Hid.intro (belT w (.cells #[.string (str m.name), .int .u32 m.coef] 30))
  have hsz2 : (Tryd.prog.info? 30).map (·.size) = some 2 := by kernel_rfl
  clear hl hn
  go_enter Tryd.func6, Tryd.ntmps6
  go_wp2_with (first
    | (at_make; go_must (refine wpList_make_full _ rfl (.tmp 9) (.tmp 9) 22 rfl (w.heap.size + 1) 30 i0 (.agg #[.string ⟨#[]⟩, .int .u32 0]) 2 Tryd.underlying22 hi hz0 hz1 .i64 .i64 _ _ (n + 80) rfl rfl (by omega) (by omega) (by rw [hz2]; omega) (by unfold maxLen; omega) (by simp) ?_; intro w1 hown1 hgrow1; have hr1 := Hid.intro (made_rowM hown1); have hb1 : Hid (Below (w.heap.size + 1) (w.alloc (.cells #[.string (str m.name), .int .u32 m.coef] 30)) w1) := (Below.refl _ _).grown hgrow1 (by simp) (fun k hk => by cases hk); clear hown1 hgrow1))
    | (refine wpList_copy_wide rfl (.tmp 11) (.tmp 12) 22 22 rfl 30 2 n Tryd.underlying22 hsz2 _ _ _ _ _ _ rfl rfl (w.heap.size + 1) (rowT (List.replicate (n + 80) ⟨[], 0⟩)) 30 (by have := hr1.out; unfold RowM2 at this; simpa using this) (rowT xs) (Nat.min_eq_left (by omega)) (by rw [rowT_length, hnH.out]) (fun h0 => ⟨by simp, tlies_src hlH.out (chainT hw0.out (hb1.out.mono (by simp))) (by have := hnH.out; omega)⟩) (by rw [rowT_length, rowT_length, List.length_replicate]; have := hnH.out; omega) (rowT_one xs) (w.heap.size + 1) _ hb1.out (Nat.le_refl _) ?_; intro w2 hg2 hb2; replace hb2 := Hid.intro hb2))
  have hR2 : Hid (RowM2 w2 (w.heap.size + 1) (fillT xs m (n + 80) n)) := by
    have := hg2.out
    rw [splice_rowM xs m _ (by have := hnH.out; omega)] at this
    show RowM2 _ _ _
    rw [hnH.out] at this ⊢
    exact this
  clear hg2 hr1 hb1
  go_loopw [6] (fun i wr => ∃ k : Nat, n ≤ k ∧ k ≤ n + 80 ∧ i = .int .i64 k ∧ Hid (RowM2 wr (w.heap.size + 1) (fillT xs m (n + 80) k)) ∧ Hid (Below (w.heap.size + 1) (w.alloc (.cells #[.string (str m.name), .int .u32 m.coef] 30)) wr)) (fun i _ => n + 80 - (intOf i).toNat)
  case atStart => exact ⟨n, Nat.le_refl _, by omega, rfl, hR2, hb2⟩
  case round =>
    obtain ⟨k, hk0, hk, rfl, hrow, hbr⟩ := hrel
    have hk0' : Hid (xs.length ≤ k) := (show xs.length ≤ k by have := hnH.out; omega)
    by_cases hlt : k < n + 80
    · obtain ⟨y, hy⟩ : ∃ y, (fillT xs m (n + 80) k)[k]? = some y := ⟨_, List.getElem?_eq_getElem (by rw [fillT_length _ _ _ _ hk0'.out hk]; exact hlt)⟩
      obtain ⟨q0, q1⟩ := hrow.out.at k y hy
      have qf := fun j => hrow.out.frozen j
      obtain ⟨p0, p1⟩ := hI0.out.below hbr.out (by simp)
      have q5 : Hid (RowM2 _ (w.heap.size + 1) (fillT xs m (n + 80) (k + 1))) := (by
        have := hrow.out.set k (by rw [fillT_length _ _ _ _ hk0'.out hk]; exact hlt) m
        rwa [fillT_set xs m _ k hk0'.out hlt] at this)
      have q6 := Hid.intro (below_set2t (k := k) hbr.out (Nat.le_refl _) (.string (str m.name)) (.int .u32 m.coef))
      clear hy
      go_wp2
      all_goals first | omega | skip
      go_roundw
      case rel => exact ⟨k + 1, by omega, by omega, by go_num, q5, q6⟩
      case measure => simp [intOf]; omega
    · have e : k = n + 80 := by omega
      subst e
      go_wp2
      all_goals first | omega | skip
      go_ret
      refine ⟨_, rfl, (show w.heap.size < w.heap.size + 1 by omega), ?_, chainT hw0.out (hbr.out.mono (by simp))⟩
      have := hrow.out
      have e2 : fillT xs m (n + 80) (n + 80) = xs ++ List.replicate 80 m := by
        have := hnH.out
        simp [fillT, this]
      rw [e2] at this
      exact this

set_option maxHeartbeats 1000000 in
theorem intactT (a : Option Addr) (g cap : Nat) (xs : List Tm) (n : Nat) (hn : n = xs.length) (m : Tm) (w : World) (hl : TmLies w a xs) (hr : RowM2 w g (xs ++ List.replicate 80 m)) (hm : n ≤ 9000000) :
    Calls Tryd.prog 16 #[.slice (some ⟨g, 0, none⟩) (n + 80) (n + 80), .slice a n cap, termV m] w fun e w' => e = .returned (.bool true) ∧ Below w.heap.size w w' := by
  have hI0 := Hid.intro (tk_new w m)
  have hw0 := Hid.intro (belT w (.cells #[.string (str m.name), .int .u32 m.coef] 30))
  have hs := Hid.intro (fun c => sameT (some ⟨g, 0, none⟩) a c cap xs n hn _ (hr.lies.belowM hw0.out) (hl.belowM hw0.out) hm)
  have hr0 := Hid.intro (hr.below hw0.out hr.lt)
  have hnH := Hid.intro hn
  clear hl hr hn
  go_enter Tryd.func16, Tryd.ntmps16
  go_wp2_with (go_at_call 22; refine (hs.out _).mono ?_; rintro e w1 ⟨rfl, q0, rfl⟩)
  all_goals first | omega | skip
  go_loopw [7] (fun i wr => ∃ k q : Nat, n ≤ k ∧ k ≤ n + 80 ∧ i = .int .i64 k ∧ wr = (w.alloc (.cells #[.string (str m.name), .int .u32 m.coef] 30)).drewN q) (fun i _ => n + 80 - (intOf i).toNat)
  case atStart => exact ⟨n, q0, Nat.le_refl _, by omega, rfl, rfl⟩
  case round =>
    obtain ⟨k, q, hk0, hk, rfl, rfl⟩ := hrel
    by_cases hlt : k < n + 80
    · have hx : (xs ++ List.replicate 80 m)[k]? = some m := by
        have := hnH.out
        rw [List.getElem?_append_right (by omega), List.getElem?_replicate_of_lt (by omega)]
      obtain ⟨r0, r1⟩ := hr0.out.at k m hx
      obtain ⟨p0, p1⟩ := hI0.out
      have hb1 : (k : Int) < (n : Int) + 80 := by omega
      clear hx
      go_wp2
      go_quiet (fail)
      go_wp2
      all_goals first | omega | skip
      go_roundw
      case rel => exact ⟨k + 1, q + nq, by omega, by omega, by go_num, by simp⟩
      case measure => simp [intOf]; omega
    · go_wp2
      all_goals first | omega | skip
      go_ret
      exact ⟨rfl, below_drewN hw0.out _⟩
end Go.Proofs.YtijdjljnppkhmabDoor

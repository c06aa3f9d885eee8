/- A book of lists of terms: what it holds. -/
import Derived.Test.YtebbbefknfldoaaRight
import Derived.Deep.QuietTactic
import Derived.BigQuiet
import Derived.WalkSmall
import Derived.WalkSpells
import Derived.Laws.CopyOwn
import Derived.ArgAppend
import Derived.Laws.AppendOwnNone
import Derived.Deep.AppendLies
import Derived.Deep.RegionHeld3
import Derived.Deep.LoopGhost
import Derived.Deep.DeepMust
/- book.Same, Roomy and Intact over terms. -/
namespace Go.Proofs.Ytebbbefknfldoaa.Bk
open Go.ChangeShapes Go.WideShapes Go.ChangeAt Go.RowKit
set_option linter.unusedVariables false
set_option maxRecDepth 100000
theorem cell_blockT {w : World} {b : Nat} {cs : Array Value} {t : TypeId} {z : _} (h : w.heap[b]? = some (.cells cs t z)) (j : Nat) : w.cell? ⟨b, j, none⟩ = cs[j]? := by
  unfold World.cell?
  rw [h]
  rfl
theorem _root_.Go.Proofs.Ytebbbefknfldoaa.TmAt.lt {w : World} {g off : Nat} {x : Tm} (h : TmAt w g off x) : g < w.heap.size := World.block_lt_of_cell? w _ h.name
theorem _root_.Go.Proofs.Ytebbbefknfldoaa.TmLies.belowM {w w' : World} {a : Option Addr} {xs : List Tm} (h : TmLies w a xs) (hb : Below w.heap.size w w') : TmLies w' a xs := h.below hb (Nat.le_refl _)
theorem sameT (a1 a2 : Option Addr) (c1 c2 : Nat) (xs : List Tm) (n0 : Nat) (hn0 : n0 = xs.length) (w : World) (h1 : TmLies w a1 xs) (h2 : TmLies w a2 xs) (hm : n0 ≤ 9000000) :
    Calls Try.prog 40 #[.slice a1 n0 c1, .slice a2 n0 c2] w fun e w' => e = .returned (.bool true) ∧ ∃ n, w' = w.drewN n := by
  by_cases h0 : n0 = 0
  · subst h0
    go_enter Try.func40, Try.ntmps40
    go_wp2
    go_loop [5] (fun i => i = .int .i64 0) (fun _ => 0)
    case atStart => rfl
    case round =>
      subst hrel
      go_wp2
      go_ret
      exact ⟨rfl, 0, rfl⟩
  · rcases h1 with rfl | ⟨g1, o1, rfl, _, hc1⟩
    · simp at hn0; omega
    · rcases h2 with rfl | ⟨g2, o2, rfl, _, hc2⟩
      · simp at hn0; omega
      · have hH1 := Hid.intro hc1
        have hH2 := Hid.intro hc2
        have hnH := Hid.intro hn0
        clear hc1 hc2 hn0
        go_enter Try.func40, Try.ntmps40
        go_wp2
        go_loopw [5] (fun i wr => ∃ k n : Nat, k ≤ n0 ∧ i = .int .i64 k ∧ wr = w.drewN n) (fun i _ => n0 - (intOf i).toNat)
        case atStart => exact ⟨0, 0, Nat.zero_le _, rfl, rfl⟩
        case round =>
          obtain ⟨k, n, hk, rfl, rfl⟩ := hrel
          by_cases hlt : k < n0
          · obtain ⟨t, ht⟩ : ∃ t, xs[k]? = some t := ⟨xs[k]'(by rw [← hnH.out]; exact hlt), List.getElem?_eq_getElem _⟩
            obtain ⟨q0, q1⟩ := hH1.out k t ht
            obtain ⟨p0, p1⟩ := hH2.out k t ht
            clear ht
            go_wp2
            go_quiet (fail)
            go_wp2
            all_goals first
              | omega
              | skip
            go_roundw
            case rel => exact ⟨k + 1, n + nq, by omega, by go_num, by simp⟩
            case measure => simp [intOf]; omega
          · go_wp2
            all_goals first
              | omega
              | (go_ret; exact ⟨rfl, n, rfl⟩)
section
variable {P : Program}
end
def RowM2 (w : World) (g : Nat) (xs : List Tm) : Prop := w.heap[g]? = some (.cells (rowT xs).toArray 49 (0, 0))
theorem RowM2.at {w : World} {g : Nat} {xs : List Tm} (h : RowM2 w g xs) (i : Nat) (x : Tm) (hi : xs[i]? = some x) : TmAt w g (i * 2) x := by
  have key : ∀ j, j < 2 → w.cell? ⟨g, i * 2 + j, none⟩ = x.cells[j]? := fun j hj => by rw [cell_blockT h, List.getElem?_toArray, rowT_get xs i j x hi hj]
  exact ⟨(key 0 (by omega)).trans rfl, (key 1 (by omega)).trans rfl⟩
theorem RowM2.lt {w : World} {g : Nat} {xs : List Tm} (h : RowM2 w g xs) : g < w.heap.size := (Array.getElem?_eq_some_iff.1 h).1
theorem RowM2.below {w w' : World} {g B : Nat} {xs : List Tm} (h : RowM2 w g xs) (hb : Below B w w') (hg : g < B) : RowM2 w' g xs := by
  unfold RowM2 at h ⊢
  rw [hb.block g hg, h]
theorem RowM2.lies {w : World} {g : Nat} {xs ys : List Tm} (h : RowM2 w g (xs ++ ys)) : TmLies w (some ⟨g, 0, none⟩) xs :=
  .inr ⟨g, 0, rfl, h.lt, fun i x hx => by
    have hl := (List.getElem?_eq_some_iff.1 hx).1
    have := h.at i x (by rw [List.getElem?_append_left hl]; exact hx)
    rwa [Nat.zero_add]⟩
theorem setT (xs : List Tm) (k : Nat) (hk : k < xs.length) (y : Tm) : ((rowT xs).set (k * 2) (.string (str y.name))).set (k * 2 + 1) (.int .u32 y.coef) = rowT (xs.set k y) := by
  induction xs generalizing k with
  | nil => simp at hk
  | cons x xs ih =>
    have hx : ∀ z zs, rowT (z :: zs) = z.cells ++ rowT zs := fun z zs => by simp [rowT]
    cases k with
    | zero =>
      rw [List.set_cons_zero, hx, hx]
      rfl
    | succ k =>
      rw [List.set_cons_succ, hx, hx, ← ih k (by simpa using hk)]
      have hl : x.cells.length = 2 := rfl
      have e : ∀ (L : List Value) (j : Nat) (v : Value), (x.cells ++ L).set ((k + 1) * 2 + j) v = x.cells ++ L.set (k * 2 + j) v := fun L j v => by
        rw [List.set_append_right _ _ (by rw [hl]; omega), hl, show (k + 1) * 2 + j - 2 = k * 2 + j by omega]
      have e0 := e (rowT xs) 0 (.string (str y.name))
      rw [Nat.add_zero, Nat.add_zero] at e0
      rw [e0, e]
      rfl
theorem RowM2.set {w : World} {g : Nat} {xs : List Tm} (h : RowM2 w g xs) (k : Nat) (hk : k < xs.length) (y : Tm) :
    RowM2 ((w.setCell ⟨g, k * 2, none⟩ (.string (str y.name))).setCell ⟨g, k * 2 + 1, none⟩ (.int .u32 y.coef)) g (xs.set k y) := by
  have h1 := heap_setCell_same w g (k * 2) _ 49 (.string (str y.name)) h
  have h2 := heap_setCell_same _ g (k * 2 + 1) _ 49 (.int .u32 y.coef) h1
  unfold RowM2
  rw [h2, ← setT xs k hk y]
  simp
theorem infoTk : (Try.prog.info? 49).map (fun i => (i.zero, i.size, i.bytes)) = some (some (.agg #[.string ⟨#[]⟩, .int .u32 0]), 2, 24) := by kernel_rfl
end Go.Proofs.Ytebbbefknfldoaa.Bk
namespace Go.Proofs.Ytebbbefknfldoaa.Bk
open Go.ChangeShapes Go.WideShapes Go.ChangeAt Go.RowKit
set_option linter.unusedVariables false
set_option maxRecDepth 100000
theorem Try.infoTk : (Try.prog.info? 49).map (fun i => (i.zero, i.size, i.bytes)) = some (some (.agg #[.string ⟨#[]⟩, .int .u32 0]), 2, 24) := by kernel_rfl
theorem own_got {w : World} {lo n : Nat} {v : Value} {xs : List Value} (h : w.ownsRow lo 49 2 v n xs) : ∃ a c, v = .slice a n c ∧ w.ownsRow lo 49 2 (.slice a n c) n xs := by
  have h' := h
  rcases h.2 with ⟨hv, h0⟩ | ⟨g, cap, cur, hv, r⟩
  · subst h0; exact ⟨none, 0, hv, by rw [← hv]; exact h'⟩
  · exact ⟨_, cap, hv, by rw [← hv]; exact h'⟩
theorem own_mono {w : World} {lo lo' n : Nat} {v : Value} {xs : List Value} (h : w.ownsRow lo 49 2 v n xs) (hl : lo' ≤ lo) : w.ownsRow lo' 49 2 v n xs := own_weaken h hl
theorem same_eq (a1 a2 : Option Addr) (c1 c2 : Nat) (xs : List Tm) (w : World) (h1 : TmLies w a1 xs) (h2 : TmLies w a2 xs) (hm : xs.length ≤ 9000000) :
    Calls Try.prog 40 #[.slice a1 xs.length c1, .slice a2 xs.length c2] w fun e w' => e = .returned (.bool true) ∧ ∃ n, w' = w.drewN n := sameT a1 a2 c1 c2 xs xs.length rfl w h1 h2 hm
def blk (a : Option Addr) : Option Nat := a.map (·.block)
def Outer (w : World) (lo : Nat) (a : Option Addr) (c : Nat) (vs : List Value) : Prop :=
  c ≤ maxLen ∧ ((a = none ∧ c = 0 ∧ vs = []) ∨
    ∃ G off cur, a = some ⟨G, off, none⟩ ∧ lo ≤ G ∧ w.heap[G]? = some (.cells cur 26 (0, 0)) ∧ off + c = cur.size ∧ vs.length ≤ c ∧ (cur.toList.drop off).take vs.length = vs)
theorem Try.infoLk : (Try.prog.info? 26).map (fun i => (i.zero, i.size, i.bytes)) = some (some (.slice none 0 0), 1, 24) := by kernel_rfl
theorem Outer.cell {w : World} {lo : Nat} {a : Option Addr} {c : Nat} {vs : List Value} {G off : Nat} (h : Outer w lo (some ⟨G, off, none⟩) c vs) (i : Nat) (hi : i < vs.length) : w.cell? ⟨G, off + i, none⟩ = vs[i]? := by
  rcases h.2 with ⟨h1, _⟩ | ⟨G', off', cur, h1, _, hh, hs, hn, ht⟩
  · cases h1
  · simp only [Option.some.injEq, Addr.mk.injEq, and_true] at h1
    obtain ⟨rfl, rfl⟩ := h1
    rw [cell_of_row w G (off + i) cur 26 (0, 0) hh]
    conv => rhs; rw [← ht]
    rw [List.getElem?_take_of_lt hi, List.getElem?_drop]
    simp
theorem Outer.some_of {w : World} {lo : Nat} {a : Option Addr} {c : Nat} {vs : List Value} (h : Outer w lo a c vs) (hv : vs ≠ []) : ∃ G off, a = some ⟨G, off, none⟩ := by
  rcases h.2 with ⟨_, _, h⟩ | ⟨G, off, cur, h, _⟩
  · exact absurd h hv
  · exact ⟨G, off, h⟩
theorem Outer.len_le {w : World} {lo : Nat} {a : Option Addr} {c : Nat} {vs : List Value} (h : Outer w lo a c vs) : vs.length ≤ c := by
  rcases h.2 with ⟨_, _, rfl⟩ | ⟨G, off, cur, _, _, _, _, hn, _⟩
  · simp
  · exact hn
theorem Outer.lt {w : World} {lo : Nat} {a : Option Addr} {c : Nat} {vs : List Value} (h : Outer w lo a c vs) {g : Nat} (hg : blk a = some g) : lo ≤ g ∧ g < w.heap.size := by
  rcases h.2 with ⟨rfl, _⟩ | ⟨G, off, cur, rfl, hl, hh, _⟩
  · cases hg
  · simp [blk] at hg
    subst hg
    exact ⟨hl, (Array.getElem?_eq_some_iff.1 hh).1⟩
theorem Outer.kept {w w' : World} {lo : Nat} {a : Option Addr} {c : Nat} {vs : List Value} (h : Outer w lo a c vs) (hk : ∀ g, blk a = some g → w'.heap[g]? = w.heap[g]?) : Outer w' lo a c vs := by
  refine ⟨h.1, ?_⟩
  rcases h.2 with h | ⟨G, off, cur, rfl, hl, hh, hr⟩
  · exact .inl h
  · exact .inr ⟨G, off, cur, rfl, hl, by rw [hk G rfl]; exact hh, hr⟩
theorem Outer.tail {w : World} {lo : Nat} {G off c : Nat} {v : Value} {vs : List Value} (h : Outer w lo (some ⟨G, off, none⟩) c (v :: vs)) : Outer w lo (some ⟨G, off + 1, none⟩) (c - 1) vs := by
  refine ⟨by have := h.1; omega, ?_⟩
  rcases h.2 with ⟨h1, _⟩ | ⟨G', off', cur, h1, hl, hh, hs, hn, ht⟩
  · cases h1
  · simp only [Option.some.injEq, Addr.mk.injEq, and_true] at h1
    obtain ⟨rfl, rfl⟩ := h1
    simp at hn
    refine .inr ⟨G, off + 1, cur, rfl, hl, hh, by omega, by omega, ?_⟩
    have := congrArg List.tail ht
    simp only [List.length_cons, List.tail_cons] at this
    rw [← this, ← List.drop_one, List.drop_take, List.drop_drop]
    simp
theorem outer_run (w : World) (ty : TypeId) (lo : Nat) (a : Option Addr) (c : Nat) (vs : List Value) (v : Value) (N : Nat) (h : Outer w lo a c vs) (hv : w.cell? ⟨N, 0, none⟩ = some v) (h1 : v.oneCell' = true) (hn : vs.length ≤ 4000) (hlo : lo ≤ w.heap.size) :
    ∃ a' c' w', (Builtin.append_ #[59, 59] ty #[.slice a vs.length c, .slice (some ⟨N, 0, none⟩) 1 1]).run Try.prog w = .ok (.slice a' (vs.length + 1) c') w' ∧ Outer w' lo a' c' (vs ++ [v]) ∧ w.grownBy w' (blk a) ∧ (∀ g, blk a' = some g → blk a = some g ∨ w.heap.size ≤ g) := by
  obtain ⟨i0, hi, hz0, hz1, hz2⟩ := info_parts Try.infoLk
  have hnews : ∀ j u, [v][j]? = some u → w.cell? ((⟨N, 0, none⟩ : Addr).add j) = some u := by
    intro j u hj
    match j, hj with
    | 0, hj =>
      simp at hj
      subst hj
      simpa [Addr.add] using hv
  have hone : ∀ u ∈ [v], u.oneCell' = true := by intro u hu; simp at hu; subst hu; exact h1
  have fin : ∀ (v' : Value) (w' : World), w'.ownsRow w.heap.size 26 1 v' (vs.length + 1) (vs ++ [v]) → ∃ a' c', v' = .slice a' (vs.length + 1) c' ∧ Outer w' lo a' c' (vs ++ [v]) ∧ ∀ g, blk a' = some g → blk a = some g ∨ w.heap.size ≤ g := by
    intro v' w' ho
    rcases ho.2 with ⟨_, h0⟩ | ⟨g, cap, cur, rfl, hb, hh, hnc, hcm, hcs, ht⟩
    · omega
    · refine ⟨_, _, rfl, ⟨hcm, .inr ⟨g, 0, cur, rfl, by omega, hh, by omega, by simpa using hnc, ?_⟩⟩, fun g' hg' => .inr (by simp [blk] at hg'; omega)⟩
      simpa using ht
  rcases h.2 with ⟨rfl, rfl, rfl⟩ | ⟨G, off, cur, rfl, hl, hh, hs, hnc, ht⟩
  · obtain ⟨v', w', hrun, r1, r2, _⟩ := run_append_own (P := Try.prog) w w.heap.size 59 ty 26 i0 (.slice none 0 0) 1 24 Try.underlying59 hi hz0 hz1 hz2 rfl (by decide) (.slice none 0 0) 0 [] (World.ownsRow_nil w _ 26 1) ⟨N, 0, none⟩ 1 1 [v] rfl hnews hone (by simp [maxLen]) (by decide) (Nat.le_refl _)
    obtain ⟨a', c', rfl, ho, hg⟩ := fin v' w' (by simpa using r1)
    exact ⟨a', c', w', hrun, ho, r2, hg⟩
  · by_cases hroom : vs.length + 1 ≤ c
    · have hcs : off + vs.length < cur.size := by omega
      have hcell : (w.cell? ⟨G, off + vs.length, none⟩).isSome = true := by
        rw [cell_of_row w G (off + vs.length) cur 26 (0, 0) hh]
        simp [hcs]
      have hfz : w.frozen? ⟨G, off + vs.length, none⟩ = false := frozen_of_row w G _ cur 26 hh
      have hrun := run_append_room_cells (P := Try.prog) w 59 ty 26 i0 Try.underlying59 hi G off vs.length c ⟨N, 0, none⟩ 1 1 [v] (by rw [hz1]; rfl) hnews hone hroom
        (fun j hj => by rw [hz1]; simp at hj; subst hj; simpa using hcell) (fun j hj => by rw [hz1]; simp at hj; subst hj; simpa using hfz)
      rw [hz1, Nat.mul_one] at hrun
      refine ⟨_, _, _, hrun, ⟨h.1, .inr ⟨G, off, cur.setIfInBounds (off + vs.length) v, rfl, hl, ?_, by simpa using hs, by simp; omega, ?_⟩⟩, ?_, fun g hg => .inl hg⟩
      · simp only [World.setCells]
        exact heap_setCell_same w G (off + vs.length) cur 26 v hh
      · rw [Array.toList_setIfInBounds]
        rw [List.drop_set, if_neg (by omega), show off + vs.length - off = vs.length by omega]
        simp only [List.length_append, List.length_singleton]
        have hlen : vs.length < (cur.toList.drop off).length := by simp; omega
        have e2 : vs.length + 1 ≤ ((cur.toList.drop off).set vs.length v).length := by simp; omega
        rw [List.take_succ_eq_append_getElem (by simpa using hlen)]
        simp [List.take_set, ht]
        rw [List.set_eq_of_length_le (by simp)] <;> simp [ht]
      · exact ⟨rfl, rfl, rfl, by simp [World.setCells, World.setCell], fun k _ hk => by
          simp only [World.setCells]
          exact heap_setCell_other w ⟨G, off + vs.length, none⟩ k v (fun e => hk (by simp [blk, e]))⟩
    · have holds : ∀ j u, vs[j]? = some u → w.cell? ((⟨G, off, none⟩ : Addr).add j) = some u := by
        intro j u hj
        have hjl : j < vs.length := by
          rcases Nat.lt_or_ge j vs.length with h | h
          · exact h
          · rw [List.getElem?_eq_none h] at hj; cases hj
        rw [Addr.add_lit, Outer.cell (a := none) h j hjl, hj]
      obtain ⟨v', w', hrun, r1, r2⟩ := run_append_arg_grows (P := Try.prog) w 59 ty 26 i0 (.slice none 0 0) 1 24 Try.underlying59 hi hz0 hz1 hz2 rfl (by decide) ⟨G, off, none⟩ vs.length c vs (by simp) holds ⟨N, 0, none⟩ 1 1 [v] rfl hnews (by omega) (by unfold maxLen; omega) (by omega)
      obtain ⟨a', c', rfl, ho, hg⟩ := fin v' w' r1
      exact ⟨a', c', w', hrun, ho, ⟨r2.os, r2.tape, r2.output, r2.size, fun k hk _ => r2.block k hk (by simp)⟩, hg⟩
theorem wpList_outer {ops : Array Oper} {rest : List Oper} {o : Oper} {a : Act} {Q : Exit → Act → World → Prop} (w : World) (hgd : o.guard = none) (s x : Operand)
    (ho : o.op = .call { callee := .builtin .append, args := #[s, x], argTypes := #[59, 59] }) (lo : Nat) (a1 : Option Addr) (c1 n : Nat) (vs : List Value) (v : Value) (N : Nat)
    (hs : a.eval s = .slice a1 n c1) (hx : a.eval x = .slice (some ⟨N, 0, none⟩) 1 1) (hl : vs.length = n) (h : Outer w lo a1 c1 vs) (hv : w.cell? ⟨N, 0, none⟩ = some v) (h1 : v.oneCell' = true) (hn : n ≤ 4000) (hlo : lo ≤ w.heap.size)
    (hK : ∀ a' c' w', Outer w' lo a' c' (vs ++ [v]) → w.grownBy w' (blk a1) → (∀ g, blk a' = some g → blk a1 = some g ∨ w.heap.size ≤ g) → wpList Try.prog ops Q rest (a.put o.dst (.slice a' (n + 1) c')) w') : wpList Try.prog ops Q (o :: rest) a w := by
  subst hl
  refine wpList_plain hgd fun K hK' => ?_
  obtain ⟨a', c', w', hrun, r1, r2, r3⟩ := outer_run w o.type lo a1 c1 vs v N h hv h1 hn hlo
  unfold Oper.wp
  simp [execOp, ho, resolve, invoke, builtin, hs, hx, hrun, Result.andThen]
  exact hK' _ _ (hK a' c' w' r1 r2 r3)
theorem step_outer {ops : Array Oper} {o : Oper} {a : Act} {K : Act → World → Prop} {Q : Exit → Act → World → Prop} {E : Prop} (w : World) (hgd : o.guard = none) (s x : Operand)
    (ho : o.op = .call { callee := .builtin .append, args := #[s, x], argTypes := #[59, 59] }) (lo : Nat) (a1 : Option Addr) (c1 n : Nat) (vs : List Value) (v : Value) (N : Nat)
    (hs : a.eval s = .slice a1 n c1) (hx : a.eval x = .slice (some ⟨N, 0, none⟩) 1 1) (hl : vs.length = n) (h : Outer w lo a1 c1 vs) (hv : w.cell? ⟨N, 0, none⟩ = some v) (h1 : v.oneCell' = true) (hn : n ≤ 4000) (hlo : lo ≤ w.heap.size)
    (hK : ∀ a' c' w', Outer w' lo a' c' (vs ++ [v]) → w.grownBy w' (blk a1) → (∀ g, blk a' = some g → blk a1 = some g ∨ w.heap.size ≤ g) → K (a.put o.dst (.slice a' (n + 1) c')) w') :
    if Region.wanted o (yielded ops a.tmps) = true then Oper.wp Try.prog o a w K Q else E := by
  subst hl
  have hw : Region.wanted o (yielded ops a.tmps) = true := by simp [Region.wanted, hgd]
  rw [if_pos hw]
  obtain ⟨a', c', w', hrun, r1, r2, r3⟩ := outer_run w o.type lo a1 c1 vs v N h hv h1 hn hlo
  unfold Oper.wp
  simp [execOp, ho, resolve, invoke, builtin, hs, hx, hrun, Result.andThen]
  exact hK a' c' w' r1 r2 r3
def K5 (w w' : World) : Prop := ∀ (k : Nat) (T : TypeId) (cur : Array Value), T = 49 ∨ T = 31 → w.heap[k]? = some (Obj.cells cur T (0, 0)) → w'.heap[k]? = w.heap[k]?
theorem K5.refl (w : World) : K5 w w := fun _ _ _ _ _ => rfl
theorem K5.trans {a b c : World} (h : K5 a b) (k : K5 b c) : K5 a c := fun g T cur hT hg => by
  rw [k g T cur hT (by rw [h g T cur hT hg]; exact hg), h g T cur hT hg]
theorem K5.alloc (w : World) (o : Obj) : K5 w (w.alloc o) := fun k T cur hT hk => Below.heap_alloc w o k (Array.getElem?_eq_some_iff.1 hk).1
theorem K5.set {w : World} {B : Nat} {cur : Array Value} {T : TypeId} (hB : w.heap[B]? = some (.cells cur T (0, 0))) (hT : T ≠ 49 ∧ T ≠ 31) (i : Nat) (v : Value) : K5 w (w.setCell ⟨B, i, none⟩ v) := fun k T' c hT' hk => by
  refine heap_setCell_other w ⟨B, i, none⟩ k v (fun e => ?_)
  have e' : k = B := e
  subst e'
  rw [hB] at hk
  simp at hk
  rcases hT' with h | h
  · exact hT.1 (hk.2.trans h)
  · exact hT.2 (hk.2.trans h)
theorem K5.grown {w w' : World} {lo : Nat} {a : Option Addr} {c : Nat} {vs : List Value} (ho : Outer w lo a c vs) (h : w.grownBy w' (blk a)) : K5 w w' := fun k T cur hT hk => by
  refine h.block k (Array.getElem?_eq_some_iff.1 hk).1 (fun e => ?_)
  rcases ho.2 with ⟨rfl, _⟩ | ⟨G, off, cu, rfl, _, hh, _⟩
  · cases e
  · simp [blk] at e
    subst e
    rw [hh] at hk
    simp at hk
    have e2 := hk.2
    rcases hT with h | h <;> (rw [h] at e2; exact absurd e2 (by decide))
def OwnT (w : World) (lo : Nat) (a : Option Addr) (c : Nat) (ts : List Tm) : Prop := True ∧ w.ownsRow lo 49 2 (.slice a ts.length c) ts.length (rowT ts)
structure Ent where
  a : Option Addr
  cap : Nat
  zs : List Tm
  wa : Option Addr
  wc : Nat
def Ent.val (e : Ent) : Value := .slice e.a e.zs.length e.cap
def Ent.wal (e : Ent) : Value := .slice e.wa e.zs.length e.wc
theorem OwnT.kept {w w' : World} {lo : Nat} {a : Option Addr} {c : Nat} {ts : List Tm} (h : OwnT w lo a c ts) (hk : K5 w w') : OwnT w' lo a c ts := by
  refine ⟨h.1, h.2.1, ?_⟩
  rcases h.2.2 with h | ⟨g, cap, cur, h1, hb, hh, hr⟩
  · exact .inl h
  · exact .inr ⟨g, cap, cur, h1, hb, by rw [hk g 49 cur (.inl rfl) hh]; exact hh, hr⟩
theorem OwnT.lies {w : World} {lo : Nat} {a : Option Addr} {c : Nat} {ts : List Tm} (h : OwnT w lo a c ts) : TmLies w a ts := own_tmLies h.2
theorem OwnT.mono {w : World} {lo lo' : Nat} {a : Option Addr} {c : Nat} {ts : List Tm} (h : OwnT w lo a c ts) (hl : lo' ≤ lo) : OwnT w lo' a c ts := ⟨h.1, own_mono h.2 hl⟩
def Entry (w : World) (B : Nat) (e : Ent) : Prop := OwnT w (B + 1) e.a e.cap e.zs ∧ OwnT w (B + 1) e.wa e.wc e.zs ∧ e.zs.length ≤ 9000000
theorem Entry.kept {w w' : World} {B : Nat} {e : Ent} (h : Entry w B e) (hk : K5 w w') : Entry w' B e := ⟨h.1.kept hk, h.2.1.kept hk, h.2.2⟩
structure BR (w : World) (B : Nat) (vs1 vs2 : List Value) (n1 n2 : Nat) (a1 a2 : Option Addr) (c1 c2 : Nat) (held : Int) : Prop where
  blkB : w.heap[B]? = some (.cells #[.slice a1 n1 c1, .slice a2 n2 c2, .int .i64 held, .bool false] 61 (0, 0))
  l1 : vs1.length = n1
  l2 : vs2.length = n2
  o1 : Outer w (B + 1) a1 c1 vs1
  o2 : Outer w (B + 1) a2 c2 vs2
  ne : ∀ g, blk a1 = some g → blk a2 ≠ some g
section
variable {w : World} {B : Nat} {vs1 vs2 : List Value} {n1 n2 : Nat} {a1 a2 : Option Addr} {c1 c2 : Nat} {held : Int}
theorem BR.q0 (h : BR w B vs1 vs2 n1 n2 a1 a2 c1 c2 held) : w.cell? ⟨B, 0, none⟩ = some (.slice a1 n1 c1) := by rw [cell_of_row w B 0 _ 61 (0, 0) h.blkB]; rfl
theorem BR.q1 (h : BR w B vs1 vs2 n1 n2 a1 a2 c1 c2 held) : w.cell? ⟨B, 1, none⟩ = some (.slice a2 n2 c2) := by rw [cell_of_row w B 1 _ 61 (0, 0) h.blkB]; rfl
theorem BR.q2 (h : BR w B vs1 vs2 n1 n2 a1 a2 c1 c2 held) : w.cell? ⟨B, 2, none⟩ = some (.int .i64 held) := by rw [cell_of_row w B 2 _ 61 (0, 0) h.blkB]; rfl
theorem BR.q3 (h : BR w B vs1 vs2 n1 n2 a1 a2 c1 c2 held) : w.cell? ⟨B, 3, none⟩ = some (.bool false) := by rw [cell_of_row w B 3 _ 61 (0, 0) h.blkB]; rfl
theorem BR.fz (h : BR w B vs1 vs2 n1 n2 a1 a2 c1 c2 held) (i : Nat) : w.frozen? ⟨B, i, none⟩ = false := frozen_of_row w B i _ 61 h.blkB
theorem BR.lt (h : BR w B vs1 vs2 n1 n2 a1 a2 c1 c2 held) : B < w.heap.size := (Array.getElem?_eq_some_iff.1 h.blkB).1
theorem BR.kept (h : BR w B vs1 vs2 n1 n2 a1 a2 c1 c2 held) {w' : World} (hk : ∀ k, k < w.heap.size → w'.heap[k]? = w.heap[k]?) : BR w' B vs1 vs2 n1 n2 a1 a2 c1 c2 held :=
  ⟨by rw [hk B h.lt]; exact h.blkB, h.l1, h.l2, h.o1.kept fun g hg => hk g (h.o1.lt hg).2, h.o2.kept fun g hg => hk g (h.o2.lt hg).2, h.ne⟩
theorem BR.alloc (h : BR w B vs1 vs2 n1 n2 a1 a2 c1 c2 held) (o : Obj) : BR (w.alloc o) B vs1 vs2 n1 n2 a1 a2 c1 c2 held := h.kept fun k hk => Below.heap_alloc w o k hk
theorem BR.app1 (h : BR w B vs1 vs2 n1 n2 a1 a2 c1 c2 held) {v : Value} {a' : Option Addr} {c' : Nat} {w' : World} (ho : Outer w' (B + 1) a' c' (vs1 ++ [v])) (hg : w.grownBy w' (blk a1)) (hb : ∀ g, blk a' = some g → blk a1 = some g ∨ w.heap.size ≤ g) :
    BR (w'.setCell ⟨B, 0, none⟩ (.slice a' (n1 + 1) c')) B (vs1 ++ [v]) vs2 (n1 + 1) n2 a' a2 c' c2 held := by
  have hB1 : ∀ g, blk a1 = some g → B < g := fun g hg => (h.o1.lt hg).1
  have hblk : w'.heap[B]? = w.heap[B]? := hg.block B h.lt (fun e => by have := hB1 B e.symm; omega)
  have hB : w'.heap[B]? = some (.cells #[.slice a1 n1 c1, .slice a2 n2 c2, .int .i64 held, .bool false] 61 (0, 0)) := by rw [hblk]; exact h.blkB
  have hoth : ∀ k, k ≠ B → (w'.setCell ⟨B, 0, none⟩ (.slice a' (n1 + 1) c')).heap[k]? = w'.heap[k]? := fun k hk => heap_setCell_other w' ⟨B, 0, none⟩ k _ hk
  refine ⟨?_, by simp [h.l1], h.l2, ho.kept fun g hgg => hoth g (by have := (ho.lt hgg).1; omega), ?_, ?_⟩
  · rw [heap_setCell_same w' B 0 _ 61 _ hB]
    rfl
  · refine h.o2.kept fun g hgg => ?_
    have := h.o2.lt hgg
    rw [hoth g (by omega)]
    exact hg.block g this.2 (fun e => h.ne g e.symm hgg)
  · intro g hgg
    rcases hb g hgg with e | e
    · exact h.ne g e
    · intro h2
      have := (h.o2.lt h2).2
      omega
theorem BR.app2 (h : BR w B vs1 vs2 n1 n2 a1 a2 c1 c2 held) {v : Value} {a' : Option Addr} {c' : Nat} {w' : World} (ho : Outer w' (B + 1) a' c' (vs2 ++ [v])) (hg : w.grownBy w' (blk a2)) (hb : ∀ g, blk a' = some g → blk a2 = some g ∨ w.heap.size ≤ g) :
    BR (w'.setCell ⟨B, 1, none⟩ (.slice a' (n2 + 1) c')) B vs1 (vs2 ++ [v]) n1 (n2 + 1) a1 a' c1 c' held := by
  have hB1 : ∀ g, blk a2 = some g → B < g := fun g hg => (h.o2.lt hg).1
  have hblk : w'.heap[B]? = w.heap[B]? := hg.block B h.lt (fun e => by have := hB1 B e.symm; omega)
  have hB : w'.heap[B]? = some (.cells #[.slice a1 n1 c1, .slice a2 n2 c2, .int .i64 held, .bool false] 61 (0, 0)) := by rw [hblk]; exact h.blkB
  have hoth : ∀ k, k ≠ B → (w'.setCell ⟨B, 1, none⟩ (.slice a' (n2 + 1) c')).heap[k]? = w'.heap[k]? := fun k hk => heap_setCell_other w' ⟨B, 1, none⟩ k _ hk
  refine ⟨?_, h.l1, by simp [h.l2], ?_, ho.kept fun g hgg => hoth g (by have := (ho.lt hgg).1; omega), ?_⟩
  · rw [heap_setCell_same w' B 1 _ 61 _ hB]
    rfl
  · refine h.o1.kept fun g hgg => ?_
    have := h.o1.lt hgg
    rw [hoth g (by omega)]
    exact hg.block g this.2 (fun e => h.ne g hgg e.symm)
  · intro g hgg h2
    rcases hb g h2 with e | e
    · exact h.ne g hgg e
    · have := (h.o1.lt hgg).2
      omega
theorem BR.set2 (h : BR w B vs1 vs2 n1 n2 a1 a2 c1 c2 held) (x : Int) : BR (w.setCell ⟨B, 2, none⟩ (.int .i64 x)) B vs1 vs2 n1 n2 a1 a2 c1 c2 x := by
  have hoth : ∀ k, k ≠ B → (w.setCell ⟨B, 2, none⟩ (.int .i64 x)).heap[k]? = w.heap[k]? := fun k hk => heap_setCell_other w ⟨B, 2, none⟩ k _ hk
  refine ⟨?_, h.l1, h.l2, h.o1.kept fun g hg => hoth g (by have := (h.o1.lt hg).1; omega), h.o2.kept fun g hg => hoth g (by have := (h.o2.lt hg).1; omega), h.ne⟩
  rw [heap_setCell_same w B 2 _ 61 _ h.blkB]
  rfl
theorem BR.set3 (h : BR w B vs1 vs2 n1 n2 a1 a2 c1 c2 held) : BR (w.setCell ⟨B, 3, none⟩ (.bool false)) B vs1 vs2 n1 n2 a1 a2 c1 c2 held := by
  have hoth : ∀ k, k ≠ B → (w.setCell ⟨B, 3, none⟩ (.bool false)).heap[k]? = w.heap[k]? := fun k hk => heap_setCell_other w ⟨B, 3, none⟩ k _ hk
  refine ⟨?_, h.l1, h.l2, h.o1.kept fun g hg => hoth g (by have := (h.o1.lt hg).1; omega), h.o2.kept fun g hg => hoth g (by have := (h.o2.lt hg).1; omega), h.ne⟩
  rw [heap_setCell_same w B 3 _ 61 _ h.blkB]
  rfl
theorem BR.cut1 {v : Value} {n G off : Nat} (h : BR w B (v :: vs1) vs2 (n + 1) n2 (some ⟨G, off, none⟩) a2 c1 c2 held) : BR (w.setCell ⟨B, 0, none⟩ (.slice (some ⟨G, off + 1, none⟩) n (c1 - 1))) B vs1 vs2 n n2 (some ⟨G, off + 1, none⟩) a2 (c1 - 1) c2 held := by
  have hoth : ∀ k, k ≠ B → (w.setCell ⟨B, 0, none⟩ (.slice (some ⟨G, off + 1, none⟩) n (c1 - 1))).heap[k]? = w.heap[k]? := fun k hk => heap_setCell_other w ⟨B, 0, none⟩ k _ hk
  have hl := h.l1
  simp at hl
  refine ⟨?_, hl, h.l2, h.o1.tail.kept fun g hg => hoth g (by have := (h.o1.lt (g := g) hg).1; omega), h.o2.kept fun g hg => hoth g (by have := (h.o2.lt hg).1; omega), fun g hg => h.ne g hg⟩
  rw [heap_setCell_same w B 0 _ 61 _ h.blkB]
  rfl
theorem BR.cut2 {v : Value} {n G off : Nat} (h : BR w B vs1 (v :: vs2) n1 (n + 1) a1 (some ⟨G, off, none⟩) c1 c2 held) : BR (w.setCell ⟨B, 1, none⟩ (.slice (some ⟨G, off + 1, none⟩) n (c2 - 1))) B vs1 vs2 n1 n a1 (some ⟨G, off + 1, none⟩) c1 (c2 - 1) held := by
  have hoth : ∀ k, k ≠ B → (w.setCell ⟨B, 1, none⟩ (.slice (some ⟨G, off + 1, none⟩) n (c2 - 1))).heap[k]? = w.heap[k]? := fun k hk => heap_setCell_other w ⟨B, 1, none⟩ k _ hk
  have hl := h.l2
  simp at hl
  refine ⟨?_, h.l1, hl, h.o1.kept fun g hg => hoth g (by have := (h.o1.lt hg).1; omega), h.o2.tail.kept fun g hg => hoth g (by have := (h.o2.lt (g := g) hg).1; omega), fun g hg => h.ne g hg⟩
  rw [heap_setCell_same w B 1 _ 61 _ h.blkB]
  rfl
end
theorem copy_run (w : World) (ty : TypeId) (lo : Nat) (a : Option Addr) (c : Nat) (ts : List Tm) (h : OwnT w lo a c ts) (hm : ts.length ≤ 9000000) :
    ∃ wa wc w', (Builtin.append_ #[26, 26] ty #[.slice none 0 0, .slice a ts.length c]).run Try.prog w = .ok (.slice wa ts.length wc) w' ∧ OwnT w' w.heap.size wa wc ts ∧ w.grownBy w' none := by
  obtain ⟨i0, hi, hz0, hz1, hz2⟩ := info_parts Try.infoTk
  have fin : ∀ (v' : Value) (w' : World), w'.ownsRow w.heap.size 49 2 v' (0 + ts.length) ([] ++ rowT ts) → ∃ wa wc, v' = .slice wa ts.length wc ∧ OwnT w' w.heap.size wa wc ts := by
    intro v' w' ho
    rw [Nat.zero_add, List.nil_append] at ho
    obtain ⟨wa, wc, rfl, hg⟩ := own_got ho
    exact ⟨wa, wc, rfl, h.1, hg⟩
  rcases h.2.2 with ⟨h1, h0⟩ | ⟨g, cap, cur, h1, hb, hh, hnc, hcm, hcs, ht⟩
  · have hts : ts = [] := List.eq_nil_of_length_eq_zero h0
    subst hts
    simp only [List.length_nil, Value.slice.injEq, true_and] at h1
    obtain ⟨rfl, rfl⟩ := h1
    refine ⟨none, 0, w, ?_, ⟨h.1, World.ownsRow_nil _ _ _ _⟩, ⟨rfl, rfl, rfl, Nat.le_refl _, fun _ _ _ => rfl⟩⟩
    simp [Builtin.append_, run_underlying Try.underlying26, sizeOf, typeInfo, hi, Builtin.lenOf, Builtin.firstCells]
  · cases h1
    obtain ⟨v', w', hrun, r1, r2, _⟩ := run_append_own (P := Try.prog) w w.heap.size 26 ty 49 i0 (.agg #[.string ⟨#[]⟩, .int .u32 0]) 2 24 Try.underlying26 hi hz0 hz1 hz2 rfl (by decide) (.slice none 0 0) 0 [] (World.ownsRow_nil w _ 49 2) ⟨g, 0, none⟩ ts.length c (rowT ts) (rowT_length ts)
      (fun j u hj => World.ownsRow.cells h.2 rfl j u hj) (rowT_one ts) (by unfold maxLen; omega) (by omega) (Nat.le_refl _)
    obtain ⟨wa, wc, rfl, ho⟩ := fin v' w' r1
    exact ⟨wa, wc, w', hrun, ho, r2⟩
theorem step_copy {ops : Array Oper} {o : Oper} {a : Act} {K : Act → World → Prop} {Q : Exit → Act → World → Prop} {E : Prop} (w : World) (hgd : o.guard = none) (s x : Operand)
    (ho : o.op = .call { callee := .builtin .append, args := #[s, x], argTypes := #[26, 26] }) (lo : Nat) (a1 : Option Addr) (c1 : Nat) (ts : List Tm)
    (hs : a.eval s = .slice none 0 0) (hx : a.eval x = .slice a1 ts.length c1) (h : OwnT w lo a1 c1 ts) (hm : ts.length ≤ 9000000)
    (hK : ∀ wa wc w', OwnT w' w.heap.size wa wc ts → w.grownBy w' none → K (a.put o.dst (.slice wa ts.length wc)) w') :
    if Region.wanted o (yielded ops a.tmps) = true then Oper.wp Try.prog o a w K Q else E := by
  have hw : Region.wanted o (yielded ops a.tmps) = true := by simp [Region.wanted, hgd]
  rw [if_pos hw]
  obtain ⟨wa, wc, w', hrun, r1, r2⟩ := copy_run w o.type lo a1 c1 ts h hm
  unfold Oper.wp
  simp [execOp, ho, resolve, invoke, builtin, hs, hx, hrun, Result.andThen]
  exact hK wa wc w' r1 r2
end Go.Proofs.Ytebbbefknfldoaa.Bk

/- What a book of tokens holds, and how each step of Keep turns it. -/
import Derived.Test.YtmndccbeddaphaaGreatDoorRgL
import Derived.Test.YtmndccbeddaphaaGreatDoorOcText
import Derived.Test.YtmndccbeddaphaaGreatDoorObn1
import Derived.ArgAppend
import Derived.Laws.AppendOwnNone
import Derived.Deep.AppendLies
import Derived.Deep.RegionHeld3
import Derived.Deep.LoopGhost
import Derived.Deep.DeepMust
namespace Go.Proofs.YtmndccbeddaphaaGreatDoor.Bk
open Go.Proofs.YtmndccbeddaphaaGreatDoor Go.Proofs.YtmndccbeddaphaaGreatDoor.O
open Go.ChangeShapes Go.WideShapes Go.ChangeAt Go.RowKit
set_option linter.unusedVariables false
def blk (a : Option Addr) : Option Nat := a.map (·.block)
def Outer (w : World) (lo : Nat) (a : Option Addr) (c : Nat) (vs : List Value) : Prop :=
  c ≤ maxLen ∧ ((a = none ∧ c = 0 ∧ vs = []) ∨
    ∃ G off cur, a = some ⟨G, off, none⟩ ∧ lo ≤ G ∧ w.heap[G]? = some (.cells cur 22 (0, 0)) ∧ off + c = cur.size ∧ vs.length ≤ c ∧ (cur.toList.drop off).take vs.length = vs)
theorem Tryz.info22 : (Tryz.prog.info? 22).map (fun i => (i.zero, i.size, i.bytes)) = some (some (.slice none 0 0), 1, 24) := by kernel_rfl
theorem Outer.cell {w : World} {lo : Nat} {a : Option Addr} {c : Nat} {vs : List Value} {G off : Nat} (h : Outer w lo (some ⟨G, off, none⟩) c vs) (i : Nat) (hi : i < vs.length) : w.cell? ⟨G, off + i, none⟩ = vs[i]? := by
  rcases h.2 with ⟨h1, _⟩ | ⟨G', off', cur, h1, _, hh, hs, hn, ht⟩
  · cases h1
  · simp only [Option.some.injEq, Addr.mk.injEq, and_true] at h1
    obtain ⟨rfl, rfl⟩ := h1
    rw [cell_of_row w G (off + i) cur 22 (0, 0) hh]
    conv => rhs; rw [← ht]
    rw [List.getElem?_take_of_lt hi, List.getElem?_drop]
    simp
theorem Outer.some_of {w : World} {lo : Nat} {a : Option Addr} {c : Nat} {vs : List Value} (h : Outer w lo a c vs) (hv : vs ≠ []) : ∃ G off, a = some ⟨G, off, none⟩ := by
  rcases h.2 with ⟨_, _, h⟩ | ⟨G, off, cur, h, _⟩
  · exact absurd h hv
  · exact ⟨G, off, h⟩
theorem Outer.len_le {w : World} {lo : Nat} {a : Option Addr} {c : Nat} {vs : List Value} (h : Outer w lo a c vs) : vs.length ≤ c := by
  rcases h.2 with ⟨_, _, rfl⟩ | ⟨G, off, cur, _, _, _, _, hn, _⟩
  · simp
  · exact hn
theorem Outer.lt {w : World} {lo : Nat} {a : Option Addr} {c : Nat} {vs : List Value} (h : Outer w lo a c vs) {g : Nat} (hg : blk a = some g) : lo ≤ g ∧ g < w.heap.size := by
  rcases h.2 with ⟨rfl, _⟩ | ⟨G, off, cur, rfl, hl, hh, _⟩
  · cases hg
  · simp [blk] at hg
    subst hg
    exact ⟨hl, (Array.getElem?_eq_some_iff.1 hh).1⟩
theorem Outer.kept {w w' : World} {lo : Nat} {a : Option Addr} {c : Nat} {vs : List Value} (h : Outer w lo a c vs) (hk : ∀ g, blk a = some g → w'.heap[g]? = w.heap[g]?) : Outer w' lo a c vs := by
  refine ⟨h.1, ?_⟩
  rcases h.2 with h | ⟨G, off, cur, rfl, hl, hh, hr⟩
  · exact .inl h
  · exact .inr ⟨G, off, cur, rfl, hl, by rw [hk G rfl]; exact hh, hr⟩
theorem Outer.tail {w : World} {lo : Nat} {G off c : Nat} {v : Value} {vs : List Value} (h : Outer w lo (some ⟨G, off, none⟩) c (v :: vs)) : Outer w lo (some ⟨G, off + 1, none⟩) (c - 1) vs := by
  refine ⟨by have := h.1; omega, ?_⟩
  rcases h.2 with ⟨h1, _⟩ | ⟨G', off', cur, h1, hl, hh, hs, hn, ht⟩
  · cases h1
  · simp only [Option.some.injEq, Addr.mk.injEq, and_true] at h1
    obtain ⟨rfl, rfl⟩ := h1
    simp at hn
    refine .inr ⟨G, off + 1, cur, rfl, hl, hh, by omega, by omega, ?_⟩
    have := congrArg List.tail ht
    simp only [List.length_cons, List.tail_cons] at this
    rw [← this, ← List.drop_one, List.drop_take, List.drop_drop]
    simp
theorem outer_run (w : World) (ty : TypeId) (lo : Nat) (a : Option Addr) (c : Nat) (vs : List Value) (v : Value) (N : Nat) (h : Outer w lo a c vs) (hv : w.cell? ⟨N, 0, none⟩ = some v) (h1 : v.oneCell' = true) (hn : vs.length ≤ 4000) (hlo : lo ≤ w.heap.size) :
    ∃ a' c' w', (Builtin.append_ #[55, 55] ty #[.slice a vs.length c, .slice (some ⟨N, 0, none⟩) 1 1]).run Tryz.prog w = .ok (.slice a' (vs.length + 1) c') w' ∧ Outer w' lo a' c' (vs ++ [v]) ∧ w.grownBy w' (blk a) ∧ (∀ g, blk a' = some g → blk a = some g ∨ w.heap.size ≤ g) := by
  obtain ⟨i0, hi, hz0, hz1, hz2⟩ := info_parts Tryz.info22
  have hnews : ∀ j u, [v][j]? = some u → w.cell? ((⟨N, 0, none⟩ : Addr).add j) = some u := by
    intro j u hj
    match j, hj with
    | 0, hj =>
      simp at hj
      subst hj
      simpa [Addr.add] using hv
  have hone : ∀ u ∈ [v], u.oneCell' = true := by intro u hu; simp at hu; subst hu; exact h1
  have fin : ∀ (v' : Value) (w' : World), w'.ownsRow w.heap.size 22 1 v' (vs.length + 1) (vs ++ [v]) → ∃ a' c', v' = .slice a' (vs.length + 1) c' ∧ Outer w' lo a' c' (vs ++ [v]) ∧ ∀ g, blk a' = some g → blk a = some g ∨ w.heap.size ≤ g := by
    intro v' w' ho
    rcases ho.2 with ⟨_, h0⟩ | ⟨g, cap, cur, rfl, hb, hh, hnc, hcm, hcs, ht⟩
    · omega
    · refine ⟨_, _, rfl, ⟨hcm, .inr ⟨g, 0, cur, rfl, by omega, hh, by omega, by simpa using hnc, ?_⟩⟩, fun g' hg' => .inr (by simp [blk] at hg'; omega)⟩
      simpa using ht
  rcases h.2 with ⟨rfl, rfl, rfl⟩ | ⟨G, off, cur, rfl, hl, hh, hs, hnc, ht⟩
  · obtain ⟨v', w', hrun, r1, r2, _⟩ := run_append_own (P := Tryz.prog) w w.heap.size 55 ty 22 i0 (.slice none 0 0) 1 24 Tryz.underlying55 hi hz0 hz1 hz2 rfl (by decide) (.slice none 0 0) 0 [] (World.ownsRow_nil w _ 22 1) ⟨N, 0, none⟩ 1 1 [v] rfl hnews hone (by simp [maxLen]) (by decide) (Nat.le_refl _)
    obtain ⟨a', c', rfl, ho, hg⟩ := fin v' w' (by simpa using r1)
    exact ⟨a', c', w', hrun, ho, r2, hg⟩
  · by_cases hroom : vs.length + 1 ≤ c
    · have hcs : off + vs.length < cur.size := by omega
      have hcell : (w.cell? ⟨G, off + vs.length, none⟩).isSome = true := by
        rw [cell_of_row w G (off + vs.length) cur 22 (0, 0) hh]
        simp [hcs]
      have hfz : w.frozen? ⟨G, off + vs.length, none⟩ = false := frozen_of_row w G _ cur 22 hh
      have hrun := run_append_room_cells (P := Tryz.prog) w 55 ty 22 i0 Tryz.underlying55 hi G off vs.length c ⟨N, 0, none⟩ 1 1 [v] (by rw [hz1]; rfl) hnews hone hroom
        (fun j hj => by rw [hz1]; simp at hj; subst hj; simpa using hcell) (fun j hj => by rw [hz1]; simp at hj; subst hj; simpa using hfz)
      rw [hz1, Nat.mul_one] at hrun
      refine ⟨_, _, _, hrun, ⟨h.1, .inr ⟨G, off, cur.setIfInBounds (off + vs.length) v, rfl, hl, ?_, by simpa using hs, by simp; omega, ?_⟩⟩, ?_, fun g hg => .inl hg⟩
      · simp only [World.setCells]
        exact heap_setCell_same w G (off + vs.length) cur 22 v hh
      · rw [Array.toList_setIfInBounds]
        rw [List.drop_set, if_neg (by omega), show off + vs.length - off = vs.length by omega]
        simp only [List.length_append, List.length_singleton]
        have hlen : vs.length < (cur.toList.drop off).length := by simp; omega
        have e2 : vs.length + 1 ≤ ((cur.toList.drop off).set vs.length v).length := by simp; omega
        rw [List.take_succ_eq_append_getElem (by simpa using hlen)]
        simp [List.take_set, ht]
        rw [List.set_eq_of_length_le (by simp)] <;> simp [ht]
      · exact ⟨rfl, rfl, rfl, by simp [World.setCells, World.setCell], fun k _ hk => by
          simp only [World.setCells]
          exact heap_setCell_other w ⟨G, off + vs.length, none⟩ k v (fun e => hk (by simp [blk, e]))⟩
    · have holds : ∀ j u, vs[j]? = some u → w.cell? ((⟨G, off, none⟩ : Addr).add j) = some u := by
        intro j u hj
        have hjl : j < vs.length := by
          rcases Nat.lt_or_ge j vs.length with h | h
          · exact h
          · rw [List.getElem?_eq_none h] at hj; cases hj
        rw [Addr.add_lit, Outer.cell (a := none) h j hjl, hj]
      obtain ⟨v', w', hrun, r1, r2⟩ := run_append_arg_grows (P := Tryz.prog) w 55 ty 22 i0 (.slice none 0 0) 1 24 Tryz.underlying55 hi hz0 hz1 hz2 rfl (by decide) ⟨G, off, none⟩ vs.length c vs (by simp) holds ⟨N, 0, none⟩ 1 1 [v] rfl hnews (by omega) (by unfold maxLen; omega) (by omega)
      obtain ⟨a', c', rfl, ho, hg⟩ := fin v' w' r1
      exact ⟨a', c', w', hrun, ho, ⟨r2.os, r2.tape, r2.output, r2.size, fun k hk _ => r2.block k hk (by simp)⟩, hg⟩
end Go.Proofs.YtmndccbeddaphaaGreatDoor.Bk
namespace Go.Proofs.YtmndccbeddaphaaGreatDoor.Bk
open Go.Proofs.YtmndccbeddaphaaGreatDoor Go.Proofs.YtmndccbeddaphaaGreatDoor.O
open Go.ChangeShapes Go.WideShapes Go.ChangeAt Go.RowKit
set_option linter.unusedVariables false
theorem wpList_outer {ops : Array Oper} {rest : List Oper} {o : Oper} {a : Act} {Q : Exit → Act → World → Prop} (w : World) (hgd : o.guard = none) (s x : Operand)
    (ho : o.op = .call { callee := .builtin .append, args := #[s, x], argTypes := #[55, 55] }) (lo : Nat) (a1 : Option Addr) (c1 n : Nat) (vs : List Value) (v : Value) (N : Nat)
    (hs : a.eval s = .slice a1 n c1) (hx : a.eval x = .slice (some ⟨N, 0, none⟩) 1 1) (hl : vs.length = n) (h : Outer w lo a1 c1 vs) (hv : w.cell? ⟨N, 0, none⟩ = some v) (h1 : v.oneCell' = true) (hn : n ≤ 4000) (hlo : lo ≤ w.heap.size)
    (hK : ∀ a' c' w', Outer w' lo a' c' (vs ++ [v]) → w.grownBy w' (blk a1) → (∀ g, blk a' = some g → blk a1 = some g ∨ w.heap.size ≤ g) → wpList Tryz.prog ops Q rest (a.put o.dst (.slice a' (n + 1) c')) w') : wpList Tryz.prog ops Q (o :: rest) a w := by
  subst hl
  refine wpList_plain hgd fun K hK' => ?_
  obtain ⟨a', c', w', hrun, r1, r2, r3⟩ := outer_run w o.type lo a1 c1 vs v N h hv h1 hn hlo
  unfold Oper.wp
  simp [execOp, ho, resolve, invoke, builtin, hs, hx, hrun, Result.andThen]
  exact hK' _ _ (hK a' c' w' r1 r2 r3)
theorem step_outer {ops : Array Oper} {o : Oper} {a : Act} {K : Act → World → Prop} {Q : Exit → Act → World → Prop} {E : Prop} (w : World) (hgd : o.guard = none) (s x : Operand)
    (ho : o.op = .call { callee := .builtin .append, args := #[s, x], argTypes := #[55, 55] }) (lo : Nat) (a1 : Option Addr) (c1 n : Nat) (vs : List Value) (v : Value) (N : Nat)
    (hs : a.eval s = .slice a1 n c1) (hx : a.eval x = .slice (some ⟨N, 0, none⟩) 1 1) (hl : vs.length = n) (h : Outer w lo a1 c1 vs) (hv : w.cell? ⟨N, 0, none⟩ = some v) (h1 : v.oneCell' = true) (hn : n ≤ 4000) (hlo : lo ≤ w.heap.size)
    (hK : ∀ a' c' w', Outer w' lo a' c' (vs ++ [v]) → w.grownBy w' (blk a1) → (∀ g, blk a' = some g → blk a1 = some g ∨ w.heap.size ≤ g) → K (a.put o.dst (.slice a' (n + 1) c')) w') :
    if Region.wanted o (yielded ops a.tmps) = true then Oper.wp Tryz.prog o a w K Q else E := by
  subst hl
  have hw : Region.wanted o (yielded ops a.tmps) = true := by simp [Region.wanted, hgd]
  rw [if_pos hw]
  obtain ⟨a', c', w', hrun, r1, r2, r3⟩ := outer_run w o.type lo a1 c1 vs v N h hv h1 hn hlo
  unfold Oper.wp
  simp [execOp, ho, resolve, invoke, builtin, hs, hx, hrun, Result.andThen]
  exact hK a' c' w' r1 r2 r3
def K5 (w w' : World) : Prop := ∀ (k : Nat) (cur : Array Value), w.heap[k]? = some (Obj.cells cur 5 (0, 0)) → w'.heap[k]? = w.heap[k]?
theorem K5.refl (w : World) : K5 w w := fun _ _ _ => rfl
theorem K5.trans {a b c : World} (h : K5 a b) (k : K5 b c) : K5 a c := fun g cur hg => by
  rw [k g cur (by rw [h g cur hg]; exact hg), h g cur hg]
theorem K5.alloc (w : World) (o : Obj) : K5 w (w.alloc o) := fun k cur hk => Below.heap_alloc w o k (Array.getElem?_eq_some_iff.1 hk).1
theorem K5.set {w : World} {B : Nat} {cur : Array Value} {T : TypeId} (hB : w.heap[B]? = some (.cells cur T (0, 0))) (hT : T ≠ 5) (i : Nat) (v : Value) : K5 w (w.setCell ⟨B, i, none⟩ v) := fun k c hk => by
  refine heap_setCell_other w ⟨B, i, none⟩ k v (fun e => ?_)
  have e' : k = B := e
  subst e'
  rw [hB] at hk
  simp at hk
  exact hT hk.2
theorem K5.grown {w w' : World} {lo : Nat} {a : Option Addr} {c : Nat} {vs : List Value} (ho : Outer w lo a c vs) (h : w.grownBy w' (blk a)) : K5 w w' := fun k cur hk => by
  refine h.block k (Array.getElem?_eq_some_iff.1 hk).1 (fun e => ?_)
  rcases ho.2 with ⟨rfl, _⟩ | ⟨G, off, cu, rfl, _, hh, _⟩
  · cases e
  · simp [blk] at e
    subst e
    rw [hh] at hk
    simp at hk
def OwnT (w : World) (lo : Nat) (a : Option Addr) (c : Nat) (ts : List Int) : Prop := AreBytes ts ∧ w.ownsRow lo 5 1 (.slice a ts.length c) ts.length (cellsOf ts)
structure Ent where
  a : Option Addr
  cap : Nat
  zs : List Int
  wa : Option Addr
  wc : Nat
def Ent.val (e : Ent) : Value := .slice e.a e.zs.length e.cap
def Ent.wal (e : Ent) : Value := .slice e.wa e.zs.length e.wc
theorem OwnT.kept {w w' : World} {lo : Nat} {a : Option Addr} {c : Nat} {ts : List Int} (h : OwnT w lo a c ts) (hk : K5 w w') : OwnT w' lo a c ts := by
  refine ⟨h.1, h.2.1, ?_⟩
  rcases h.2.2 with h | ⟨g, cap, cur, h1, hb, hh, hr⟩
  · exact .inl h
  · exact .inr ⟨g, cap, cur, h1, hb, by rw [hk g cur hh]; exact hh, hr⟩
theorem OwnT.lies {w : World} {lo : Nat} {a : Option Addr} {c : Nat} {ts : List Int} (h : OwnT w lo a c ts) : Lies w a ts := Got.lies h.2 h.1
theorem OwnT.mono {w : World} {lo lo' : Nat} {a : Option Addr} {c : Nat} {ts : List Int} (h : OwnT w lo a c ts) (hl : lo' ≤ lo) : OwnT w lo' a c ts := ⟨h.1, Own.mono h.2 hl⟩
def Entry (w : World) (B : Nat) (e : Ent) : Prop := OwnT w (B + 1) e.a e.cap e.zs ∧ OwnT w (B + 1) e.wa e.wc e.zs ∧ e.zs.length ≤ 1048576
theorem Entry.kept {w w' : World} {B : Nat} {e : Ent} (h : Entry w B e) (hk : K5 w w') : Entry w' B e := ⟨h.1.kept hk, h.2.1.kept hk, h.2.2⟩
structure BR (w : World) (B : Nat) (vs1 vs2 : List Value) (n1 n2 : Nat) (a1 a2 : Option Addr) (c1 c2 : Nat) (held : Int) : Prop where
  blkB : w.heap[B]? = some (.cells #[.slice a1 n1 c1, .slice a2 n2 c2, .int .i64 held, .bool false] 57 (0, 0))
  l1 : vs1.length = n1
  l2 : vs2.length = n2
  o1 : Outer w (B + 1) a1 c1 vs1
  o2 : Outer w (B + 1) a2 c2 vs2
  ne : ∀ g, blk a1 = some g → blk a2 ≠ some g
section
variable {w : World} {B : Nat} {vs1 vs2 : List Value} {n1 n2 : Nat} {a1 a2 : Option Addr} {c1 c2 : Nat} {held : Int}
theorem BR.q0 (h : BR w B vs1 vs2 n1 n2 a1 a2 c1 c2 held) : w.cell? ⟨B, 0, none⟩ = some (.slice a1 n1 c1) := by rw [cell_of_row w B 0 _ 57 (0, 0) h.blkB]; rfl
theorem BR.q1 (h : BR w B vs1 vs2 n1 n2 a1 a2 c1 c2 held) : w.cell? ⟨B, 1, none⟩ = some (.slice a2 n2 c2) := by rw [cell_of_row w B 1 _ 57 (0, 0) h.blkB]; rfl
theorem BR.q2 (h : BR w B vs1 vs2 n1 n2 a1 a2 c1 c2 held) : w.cell? ⟨B, 2, none⟩ = some (.int .i64 held) := by rw [cell_of_row w B 2 _ 57 (0, 0) h.blkB]; rfl
theorem BR.q3 (h : BR w B vs1 vs2 n1 n2 a1 a2 c1 c2 held) : w.cell? ⟨B, 3, none⟩ = some (.bool false) := by rw [cell_of_row w B 3 _ 57 (0, 0) h.blkB]; rfl
theorem BR.fz (h : BR w B vs1 vs2 n1 n2 a1 a2 c1 c2 held) (i : Nat) : w.frozen? ⟨B, i, none⟩ = false := frozen_of_row w B i _ 57 h.blkB
theorem BR.lt (h : BR w B vs1 vs2 n1 n2 a1 a2 c1 c2 held) : B < w.heap.size := (Array.getElem?_eq_some_iff.1 h.blkB).1
theorem BR.kept (h : BR w B vs1 vs2 n1 n2 a1 a2 c1 c2 held) {w' : World} (hk : ∀ k, k < w.heap.size → w'.heap[k]? = w.heap[k]?) : BR w' B vs1 vs2 n1 n2 a1 a2 c1 c2 held :=
  ⟨by rw [hk B h.lt]; exact h.blkB, h.l1, h.l2, h.o1.kept fun g hg => hk g (h.o1.lt hg).2, h.o2.kept fun g hg => hk g (h.o2.lt hg).2, h.ne⟩
theorem BR.alloc (h : BR w B vs1 vs2 n1 n2 a1 a2 c1 c2 held) (o : Obj) : BR (w.alloc o) B vs1 vs2 n1 n2 a1 a2 c1 c2 held := h.kept fun k hk => Below.heap_alloc w o k hk
theorem BR.app1 (h : BR w B vs1 vs2 n1 n2 a1 a2 c1 c2 held) {v : Value} {a' : Option Addr} {c' : Nat} {w' : World} (ho : Outer w' (B + 1) a' c' (vs1 ++ [v])) (hg : w.grownBy w' (blk a1)) (hb : ∀ g, blk a' = some g → blk a1 = some g ∨ w.heap.size ≤ g) :
    BR (w'.setCell ⟨B, 0, none⟩ (.slice a' (n1 + 1) c')) B (vs1 ++ [v]) vs2 (n1 + 1) n2 a' a2 c' c2 held := by
  have hB1 : ∀ g, blk a1 = some g → B < g := fun g hg => (h.o1.lt hg).1
  have hblk : w'.heap[B]? = w.heap[B]? := hg.block B h.lt (fun e => by have := hB1 B e.symm; omega)
  have hB : w'.heap[B]? = some (.cells #[.slice a1 n1 c1, .slice a2 n2 c2, .int .i64 held, .bool false] 57 (0, 0)) := by rw [hblk]; exact h.blkB
  have hoth : ∀ k, k ≠ B → (w'.setCell ⟨B, 0, none⟩ (.slice a' (n1 + 1) c')).heap[k]? = w'.heap[k]? := fun k hk => heap_setCell_other w' ⟨B, 0, none⟩ k _ hk
  refine ⟨?_, by simp [h.l1], h.l2, ho.kept fun g hgg => hoth g (by have := (ho.lt hgg).1; omega), ?_, ?_⟩
  · rw [heap_setCell_same w' B 0 _ 57 _ hB]
    rfl
  · refine h.o2.kept fun g hgg => ?_
    have := h.o2.lt hgg
    rw [hoth g (by omega)]
    exact hg.block g this.2 (fun e => h.ne g e.symm hgg)
  · intro g hgg
    rcases hb g hgg with e | e
    · exact h.ne g e
    · intro h2
      have := (h.o2.lt h2).2
      omega
theorem BR.app2 (h : BR w B vs1 vs2 n1 n2 a1 a2 c1 c2 held) {v : Value} {a' : Option Addr} {c' : Nat} {w' : World} (ho : Outer w' (B + 1) a' c' (vs2 ++ [v])) (hg : w.grownBy w' (blk a2)) (hb : ∀ g, blk a' = some g → blk a2 = some g ∨ w.heap.size ≤ g) :
    BR (w'.setCell ⟨B, 1, none⟩ (.slice a' (n2 + 1) c')) B vs1 (vs2 ++ [v]) n1 (n2 + 1) a1 a' c1 c' held := by
  have hB1 : ∀ g, blk a2 = some g → B < g := fun g hg => (h.o2.lt hg).1
  have hblk : w'.heap[B]? = w.heap[B]? := hg.block B h.lt (fun e => by have := hB1 B e.symm; omega)
  have hB : w'.heap[B]? = some (.cells #[.slice a1 n1 c1, .slice a2 n2 c2, .int .i64 held, .bool false] 57 (0, 0)) := by rw [hblk]; exact h.blkB
  have hoth : ∀ k, k ≠ B → (w'.setCell ⟨B, 1, none⟩ (.slice a' (n2 + 1) c')).heap[k]? = w'.heap[k]? := fun k hk => heap_setCell_other w' ⟨B, 1, none⟩ k _ hk
  refine ⟨?_, h.l1, by simp [h.l2], ?_, ho.kept fun g hgg => hoth g (by have := (ho.lt hgg).1; omega), ?_⟩
  · rw [heap_setCell_same w' B 1 _ 57 _ hB]
    rfl
  · refine h.o1.kept fun g hgg => ?_
    have := h.o1.lt hgg
    rw [hoth g (by omega)]
    exact hg.block g this.2 (fun e => h.ne g hgg e.symm)
  · intro g hgg h2
    rcases hb g h2 with e | e
    · exact h.ne g hgg e
    · have := (h.o1.lt hgg).2
      omega
theorem BR.set2 (h : BR w B vs1 vs2 n1 n2 a1 a2 c1 c2 held) (x : Int) : BR (w.setCell ⟨B, 2, none⟩ (.int .i64 x)) B vs1 vs2 n1 n2 a1 a2 c1 c2 x := by
  have hoth : ∀ k, k ≠ B → (w.setCell ⟨B, 2, none⟩ (.int .i64 x)).heap[k]? = w.heap[k]? := fun k hk => heap_setCell_other w ⟨B, 2, none⟩ k _ hk
  refine ⟨?_, h.l1, h.l2, h.o1.kept fun g hg => hoth g (by have := (h.o1.lt hg).1; omega), h.o2.kept fun g hg => hoth g (by have := (h.o2.lt hg).1; omega), h.ne⟩
  rw [heap_setCell_same w B 2 _ 57 _ h.blkB]
  rfl
theorem BR.set3 (h : BR w B vs1 vs2 n1 n2 a1 a2 c1 c2 held) : BR (w.setCell ⟨B, 3, none⟩ (.bool false)) B vs1 vs2 n1 n2 a1 a2 c1 c2 held := by
  have hoth : ∀ k, k ≠ B → (w.setCell ⟨B, 3, none⟩ (.bool false)).heap[k]? = w.heap[k]? := fun k hk => heap_setCell_other w ⟨B, 3, none⟩ k _ hk
  refine ⟨?_, h.l1, h.l2, h.o1.kept fun g hg => hoth g (by have := (h.o1.lt hg).1; omega), h.o2.kept fun g hg => hoth g (by have := (h.o2.lt hg).1; omega), h.ne⟩
  rw [heap_setCell_same w B 3 _ 57 _ h.blkB]
  rfl
theorem BR.cut1 {v : Value} {n G off : Nat} (h : BR w B (v :: vs1) vs2 (n + 1) n2 (some ⟨G, off, none⟩) a2 c1 c2 held) : BR (w.setCell ⟨B, 0, none⟩ (.slice (some ⟨G, off + 1, none⟩) n (c1 - 1))) B vs1 vs2 n n2 (some ⟨G, off + 1, none⟩) a2 (c1 - 1) c2 held := by
  have hoth : ∀ k, k ≠ B → (w.setCell ⟨B, 0, none⟩ (.slice (some ⟨G, off + 1, none⟩) n (c1 - 1))).heap[k]? = w.heap[k]? := fun k hk => heap_setCell_other w ⟨B, 0, none⟩ k _ hk
  have hl := h.l1
  simp at hl
  refine ⟨?_, hl, h.l2, h.o1.tail.kept fun g hg => hoth g (by have := (h.o1.lt (g := g) hg).1; omega), h.o2.kept fun g hg => hoth g (by have := (h.o2.lt hg).1; omega), fun g hg => h.ne g hg⟩
  rw [heap_setCell_same w B 0 _ 57 _ h.blkB]
  rfl
theorem BR.cut2 {v : Value} {n G off : Nat} (h : BR w B vs1 (v :: vs2) n1 (n + 1) a1 (some ⟨G, off, none⟩) c1 c2 held) : BR (w.setCell ⟨B, 1, none⟩ (.slice (some ⟨G, off + 1, none⟩) n (c2 - 1))) B vs1 vs2 n1 n a1 (some ⟨G, off + 1, none⟩) c1 (c2 - 1) held := by
  have hoth : ∀ k, k ≠ B → (w.setCell ⟨B, 1, none⟩ (.slice (some ⟨G, off + 1, none⟩) n (c2 - 1))).heap[k]? = w.heap[k]? := fun k hk => heap_setCell_other w ⟨B, 1, none⟩ k _ hk
  have hl := h.l2
  simp at hl
  refine ⟨?_, h.l1, hl, h.o1.kept fun g hg => hoth g (by have := (h.o1.lt hg).1; omega), h.o2.tail.kept fun g hg => hoth g (by have := (h.o2.lt (g := g) hg).1; omega), fun g hg => h.ne g hg⟩
  rw [heap_setCell_same w B 1 _ 57 _ h.blkB]
  rfl
end
theorem copy_run (w : World) (ty : TypeId) (lo : Nat) (a : Option Addr) (c : Nat) (ts : List Int) (h : OwnT w lo a c ts) (hm : ts.length ≤ 1100000) :
    ∃ wa wc w', (Builtin.append_ #[22, 22] ty #[.slice none 0 0, .slice a ts.length c]).run Tryz.prog w = .ok (.slice wa ts.length wc) w' ∧ OwnT w' w.heap.size wa wc ts ∧ w.grownBy w' none := by
  obtain ⟨i0, hi, hz0, hz1, hz2⟩ := info_parts Tryz.info5
  have fin : ∀ (v' : Value) (w' : World), w'.ownsRow w.heap.size 5 1 v' (0 + ts.length) ([] ++ cellsOf ts) → ∃ wa wc, v' = .slice wa ts.length wc ∧ OwnT w' w.heap.size wa wc ts := by
    intro v' w' ho
    rw [Nat.zero_add, List.nil_append] at ho
    obtain ⟨wa, wc, rfl, hg⟩ := own_got ho
    exact ⟨wa, wc, rfl, h.1, hg⟩
  rcases h.2.2 with ⟨h1, h0⟩ | ⟨g, cap, cur, h1, hb, hh, hnc, hcm, hcs, ht⟩
  · have hts : ts = [] := List.eq_nil_of_length_eq_zero h0
    subst hts
    simp only [List.length_nil, Value.slice.injEq, true_and] at h1
    obtain ⟨rfl, rfl⟩ := h1
    refine ⟨none, 0, w, ?_, ⟨h.1, World.ownsRow_nil _ _ _ _⟩, ⟨rfl, rfl, rfl, Nat.le_refl _, fun _ _ _ => rfl⟩⟩
    simp [Builtin.append_, run_underlying Tryz.underlying22, sizeOf, typeInfo, hi, Builtin.lenOf, Builtin.firstCells]
  · cases h1
    obtain ⟨v', w', hrun, r1, r2, _⟩ := run_append_own (P := Tryz.prog) w w.heap.size 22 ty 5 i0 (.int .u8 0) 1 1 Tryz.underlying22 hi hz0 hz1 hz2 rfl (by decide) (.slice none 0 0) 0 [] (World.ownsRow_nil w _ 5 1) ⟨g, 0, none⟩ ts.length c (cellsOf ts) (by simp [cellsOf_length])
      (fun j u hj => World.ownsRow.cells h.2 rfl j u hj) (cellsOf_one ts) (by unfold maxLen; omega) (by omega) (Nat.le_refl _)
    obtain ⟨wa, wc, rfl, ho⟩ := fin v' w' r1
    exact ⟨wa, wc, w', hrun, ho, r2⟩
theorem step_copy {ops : Array Oper} {o : Oper} {a : Act} {K : Act → World → Prop} {Q : Exit → Act → World → Prop} {E : Prop} (w : World) (hgd : o.guard = none) (s x : Operand)
    (ho : o.op = .call { callee := .builtin .append, args := #[s, x], argTypes := #[22, 22] }) (lo : Nat) (a1 : Option Addr) (c1 : Nat) (ts : List Int)
    (hs : a.eval s = .slice none 0 0) (hx : a.eval x = .slice a1 ts.length c1) (h : OwnT w lo a1 c1 ts) (hm : ts.length ≤ 1100000)
    (hK : ∀ wa wc w', OwnT w' w.heap.size wa wc ts → w.grownBy w' none → K (a.put o.dst (.slice wa ts.length wc)) w') :
    if Region.wanted o (yielded ops a.tmps) = true then Oper.wp Tryz.prog o a w K Q else E := by
  have hw : Region.wanted o (yielded ops a.tmps) = true := by simp [Region.wanted, hgd]
  rw [if_pos hw]
  obtain ⟨wa, wc, w', hrun, r1, r2⟩ := copy_run w o.type lo a1 c1 ts h hm
  unfold Oper.wp
  simp [execOp, ho, resolve, invoke, builtin, hs, hx, hrun, Result.andThen]
  exact hK wa wc w' r1 r2
end Go.Proofs.YtmndccbeddaphaaGreatDoor.Bk

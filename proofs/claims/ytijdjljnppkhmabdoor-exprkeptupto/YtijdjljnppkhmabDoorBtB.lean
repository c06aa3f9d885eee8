/- A book of lists of terms, as a law walks it. -/
import Derived.Test.YtijdjljnppkhmabDoorTmRoom
import Derived.ArgAppend
import Derived.Laws.AppendOwnNone
import Derived.Deep.AppendLies
import Derived.Deep.RegionHeld3
import Derived.Deep.LoopGhost
import Derived.Deep.DeepMust
import Derived.Deep.QuietTactic
import Derived.BigQuiet
import Derived.WalkSmall
import Derived.WalkSpells
import Derived.Deep.RegionLaw
import Derived.Deep.DeepCutAuto
import Derived.Handy
/- A book of lists of terms: what it holds. -/
namespace Go.Proofs.YtijdjljnppkhmabDoor.Bk
open Go.ChangeShapes Go.WideShapes Go.ChangeAt Go.RowKit
set_option linter.unusedVariables false
set_option maxRecDepth 100000

theorem Tryd.infoTk : (Tryd.prog.info? 30).map (fun i => (i.zero, i.size, i.bytes)) = some (some (.agg #[.string ⟨#[]⟩, .int .u32 0]), 2, 24) := by kernel_rfl
theorem own_got {w : World} {lo n : Nat} {v : Value} {xs : List Value} (h : w.ownsRow lo 30 2 v n xs) : ∃ a c, v = .slice a n c ∧ w.ownsRow lo 30 2 (.slice a n c) n xs := by
  have h' := h
  rcases h.2 with ⟨hv, h0⟩ | ⟨g, cap, cur, hv, r⟩
  · subst h0; exact ⟨none, 0, hv, by rw [← hv]; exact h'⟩
  · exact ⟨_, cap, hv, by rw [← hv]; exact h'⟩
theorem own_mono {w : World} {lo lo' n : Nat} {v : Value} {xs : List Value} (h : w.ownsRow lo 30 2 v n xs) (hl : lo' ≤ lo) : w.ownsRow lo' 30 2 v n xs := own_weaken h hl
theorem same_eq (a1 a2 : Option Addr) (c1 c2 : Nat) (xs : List Tm) (w : World) (h1 : TmLies w a1 xs) (h2 : TmLies w a2 xs) (hm : xs.length ≤ 9000000) :
    Calls Tryd.prog 22 #[.slice a1 xs.length c1, .slice a2 xs.length c2] w fun e w' => e = .returned (.bool true) ∧ ∃ n, w' = w.drewN n := sameT a1 a2 c1 c2 xs xs.length rfl w h1 h2 hm

def blk (a : Option Addr) : Option Nat := a.map (·.block)

/-- the slice at a of capacity c holds just the values vs; it is nil, or it lies in a row of slices at block lo or behind it -/
def Outer (w : World) (lo : Nat) (a : Option Addr) (c : Nat) (vs : List Value) : Prop :=
  c ≤ maxLen ∧ ((a = none ∧ c = 0 ∧ vs = []) ∨
    ∃ G off cur, a = some ⟨G, off, none⟩ ∧ lo ≤ G ∧ w.heap[G]? = some (.cells cur 22 (0, 0)) ∧ off + c = cur.size ∧ vs.length ≤ c ∧ (cur.toList.drop off).take vs.length = vs)

theorem Tryd.infoLk : (Tryd.prog.info? 22).map (fun i => (i.zero, i.size, i.bytes)) = some (some (.slice none 0 0), 1, 24) := by kernel_rfl

theorem Outer.cell {w : World} {lo : Nat} {a : Option Addr} {c : Nat} {vs : List Value} {G off : Nat} (h : Outer w lo (some ⟨G, off, none⟩) c vs) (i : Nat) (hi : i < vs.length) : w.cell? ⟨G, off + i, none⟩ = vs[i]? := by
  rcases h.2 with ⟨h1, _⟩ | ⟨G', off', cur, h1, _, hh, hs, hn, ht⟩
  · cases h1
  · simp only [Option.some.injEq, Addr.mk.injEq, and_true] at h1
    obtain ⟨rfl, rfl⟩ := h1
    rw [cell_of_row w G (off + i) cur 22 (0, 0) hh]
    conv => rhs; rw [← ht]
    rw [List.getElem?_take_of_lt hi, List.getElem?_drop]
    simp

theorem Outer.some_of {w : World} {lo : Nat} {a : Option Addr} {c : Nat} {vs : List Value} (h : Outer w lo a c vs) (hv : vs ≠ []) : ∃ G off, a = some ⟨G, off, none⟩ := by
  rcases h.2 with ⟨_, _, h⟩ | ⟨G, off, cur, h, _⟩
  · exact absurd h hv
  · exact ⟨G, off, h⟩
theorem Outer.len_le {w : World} {lo : Nat} {a : Option Addr} {c : Nat} {vs : List Value} (h : Outer w lo a c vs) : vs.length ≤ c := by
  rcases h.2 with ⟨_, _, rfl⟩ | ⟨G, off, cur, _, _, _, _, hn, _⟩
  · simp
  · exact hn
theorem Outer.lt {w : World} {lo : Nat} {a : Option Addr} {c : Nat} {vs : List Value} (h : Outer w lo a c vs) {g : Nat} (hg : blk a = some g) : lo ≤ g ∧ g < w.heap.size := by
  rcases h.2 with ⟨rfl, _⟩ | ⟨G, off, cur, rfl, hl, hh, _⟩
  · cases hg
  · simp [blk] at hg
    subst hg
    exact ⟨hl, (Array.getElem?_eq_some_iff.1 hh).1⟩
theorem Outer.kept {w w' : World} {lo : Nat} {a : Option Addr} {c : Nat} {vs : List Value} (h : Outer w lo a c vs) (hk : ∀ g, blk a = some g → w'.heap[g]? = w.heap[g]?) : Outer w' lo a c vs := by
  refine ⟨h.1, ?_⟩
  rcases h.2 with h | ⟨G, off, cur, rfl, hl, hh, hr⟩
  · exact .inl h
  · exact .inr ⟨G, off, cur, rfl, hl, by rw [hk G rfl]; exact hh, hr⟩
theorem Outer.tail {w : World} {lo : Nat} {G off c : Nat} {v : Value} {vs : List Value} (h : Outer w lo (some ⟨G, off, none⟩) c (v :: vs)) : Outer w lo (some ⟨G, off + 1, none⟩) (c - 1) vs := by
  refine ⟨by have := h.1; omega, ?_⟩
  rcases h.2 with ⟨h1, _⟩ | ⟨G', off', cur, h1, hl, hh, hs, hn, ht⟩
  · cases h1
  · simp only [Option.some.injEq, Addr.mk.injEq, and_true] at h1
    obtain ⟨rfl, rfl⟩ := h1
    simp at hn
    refine .inr ⟨G, off + 1, cur, rfl, hl, hh, by omega, by omega, ?_⟩
    have := congrArg List.tail ht
    simp only [List.length_cons, List.tail_cons] at this
    rw [← this, ← List.drop_one, List.drop_take, List.drop_drop]
    simp

theorem outer_run (w : World) (ty : TypeId) (lo : Nat) (a : Option Addr) (c : Nat) (vs : List Value) (v : Value) (N : Nat) (h : Outer w lo a c vs) (hv : w.cell? ⟨N, 0, none⟩ = some v) (h1 : v.oneCell' = true) (hn : vs.length ≤ 4000) (hlo : lo ≤ w.heap.size) :
    ∃ a' c' w', (Builtin.append_ #[31, 31] ty #[.slice a vs.length c, .slice (some ⟨N, 0, none⟩) 1 1]).run Tryd.prog w = .ok (.slice a' (vs.length + 1) c') w' ∧ Outer w' lo a' c' (vs ++ [v]) ∧ w.grownBy w' (blk a) ∧ (∀ g, blk a' = some g → blk a = some g ∨ w.heap.size ≤ g) := by
  obtain ⟨i0, hi, hz0, hz1, hz2⟩ := info_parts Tryd.infoLk
  have hnews : ∀ j u, [v][j]? = some u → w.cell? ((⟨N, 0, none⟩ : Addr).add j) = some u := by
    intro j u hj
    match j, hj with
    | 0, hj =>
      simp at hj
      subst hj
      simpa [Addr.add] using hv
  have hone : ∀ u ∈ [v], u.oneCell' = true := by intro u hu; simp at hu; subst hu; exact h1
  have fin : ∀ (v' : Value) (w' : World), w'.ownsRow w.heap.size 22 1 v' (vs.length + 1) (vs ++ [v]) → ∃ a' c', v' = .slice a' (vs.length + 1) c' ∧ Outer w' lo a' c' (vs ++ [v]) ∧ ∀ g, blk a' = some g → blk a = some g ∨ w.heap.size ≤ g := by
    intro v' w' ho
    rcases ho.2 with ⟨_, h0⟩ | ⟨g, cap, cur, rfl, hb, hh, hnc, hcm, hcs, ht⟩
    · omega
    · refine ⟨_, _, rfl, ⟨hcm, .inr ⟨g, 0, cur, rfl, by omega, hh, by omega, by simpa using hnc, ?_⟩⟩, fun g' hg' => .inr (by simp [blk] at hg'; omega)⟩
      simpa using ht
  rcases h.2 with ⟨rfl, rfl, rfl⟩ | ⟨G, off, cur, rfl, hl, hh, hs, hnc, ht⟩
  · obtain ⟨v', w', hrun, r1, r2, _⟩ := run_append_own (P := Tryd.prog) w w.heap.size 31 ty 22 i0 (.slice none 0 0) 1 24 Tryd.underlying31 hi hz0 hz1 hz2 rfl (by decide) (.slice none 0 0) 0 [] (World.ownsRow_nil w _ 22 1) ⟨N, 0, none⟩ 1 1 [v] rfl hnews hone (by simp [maxLen]) (by decide) (Nat.le_refl _)
    obtain ⟨a', c', rfl, ho, hg⟩ := fin v' w' (by simpa using r1)
    exact ⟨a', c', w', hrun, ho, r2, hg⟩
  · by_cases hroom : vs.length + 1 ≤ c
    · have hcs : off + vs.length < cur.size := by omega
      have hcell : (w.cell? ⟨G, off + vs.length, none⟩).isSome = true := by
        rw [cell_of_row w G (off + vs.length) cur 22 (0, 0) hh]
        simp [hcs]
      have hfz : w.frozen? ⟨G, off + vs.length, none⟩ = false := frozen_of_row w G _ cur 22 hh
      have hrun := run_append_room_cells (P := Tryd.prog) w 31 ty 22 i0 Tryd.underlying31 hi G off vs.length c ⟨N, 0, none⟩ 1 1 [v] (by rw [hz1]; rfl) hnews hone hroom
        (fun j hj => by rw [hz1]; simp at hj; subst hj; simpa using hcell) (fun j hj => by rw [hz1]; simp at hj; subst hj; simpa using hfz)
      rw [hz1, Nat.mul_one] at hrun
      refine ⟨_, _, _, hrun, ⟨h.1, .inr ⟨G, off, cur.setIfInBounds (off + vs.length) v, rfl, hl, ?_, by simpa using hs, by simp; omega, ?_⟩⟩, ?_, fun g hg => .inl hg⟩
      · simp only [World.setCells]
        exact heap_setCell_same w G (off + vs.length) cur 22 v hh
      · rw [Array.toList_setIfInBounds]
        rw [List.drop_set, if_neg (by omega), show off + vs.length - off = vs.length by omega]
        simp only [List.length_append, List.length_singleton]
        have hlen : vs.length < (cur.toList.drop off).length := by simp; omega
        have e2 : vs.length + 1 ≤ ((cur.toList.drop off).set vs.length v).length := by simp; omega
        rw [List.take_succ_eq_append_getElem (by simpa using hlen)]
        simp [List.take_set, ht]
        rw [List.set_eq_of_length_le (by simp)] <;> simp [ht]
      · exact ⟨rfl, rfl, rfl, by simp [World.setCells, World.setCell], fun k _ hk => by
          simp only [World.setCells]
          exact heap_setCell_other w ⟨G, off + vs.length, none⟩ k v (fun e => hk (by simp [blk, e]))⟩
    · have holds : ∀ j u, vs[j]? = some u → w.cell? ((⟨G, off, none⟩ : Addr).add j) = some u := by
        intro j u hj
        have hjl : j < vs.length := by
          rcases Nat.lt_or_ge j vs.length with h | h
          · exact h
          · rw [List.getElem?_eq_none h] at hj; cases hj
        rw [Addr.add_lit, Outer.cell (a := none) h j hjl, hj]
      obtain ⟨v', w', hrun, r1, r2⟩ := run_append_arg_grows (P := Tryd.prog) w 31 ty 22 i0 (.slice none 0 0) 1 24 Tryd.underlying31 hi hz0 hz1 hz2 rfl (by decide) ⟨G, off, none⟩ vs.length c vs (by simp) holds ⟨N, 0, none⟩ 1 1 [v] rfl hnews (by omega) (by unfold maxLen; omega) (by omega)
      obtain ⟨a', c', rfl, ho, hg⟩ := fin v' w' r1
      exact ⟨a', c', w', hrun, ho, ⟨r2.os, r2.tape, r2.output, r2.size, fun k hk _ => r2.block k hk (by simp)⟩, hg⟩



theorem wpList_outer {ops : Array Oper} {rest : List Oper} {o : Oper} {a : Act} {Q : Exit → Act → World → Prop} (w : World) (hgd : o.guard = none) (s x : Operand)
    (ho : o.op = .call { callee := .builtin .append, args := #[s, x], argTypes := #[31, 31] }) (lo : Nat) (a1 : Option Addr) (c1 n : Nat) (vs : List Value) (v : Value) (N : Nat)
    (hs : a.eval s = .slice a1 n c1) (hx : a.eval x = .slice (some ⟨N, 0, none⟩) 1 1) (hl : vs.length = n) (h : Outer w lo a1 c1 vs) (hv : w.cell? ⟨N, 0, none⟩ = some v) (h1 : v.oneCell' = true) (hn : n ≤ 4000) (hlo : lo ≤ w.heap.size)
    (hK : ∀ a' c' w', Outer w' lo a' c' (vs ++ [v]) → w.grownBy w' (blk a1) → (∀ g, blk a' = some g → blk a1 = some g ∨ w.heap.size ≤ g) → wpList Tryd.prog ops Q rest (a.put o.dst (.slice a' (n + 1) c')) w') : wpList Tryd.prog ops Q (o :: rest) a w := by
  subst hl
  refine wpList_plain hgd fun K hK' => ?_
  obtain ⟨a', c', w', hrun, r1, r2, r3⟩ := outer_run w o.type lo a1 c1 vs v N h hv h1 hn hlo
  unfold Oper.wp
  simp [execOp, ho, resolve, invoke, builtin, hs, hx, hrun, Result.andThen]
  exact hK' _ _ (hK a' c' w' r1 r2 r3)

theorem step_outer {ops : Array Oper} {o : Oper} {a : Act} {K : Act → World → Prop} {Q : Exit → Act → World → Prop} {E : Prop} (w : World) (hgd : o.guard = none) (s x : Operand)
    (ho : o.op = .call { callee := .builtin .append, args := #[s, x], argTypes := #[31, 31] }) (lo : Nat) (a1 : Option Addr) (c1 n : Nat) (vs : List Value) (v : Value) (N : Nat)
    (hs : a.eval s = .slice a1 n c1) (hx : a.eval x = .slice (some ⟨N, 0, none⟩) 1 1) (hl : vs.length = n) (h : Outer w lo a1 c1 vs) (hv : w.cell? ⟨N, 0, none⟩ = some v) (h1 : v.oneCell' = true) (hn : n ≤ 4000) (hlo : lo ≤ w.heap.size)
    (hK : ∀ a' c' w', Outer w' lo a' c' (vs ++ [v]) → w.grownBy w' (blk a1) → (∀ g, blk a' = some g → blk a1 = some g ∨ w.heap.size ≤ g) → K (a.put o.dst (.slice a' (n + 1) c')) w') :
    if Region.wanted o (yielded ops a.tmps) = true then Oper.wp Tryd.prog o a w K Q else E := by
  subst hl
  have hw : Region.wanted o (yielded ops a.tmps) = true := by simp [Region.wanted, hgd]
  rw [if_pos hw]
  obtain ⟨a', c', w', hrun, r1, r2, r3⟩ := outer_run w o.type lo a1 c1 vs v N h hv h1 hn hlo
  unfold Oper.wp
  simp [execOp, ho, resolve, invoke, builtin, hs, hx, hrun, Result.andThen]
  exact hK a' c' w' r1 r2 r3

/-- rows of tokens stay as they were -/
def K5 (w w' : World) : Prop := ∀ (k : Nat) (T : TypeId) (cur : Array Value), T = 30 ∨ T = 60 → w.heap[k]? = some (Obj.cells cur T (0, 0)) → w'.heap[k]? = w.heap[k]?
theorem K5.refl (w : World) : K5 w w := fun _ _ _ _ _ => rfl
theorem K5.trans {a b c : World} (h : K5 a b) (k : K5 b c) : K5 a c := fun g T cur hT hg => by
  rw [k g T cur hT (by rw [h g T cur hT hg]; exact hg), h g T cur hT hg]
theorem K5.alloc (w : World) (o : Obj) : K5 w (w.alloc o) := fun k T cur hT hk => Below.heap_alloc w o k (Array.getElem?_eq_some_iff.1 hk).1
theorem K5.set {w : World} {B : Nat} {cur : Array Value} {T : TypeId} (hB : w.heap[B]? = some (.cells cur T (0, 0))) (hT : T ≠ 30 ∧ T ≠ 60) (i : Nat) (v : Value) : K5 w (w.setCell ⟨B, i, none⟩ v) := fun k T' c hT' hk => by
  refine heap_setCell_other w ⟨B, i, none⟩ k v (fun e => ?_)
  have e' : k = B := e
  subst e'
  rw [hB] at hk
  simp at hk
  rcases hT' with h | h
  · exact hT.1 (hk.2.trans h)
  · exact hT.2 (hk.2.trans h)
theorem K5.grown {w w' : World} {lo : Nat} {a : Option Addr} {c : Nat} {vs : List Value} (ho : Outer w lo a c vs) (h : w.grownBy w' (blk a)) : K5 w w' := fun k T cur hT hk => by
  refine h.block k (Array.getElem?_eq_some_iff.1 hk).1 (fun e => ?_)
  rcases ho.2 with ⟨rfl, _⟩ | ⟨G, off, cu, rfl, _, hh, _⟩
  · cases e
  · simp [blk] at e
    subst e
    rw [hh] at hk
    simp at hk
    have e2 := hk.2
    rcases hT with h | h <;> (rw [h] at e2; exact absurd e2 (by decide))

/-- the bytes ts lie in a row of their own, at block lo or behind it; or the slice is nil -/
def OwnT (w : World) (lo : Nat) (a : Option Addr) (c : Nat) (ts : List Tm) : Prop := True ∧ w.ownsRow lo 30 2 (.slice a ts.length c) ts.length (rowT ts)

structure Ent where
  a : Option Addr
  cap : Nat
  zs : List Tm
  wa : Option Addr
  wc : Nat
def Ent.val (e : Ent) : Value := .slice e.a e.zs.length e.cap
def Ent.wal (e : Ent) : Value := .slice e.wa e.zs.length e.wc
theorem OwnT.kept {w w' : World} {lo : Nat} {a : Option Addr} {c : Nat} {ts : List Tm} (h : OwnT w lo a c ts) (hk : K5 w w') : OwnT w' lo a c ts := by
  refine ⟨h.1, h.2.1, ?_⟩
  rcases h.2.2 with h | ⟨g, cap, cur, h1, hb, hh, hr⟩
  · exact .inl h
  · exact .inr ⟨g, cap, cur, h1, hb, by rw [hk g 30 cur (.inl rfl) hh]; exact hh, hr⟩
theorem OwnT.lies {w : World} {lo : Nat} {a : Option Addr} {c : Nat} {ts : List Tm} (h : OwnT w lo a c ts) : TmLies w a ts := own_tmLies h.2
theorem OwnT.mono {w : World} {lo lo' : Nat} {a : Option Addr} {c : Nat} {ts : List Tm} (h : OwnT w lo a c ts) (hl : lo' ≤ lo) : OwnT w lo' a c ts := ⟨h.1, own_mono h.2 hl⟩
def Entry (w : World) (B : Nat) (e : Ent) : Prop := OwnT w (B + 1) e.a e.cap e.zs ∧ OwnT w (B + 1) e.wa e.wc e.zs ∧ e.zs.length ≤ 9000000
theorem Entry.kept {w w' : World} {B : Nat} {e : Ent} (h : Entry w B e) (hk : K5 w w') : Entry w' B e := ⟨h.1.kept hk, h.2.1.kept hk, h.2.2⟩

/-- the book at block B: what its two lists and its numbers are -/
structure BR (w : World) (B : Nat) (vs1 vs2 : List Value) (n1 n2 : Nat) (a1 a2 : Option Addr) (c1 c2 : Nat) (held : Int) : Prop where
  blkB : w.heap[B]? = some (.cells #[.slice a1 n1 c1, .slice a2 n2 c2, .int .i64 held, .bool false] 33 (0, 0))
  l1 : vs1.length = n1
  l2 : vs2.length = n2
  o1 : Outer w (B + 1) a1 c1 vs1
  o2 : Outer w (B + 1) a2 c2 vs2
  ne : ∀ g, blk a1 = some g → blk a2 ≠ some g

section
variable {w : World} {B : Nat} {vs1 vs2 : List Value} {n1 n2 : Nat} {a1 a2 : Option Addr} {c1 c2 : Nat} {held : Int}
theorem BR.q0 (h : BR w B vs1 vs2 n1 n2 a1 a2 c1 c2 held) : w.cell? ⟨B, 0, none⟩ = some (.slice a1 n1 c1) := by rw [cell_of_row w B 0 _ 33 (0, 0) h.blkB]; rfl
theorem BR.q1 (h : BR w B vs1 vs2 n1 n2 a1 a2 c1 c2 held) : w.cell? ⟨B, 1, none⟩ = some (.slice a2 n2 c2) := by rw [cell_of_row w B 1 _ 33 (0, 0) h.blkB]; rfl
theorem BR.q2 (h : BR w B vs1 vs2 n1 n2 a1 a2 c1 c2 held) : w.cell? ⟨B, 2, none⟩ = some (.int .i64 held) := by rw [cell_of_row w B 2 _ 33 (0, 0) h.blkB]; rfl
theorem BR.q3 (h : BR w B vs1 vs2 n1 n2 a1 a2 c1 c2 held) : w.cell? ⟨B, 3, none⟩ = some (.bool false) := by rw [cell_of_row w B 3 _ 33 (0, 0) h.blkB]; rfl
theorem BR.fz (h : BR w B vs1 vs2 n1 n2 a1 a2 c1 c2 held) (i : Nat) : w.frozen? ⟨B, i, none⟩ = false := frozen_of_row w B i _ 33 h.blkB
theorem BR.lt (h : BR w B vs1 vs2 n1 n2 a1 a2 c1 c2 held) : B < w.heap.size := (Array.getElem?_eq_some_iff.1 h.blkB).1
theorem BR.kept (h : BR w B vs1 vs2 n1 n2 a1 a2 c1 c2 held) {w' : World} (hk : ∀ k, k < w.heap.size → w'.heap[k]? = w.heap[k]?) : BR w' B vs1 vs2 n1 n2 a1 a2 c1 c2 held :=
  ⟨by rw [hk B h.lt]; exact h.blkB, h.l1, h.l2, h.o1.kept fun g hg => hk g (h.o1.lt hg).2, h.o2.kept fun g hg => hk g (h.o2.lt hg).2, h.ne⟩
theorem BR.alloc (h : BR w B vs1 vs2 n1 n2 a1 a2 c1 c2 held) (o : Obj) : BR (w.alloc o) B vs1 vs2 n1 n2 a1 a2 c1 c2 held := h.kept fun k hk => Below.heap_alloc w o k hk

/-- the first list, appended to and stored back -/
theorem BR.app1 (h : BR w B vs1 vs2 n1 n2 a1 a2 c1 c2 held) {v : Value} {a' : Option Addr} {c' : Nat} {w' : World} (ho : Outer w' (B + 1) a' c' (vs1 ++ [v])) (hg : w.grownBy w' (blk a1)) (hb : ∀ g, blk a' = some g → blk a1 = some g ∨ w.heap.size ≤ g) :
    BR (w'.setCell ⟨B, 0, none⟩ (.slice a' (n1 + 1) c')) B (vs1 ++ [v]) vs2 (n1 + 1) n2 a' a2 c' c2 held := by
  have hB1 : ∀ g, blk a1 = some g → B < g := fun g hg => (h.o1.lt hg).1
  have hblk : w'.heap[B]? = w.heap[B]? := hg.block B h.lt (fun e => by have := hB1 B e.symm; omega)
  have hB : w'.heap[B]? = some (.cells #[.slice a1 n1 c1, .slice a2 n2 c2, .int .i64 held, .bool false] 33 (0, 0)) := by rw [hblk]; exact h.blkB
  have hoth : ∀ k, k ≠ B → (w'.setCell ⟨B, 0, none⟩ (.slice a' (n1 + 1) c')).heap[k]? = w'.heap[k]? := fun k hk => heap_setCell_other w' ⟨B, 0, none⟩ k _ hk
  refine ⟨?_, by simp [h.l1], h.l2, ho.kept fun g hgg => hoth g (by have := (ho.lt hgg).1; omega), ?_, ?_⟩
  · rw [heap_setCell_same w' B 0 _ 33 _ hB]
    rfl
  · refine h.o2.kept fun g hgg => ?_
    have := h.o2.lt hgg
    rw [hoth g (by omega)]
    exact hg.block g this.2 (fun e => h.ne g e.symm hgg)
  · intro g hgg
    rcases hb g hgg with e | e
    · exact h.ne g e
    · intro h2
      have := (h.o2.lt h2).2
      omega
/-- the second list, appended to and stored back -/
theorem BR.app2 (h : BR w B vs1 vs2 n1 n2 a1 a2 c1 c2 held) {v : Value} {a' : Option Addr} {c' : Nat} {w' : World} (ho : Outer w' (B + 1) a' c' (vs2 ++ [v])) (hg : w.grownBy w' (blk a2)) (hb : ∀ g, blk a' = some g → blk a2 = some g ∨ w.heap.size ≤ g) :
    BR (w'.setCell ⟨B, 1, none⟩ (.slice a' (n2 + 1) c')) B vs1 (vs2 ++ [v]) n1 (n2 + 1) a1 a' c1 c' held := by
  have hB1 : ∀ g, blk a2 = some g → B < g := fun g hg => (h.o2.lt hg).1
  have hblk : w'.heap[B]? = w.heap[B]? := hg.block B h.lt (fun e => by have := hB1 B e.symm; omega)
  have hB : w'.heap[B]? = some (.cells #[.slice a1 n1 c1, .slice a2 n2 c2, .int .i64 held, .bool false] 33 (0, 0)) := by rw [hblk]; exact h.blkB
  have hoth : ∀ k, k ≠ B → (w'.setCell ⟨B, 1, none⟩ (.slice a' (n2 + 1) c')).heap[k]? = w'.heap[k]? := fun k hk => heap_setCell_other w' ⟨B, 1, none⟩ k _ hk
  refine ⟨?_, h.l1, by simp [h.l2], ?_, ho.kept fun g hgg => hoth g (by have := (ho.lt hgg).1; omega), ?_⟩
  · rw [heap_setCell_same w' B 1 _ 33 _ hB]
    rfl
  · refine h.o1.kept fun g hgg => ?_
    have := h.o1.lt hgg
    rw [hoth g (by omega)]
    exact hg.block g this.2 (fun e => h.ne g hgg e.symm)
  · intro g hgg h2
    rcases hb g h2 with e | e
    · exact h.ne g hgg e
    · have := (h.o1.lt hgg).2
      omega
theorem BR.set2 (h : BR w B vs1 vs2 n1 n2 a1 a2 c1 c2 held) (x : Int) : BR (w.setCell ⟨B, 2, none⟩ (.int .i64 x)) B vs1 vs2 n1 n2 a1 a2 c1 c2 x := by
  have hoth : ∀ k, k ≠ B → (w.setCell ⟨B, 2, none⟩ (.int .i64 x)).heap[k]? = w.heap[k]? := fun k hk => heap_setCell_other w ⟨B, 2, none⟩ k _ hk
  refine ⟨?_, h.l1, h.l2, h.o1.kept fun g hg => hoth g (by have := (h.o1.lt hg).1; omega), h.o2.kept fun g hg => hoth g (by have := (h.o2.lt hg).1; omega), h.ne⟩
  rw [heap_setCell_same w B 2 _ 33 _ h.blkB]
  rfl
theorem BR.set3 (h : BR w B vs1 vs2 n1 n2 a1 a2 c1 c2 held) : BR (w.setCell ⟨B, 3, none⟩ (.bool false)) B vs1 vs2 n1 n2 a1 a2 c1 c2 held := by
  have hoth : ∀ k, k ≠ B → (w.setCell ⟨B, 3, none⟩ (.bool false)).heap[k]? = w.heap[k]? := fun k hk => heap_setCell_other w ⟨B, 3, none⟩ k _ hk
  refine ⟨?_, h.l1, h.l2, h.o1.kept fun g hg => hoth g (by have := (h.o1.lt hg).1; omega), h.o2.kept fun g hg => hoth g (by have := (h.o2.lt hg).1; omega), h.ne⟩
  rw [heap_setCell_same w B 3 _ 33 _ h.blkB]
  rfl
/-- the first list, cut at its head -/
theorem BR.cut1 {v : Value} {n G off : Nat} (h : BR w B (v :: vs1) vs2 (n + 1) n2 (some ⟨G, off, none⟩) a2 c1 c2 held) : BR (w.setCell ⟨B, 0, none⟩ (.slice (some ⟨G, off + 1, none⟩) n (c1 - 1))) B vs1 vs2 n n2 (some ⟨G, off + 1, none⟩) a2 (c1 - 1) c2 held := by
  have hoth : ∀ k, k ≠ B → (w.setCell ⟨B, 0, none⟩ (.slice (some ⟨G, off + 1, none⟩) n (c1 - 1))).heap[k]? = w.heap[k]? := fun k hk => heap_setCell_other w ⟨B, 0, none⟩ k _ hk
  have hl := h.l1
  simp at hl
  refine ⟨?_, hl, h.l2, h.o1.tail.kept fun g hg => hoth g (by have := (h.o1.lt (g := g) hg).1; omega), h.o2.kept fun g hg => hoth g (by have := (h.o2.lt hg).1; omega), fun g hg => h.ne g hg⟩
  rw [heap_setCell_same w B 0 _ 33 _ h.blkB]
  rfl
theorem BR.cut2 {v : Value} {n G off : Nat} (h : BR w B vs1 (v :: vs2) n1 (n + 1) a1 (some ⟨G, off, none⟩) c1 c2 held) : BR (w.setCell ⟨B, 1, none⟩ (.slice (some ⟨G, off + 1, none⟩) n (c2 - 1))) B vs1 vs2 n1 n a1 (some ⟨G, off + 1, none⟩) c1 (c2 - 1) held := by
  have hoth : ∀ k, k ≠ B → (w.setCell ⟨B, 1, none⟩ (.slice (some ⟨G, off + 1, none⟩) n (c2 - 1))).heap[k]? = w.heap[k]? := fun k hk => heap_setCell_other w ⟨B, 1, none⟩ k _ hk
  have hl := h.l2
  simp at hl
  refine ⟨?_, h.l1, hl, h.o1.kept fun g hg => hoth g (by have := (h.o1.lt hg).1; omega), h.o2.tail.kept fun g hg => hoth g (by have := (h.o2.lt (g := g) hg).1; omega), fun g hg => h.ne g hg⟩
  rw [heap_setCell_same w B 1 _ 33 _ h.blkB]
  rfl
end

theorem copy_run (w : World) (ty : TypeId) (lo : Nat) (a : Option Addr) (c : Nat) (ts : List Tm) (h : OwnT w lo a c ts) (hm : ts.length ≤ 9000000) :
    ∃ wa wc w', (Builtin.append_ #[22, 22] ty #[.slice none 0 0, .slice a ts.length c]).run Tryd.prog w = .ok (.slice wa ts.length wc) w' ∧ OwnT w' w.heap.size wa wc ts ∧ w.grownBy w' none := by
  obtain ⟨i0, hi, hz0, hz1, hz2⟩ := info_parts Tryd.infoTk
  have fin : ∀ (v' : Value) (w' : World), w'.ownsRow w.heap.size 30 2 v' (0 + ts.length) ([] ++ rowT ts) → ∃ wa wc, v' = .slice wa ts.length wc ∧ OwnT w' w.heap.size wa wc ts := by
    intro v' w' ho
    rw [Nat.zero_add, List.nil_append] at ho
    obtain ⟨wa, wc, rfl, hg⟩ := own_got ho
    exact ⟨wa, wc, rfl, h.1, hg⟩
  rcases h.2.2 with ⟨h1, h0⟩ | ⟨g, cap, cur, h1, hb, hh, hnc, hcm, hcs, ht⟩
  · have hts : ts = [] := List.eq_nil_of_length_eq_zero h0
    subst hts
    simp only [List.length_nil, Value.slice.injEq, true_and] at h1
    obtain ⟨rfl, rfl⟩ := h1
    refine ⟨none, 0, w, ?_, ⟨h.1, World.ownsRow_nil _ _ _ _⟩, ⟨rfl, rfl, rfl, Nat.le_refl _, fun _ _ _ => rfl⟩⟩
    simp [Builtin.append_, run_underlying Tryd.underlying22, sizeOf, typeInfo, hi, Builtin.lenOf, Builtin.firstCells]
  · cases h1
    obtain ⟨v', w', hrun, r1, r2, _⟩ := run_append_own (P := Tryd.prog) w w.heap.size 22 ty 30 i0 (.agg #[.string ⟨#[]⟩, .int .u32 0]) 2 24 Tryd.underlying22 hi hz0 hz1 hz2 rfl (by decide) (.slice none 0 0) 0 [] (World.ownsRow_nil w _ 30 2) ⟨g, 0, none⟩ ts.length c (rowT ts) (rowT_length ts)
      (fun j u hj => World.ownsRow.cells h.2 rfl j u hj) (rowT_one ts) (by unfold maxLen; omega) (by omega) (Nat.le_refl _)
    obtain ⟨wa, wc, rfl, ho⟩ := fin v' w' r1
    exact ⟨wa, wc, w', hrun, ho, r2⟩

theorem step_copy {ops : Array Oper} {o : Oper} {a : Act} {K : Act → World → Prop} {Q : Exit → Act → World → Prop} {E : Prop} (w : World) (hgd : o.guard = none) (s x : Operand)
    (ho : o.op = .call { callee := .builtin .append, args := #[s, x], argTypes := #[22, 22] }) (lo : Nat) (a1 : Option Addr) (c1 : Nat) (ts : List Tm)
    (hs : a.eval s = .slice none 0 0) (hx : a.eval x = .slice a1 ts.length c1) (h : OwnT w lo a1 c1 ts) (hm : ts.length ≤ 9000000)
    (hK : ∀ wa wc w', OwnT w' w.heap.size wa wc ts → w.grownBy w' none → K (a.put o.dst (.slice wa ts.length wc)) w') :
    if Region.wanted o (yielded ops a.tmps) = true then Oper.wp Tryd.prog o a w K Q else E := by
  have hw : Region.wanted o (yielded ops a.tmps) = true := by simp [Region.wanted, hgd]
  rw [if_pos hw]
  obtain ⟨wa, wc, w', hrun, r1, r2⟩ := copy_run w o.type lo a1 c1 ts h hm
  unfold Oper.wp
  simp [execOp, ho, resolve, invoke, builtin, hs, hx, hrun, Result.andThen]
  exact hK wa wc w' r1 r2
end Go.Proofs.YtijdjljnppkhmabDoor.Bk
/- A book of lists of terms: Keep. -/
namespace Go.Proofs.YtijdjljnppkhmabDoor.Bk
open Go.ChangeShapes Go.WideShapes Go.ChangeAt Go.RowKit
set_option linter.unusedVariables false
set_option maxRecDepth 100000


theorem BR.far1 {w : World} {B : Nat} {vs1 vs2 : List Value} {n1 n2 : Nat} {a1 a2 : Option Addr} {c1 c2 : Nat} {held : Int} (h : BR w B vs1 vs2 n1 n2 a1 a2 c1 c2 held) {w' : World} (hg : w.grownBy w' (blk a1)) (i : Nat) :
    w'.cell? ⟨B, i, none⟩ = w.cell? ⟨B, i, none⟩ ∧ w'.frozen? ⟨B, i, none⟩ = false := by
  have hne : some B ≠ blk a1 := fun e => by have := (h.o1.lt e.symm).1; omega
  exact ⟨hg.cell_far _ h.lt hne, by rw [hg.frozen_far _ h.lt hne]; exact h.fz i⟩
theorem BR.far2 {w : World} {B : Nat} {vs1 vs2 : List Value} {n1 n2 : Nat} {a1 a2 : Option Addr} {c1 c2 : Nat} {held : Int} (h : BR w B vs1 vs2 n1 n2 a1 a2 c1 c2 held) {w' : World} (hg : w.grownBy w' (blk a2)) (i : Nat) :
    w'.cell? ⟨B, i, none⟩ = w.cell? ⟨B, i, none⟩ ∧ w'.frozen? ⟨B, i, none⟩ = false := by
  have hne : some B ≠ blk a2 := fun e => by have := (h.o2.lt e.symm).1; omega
  exact ⟨hg.cell_far _ h.lt hne, by rw [hg.frozen_far _ h.lt hne]; exact h.fz i⟩


theorem drew_grown {w w' : World} {r : Option Nat} (h : w.drew.grownBy w' r) : w.grownBy w' r := ⟨h.os, h.tape, h.output, h.size, h.block⟩
theorem lies_drew {w : World} {a : Option Addr} {ts : List Tm} (h : TmLies w a ts) (n : Nat) : TmLies (w.drewN n) a ts := h.belowM (below_drewN (Below.refl w.heap.size w) n)

theorem mid_rel {w w2 w3 w4 : World} {B n1 n : Nat} {us1 vs2 : List Value} {zs : List Tm} {wa : Option Addr} {wc : Nat} {a1 a2 a2' : Option Addr} {c1 c2 c2' : Nat} {held : Int} {o : Obj} (h : BR w2 B us1 vs2 n1 n a1 a2 c1 c2 held)
    (hown3 : OwnT w3 w2.heap.size wa wc zs) (hgrow3 : w2.grownBy w3 none)
    (hO2 : Outer w4 (B + 1) a2' c2' (vs2 ++ [.slice wa zs.length wc])) (hG2 : (w3.alloc o).grownBy w4 (blk a2)) (hN2 : ∀ g, blk a2' = some g → blk a2 = some g ∨ (w3.alloc o).heap.size ≤ g) (k2 : K5 w w2) (hb2 : Below B w w2) :
    ∃ b2 d2 wa wc, BR (w4.setCell ⟨B, 1, none⟩ (.slice a2' (n + 1) c2')) B us1 (vs2 ++ [.slice wa zs.length wc]) n1 (n + 1) a1 b2 c1 d2 held ∧ OwnT (w4.setCell ⟨B, 1, none⟩ (.slice a2' (n + 1) c2')) (B + 1) wa wc zs ∧ K5 w (w4.setCell ⟨B, 1, none⟩ (.slice a2' (n + 1) c2')) ∧ Below B w (w4.setCell ⟨B, 1, none⟩ (.slice a2' (n + 1) c2')) := by
  have hst : ∀ k, k < w2.heap.size → w3.heap[k]? = w2.heap[k]? := fun k hk => hgrow3.block k hk (by simp)
  have h3 := h.kept (w' := w3) hst
  have h4 := h3.alloc o
  have hB := h.lt
  have hfin := h4.app2 hO2 hG2 hN2
  have k3 : K5 w2 w3 := fun k T cur hT hk => hst k (Array.getElem?_eq_some_iff.1 hk).1
  have k4 : K5 w3 (w4.setCell ⟨B, 1, none⟩ (.slice a2' (n + 1) c2')) := (K5.alloc w3 o).trans ((K5.grown h4.o2 hG2).trans (K5.set (by rw [hG2.block B h4.lt (fun e => by have := (h4.o2.lt e.symm).1; omega)]; exact h4.blkB) (by decide) _ _))
  have hgot : OwnT w3 (B + 1) wa wc zs := hown3.mono (by omega)
  have hb3 : Below B w2 w3 := ⟨hgrow3.os, hgrow3.tape, hgrow3.output, hgrow3.size, fun k hk => hst k (by omega)⟩
  have hb4 : Below B w3 (w4.setCell ⟨B, 1, none⟩ (.slice a2' (n + 1) c2')) := (((Below.refl B w3).alloc (by have := h3.lt; omega) o).grown hG2 (by have := h4.lt; omega) (fun k hk => by have := (h4.o2.lt hk).1; omega)).setCell (Nat.le_refl _) _
  exact ⟨a2', c2', wa, wc, hfin, hgot.kept k4, k2.trans (k3.trans k4), hb2.trans (hb3.trans hb4)⟩

theorem BR.five {w : World} {B m G1 o1 G2 o2 d1 d2 : Nat} {v1 v2 : Value} {us1 us2 : List Value} {hd : Int} (h : BR w B (v1 :: us1) (v2 :: us2) (m + 1) (m + 1) (some ⟨G1, o1, none⟩) (some ⟨G2, o2, none⟩) d1 d2 hd) :
    w.cell? ⟨B, 3, none⟩ = some (.bool false) ∧ w.cell? ⟨B, 0, none⟩ = some (.slice (some ⟨G1, o1, none⟩) (m + 1) d1) ∧ w.cell? ⟨B, 1, none⟩ = some (.slice (some ⟨G2, o2, none⟩) (m + 1) d2) ∧ w.cell? ⟨G1, o1, none⟩ = some v1 ∧ w.cell? ⟨G2, o2, none⟩ = some v2 := by
  have p1 := h.o1.cell (a := none) 0 (by simp)
  have p2 := h.o2.cell (a := none) 0 (by simp)
  simp only [List.getElem?_cons_zero, Nat.add_zero] at p1 p2
  exact ⟨h.q3, h.q0, h.q1, p1, p2⟩
theorem BR.drewN {w : World} {B n1 n2 : Nat} {vs1 vs2 : List Value} {a1 a2 : Option Addr} {c1 c2 : Nat} {hd : Int} (h : BR w B vs1 vs2 n1 n2 a1 a2 c1 c2 hd) (q : Nat) : BR (w.drewN q) B vs1 vs2 n1 n2 a1 a2 c1 c2 hd := h.kept fun k _ => rfl
theorem K5.drewN (w : World) (q : Nat) : K5 w (w.drewN q) := fun _ _ _ _ _ => rfl

/-- the book at block B holds the lists es -/
def BS (w : World) (B : Nat) (es : List Ent) (a1 a2 : Option Addr) (c1 c2 : Nat) (held : Int) : Prop :=
  BR w B (es.map Ent.val) (es.map Ent.wal) es.length es.length a1 a2 c1 c2 held ∧ ∀ e ∈ es, Entry w B e

theorem cut_k5 {wc : World} {B gk n2 G1 o1 d1 d2 : Nat} {v1 : Value} {us1 vs2 : List Value} {a2 : Option Addr} {hx : Int} {V0 V1 : Value} (h : BR wc B (v1 :: us1) vs2 (gk + 1) n2 (some ⟨G1, o1, none⟩) a2 d1 d2 hx) :
    K5 wc ((wc.setCell ⟨B, 0, none⟩ V0).setCell ⟨B, 1, none⟩ V1) :=
  (K5.set h.blkB (by decide) _ _).trans (K5.set (heap_setCell_same wc B 0 _ 33 V0 h.blkB) (by decide) _ _)
theorem cut_end {wr wc : World} {B gk G1 o1 G2 o2 d1 d2 j : Nat} {e0 : Ent} {r es1 : List Ent} {us1 us2 : List Value} {hx : Int} (h : BR wc B (e0.val :: us1) (e0.wal :: us2) (gk + 1) (gk + 1) (some ⟨G1, o1, none⟩) (some ⟨G2, o2, none⟩) d1 d2 hx)
    (hE : ∀ e ∈ e0 :: r, Entry wr B e) (k5 : K5 wr wc) (hu1 : us1 = r.map Ent.val) (hu2 : us2 = r.map Ent.wal) (hes : es1.drop j = e0 :: r) :
    BS ((wc.setCell ⟨B, 0, none⟩ (.slice (some ⟨G1, o1 + 1, none⟩) gk (d1 - 1))).setCell ⟨B, 1, none⟩ (.slice (some ⟨G2, o2 + 1, none⟩) gk (d2 - 1))) B (es1.drop (j + 1)) (some ⟨G1, o1 + 1, none⟩) (some ⟨G2, o2 + 1, none⟩) (d1 - 1) (d2 - 1) hx := by
  have e : es1.drop (j + 1) = r := by
    have := congrArg List.tail hes
    rw [List.tail_drop] at this
    simpa using this
  have hl : r.length = gk := by
    have := h.l1
    rw [hu1] at this
    simpa using this
  rw [e]
  refine ⟨?_, fun e he => (hE e (by simp [he])).kept (k5.trans (cut_k5 h))⟩
  rw [hl, ← hu1, ← hu2]
  exact (h.cut1).cut2

/-- behind a Keep: the new list stands behind the others, of which some may have been let go -/
def KeptMore (w w' : World) (B : Nat) (es : List Ent) (a0 : Option Addr) (cap : Nat) (zs : List Tm) : Prop :=
  ∃ wa wc j a1 a2 c1 c2 held, j ≤ es.length ∧ BS w' B ((es ++ [Ent.mk a0 cap zs wa wc]).drop j) a1 a2 c1 c2 held ∧ K5 w w' ∧ Below B w w'

set_option maxRecDepth 100000 in
set_option maxHeartbeats 1600000 in
theorem keep_any (B cap : Nat) (a0 : Option Addr) (zs : List Tm) (es : List Ent) (a1 a2 : Option Addr) (c1 c2 : Nat) (held : Int) (w : World)
    (hS : BS w B es a1 a2 c1 c2 held) (hn : es.length ≤ 100) (hr : OwnT w (B + 1) a0 cap zs) (hzm : zs.length ≤ 9000000) (hcapm : cap ≤ 9223372036854775807) :
    Calls Tryd.prog 9 #[.pointer (some ⟨B, 0, none⟩), .slice a0 zs.length cap] w fun e w' => e = .returned (.tuple #[]) ∧ KeptMore w w' B es a0 cap zs := by
  obtain ⟨h, hE⟩ := hS
  obtain ⟨n, hne⟩ : ∃ n, n = es.length := ⟨_, rfl⟩
  obtain ⟨vs1, hv1⟩ : ∃ vs1, vs1 = es.map Ent.val := ⟨_, rfl⟩
  obtain ⟨vs2, hv2⟩ : ∃ vs2, vs2 = es.map Ent.wal := ⟨_, rfl⟩
  rw [← hne, ← hv1, ← hv2] at h
  rw [← hne] at hn
  have HV : Hid (n = es.length ∧ vs1 = es.map Ent.val ∧ vs2 = es.map Ent.wal ∧ ∀ e ∈ es, Entry w B e) := ⟨hne, hv1, hv2, hE⟩
  clear hne hv1 hv2 hE
  have q0 := h.q0
  have f0 := h.fz 0
  have hl1 := h.l1
  obtain ⟨o26, ho26⟩ : ∃ o26 : Obj, o26 = .cells #[.slice a0 zs.length cap] 22 := ⟨_, rfl⟩
  have hA := h.alloc o26
  have Hh : Hid (BR (w.alloc o26) B vs1 vs2 n n a1 a2 c1 c2 held) := hA
  have ho1 := hA.o1
  have hBs := h.lt
  have qA := hA.q0
  subst ho26
  clear hA
  go_enter Tryd.func9, Tryd.ntmps9
  go_wp2_with (first
    | (at_builtin; go_must (refine wpList_outer _ rfl (.tmp 8) (.tmp 10) rfl (B + 1) a1 c1 n vs1 (.slice a0 zs.length cap) w.heap.size rfl rfl hl1 ho1 (by simp) rfl (by omega) (by simp; omega) ?_); intro a1' c1' w1 hO1 hG1 hN1; have qw := (Hh.out.far1 hG1 0).1; have fw := (Hh.out.far1 hG1 0).2; rw [Hh.out.q0] at qw))
  have hBR := Hh.out.app1 hO1 hG1 hN1
  have hb2 : Below B w (w1.setCell ⟨B, 0, none⟩ (.slice a1' (n + 1) c1')) := (((Below.refl B w).alloc (by omega) _).grown hG1 (by simp; omega) (fun k hk => by have := (ho1.lt hk).1; omega)).setCell (Nat.le_refl _) _
  have k2 : K5 w (w1.setCell ⟨B, 0, none⟩ (.slice a1' (n + 1) c1')) := (K5.alloc w _).trans ((K5.grown ho1 hG1).trans (K5.set (by rw [hG1.block B (by simp; omega) (fun e => by have := (ho1.lt e.symm).1; omega)]; exact Hh.out.blkB) (by decide) _ _))
  clear qw fw hO1 hG1 hN1 qA q0 f0 hl1 ho1 Hh h
  generalize (w1.setCell ⟨B, 0, none⟩ (.slice a1' (n + 1) c1')) = w2 at hBR hb2 k2 ⊢
  clear w1
  have hr2 := hr.kept k2
  have hB2 := hBR.lt
  have q1 := hBR.q1
  have hl2 := hBR.l2
  have HB : Hid (BR w2 B (vs1 ++ [.slice a0 zs.length cap]) vs2 (n + 1) n a1' a2 c1' c2 held) := hBR
  clear hBR
  have HN : Hid (OwnT w2 (B + 1) a0 cap zs) := hr2
  clear hr2
  go_cut [] (fun wx => ∃ a2' c2' wa wc, BR wx B (vs1 ++ [.slice a0 zs.length cap]) (vs2 ++ [.slice wa zs.length wc]) (n + 1) (n + 1) a1' a2' c1' c2' held ∧ OwnT wx (B + 1) wa wc zs ∧ K5 w wx ∧ Below B w wx)
  case first =>
    go_region_law (first | (refine step_copy _ (by rfl) (.const (.slice none 0 0)) (.tmp 19) (by rfl) (B + 1) a0 cap zs (by rfl) (by rfl) HN.out (by omega) ?_; intro wa3 wc3 w3 hown3 hgrow3; have q3 := BR.q1 (HB.out.kept (w' := w3) (fun k hk => hgrow3.block k hk (by simp))); have q3a := fun o => BR.q1 ((HB.out.kept (w' := w3) (fun k hk => hgrow3.block k hk (by simp))).alloc o)) | (refine step_outer _ (by rfl) (.tmp 18) (.tmp 21) (by rfl) (B + 1) a2 c2 n vs2 (.slice wa3 zs.length wc3) w3.heap.size (by rfl) (by rfl) hl2 ((HB.out.kept (w' := w3) (fun k hk => hgrow3.block k hk (by simp))).alloc _).o2 (by simp) rfl (by omega) (by have : w2.heap.size ≤ w3.heap.size := hgrow3.size; simp; omega) ?_; intro a2' c2' w4 hO2 hG2 hN2; have qw4 := (BR.far2 ((HB.out.kept (w' := w3) (fun k hk => hgrow3.block k hk (by simp))).alloc _) hG2 1).1.trans (BR.q1 ((HB.out.kept (w' := w3) (fun k hk => hgrow3.block k hk (by simp))).alloc _)); have fw4 := (BR.far2 ((HB.out.kept (w' := w3) (fun k hk => hgrow3.block k hk (by simp))).alloc _) hG2 1).2))
    all_goals (go_wp2_with fail; go_meet)
    all_goals exact mid_rel HB.out hown3 (drew_grown hgrow3) hO2 hG2 hN2 k2 hb2
  case rest =>
    obtain ⟨a2', c2', wa, wp, hBR, hgot, k3, hb3⟩ := hcut
    obtain ⟨hne, hv1, hv2, hE⟩ := HV.out
    obtain ⟨es1, hes1⟩ : ∃ es1, es1 = es ++ [Ent.mk a0 cap zs wa wp] := ⟨_, rfl⟩
    have hS1 : BS wc B es1 a1' a2' c1' c2' held := by
      refine ⟨?_, ?_⟩
      · rw [hes1, List.map_append, List.map_append, ← hv1, ← hv2, List.length_append, ← hne]
        exact hBR
      · intro e he
        rw [hes1] at he
        rcases List.mem_append.1 he with he | he
        · exact (hE e he).kept k3
        · simp at he
          subst he
          exact ⟨hr.kept k3, hgot, hzm⟩
    have hlen1 : es1.length = n + 1 := by rw [hes1]; simp [hne]
    have HE : Hid (es1 = es ++ [Ent.mk a0 cap zs wa wp] ∧ es1.length = n + 1 ∧ n = es.length) := ⟨hes1, hlen1, hne⟩
    have q2 := hBR.q2
    have f2 := hBR.fz 2
    have hS2 : ∀ x, BS (wc.setCell ⟨B, 2, none⟩ (.int .i64 x)) B es1 a1' a2' c1' c2' x := fun x => ⟨hS1.1.set2 x, fun e he => (hS1.2 e he).kept (K5.set hBR.blkB (by decide) _ _)⟩
    have k4 : ∀ x, K5 w (wc.setCell ⟨B, 2, none⟩ (.int .i64 x)) := fun x => k3.trans (K5.set hBR.blkB (by decide) _ _)
    have hb4 : ∀ x, Below B w (wc.setCell ⟨B, 2, none⟩ (.int .i64 x)) := fun x => hb3.setCell (Nat.le_refl _) _
    clear hes1 hlen1 hne hv1 hv2 hE HV hBR hS1 k3 hb3 hgot k2 hb2 HB HN hl2 q1
    go_wp2
    go_loopg [] n (fun k wr => ∃ j a1 a2 c1 c2 hd, j + k = n ∧ BS wr B (es1.drop j) a1 a2 c1 c2 hd ∧ K5 w wr ∧ Below B w wr)
    case atStart => exact ⟨0, _, _, _, _, _, by omega, hS2 _, k4 _, hb4 _⟩
    case round =>
      obtain ⟨j, b1, b2, d1, d2, hd, hjk, hS, hk5, hbel⟩ := hrel
      clear hS2 k4 hb4 q2 f2
      obtain ⟨ls, hls⟩ : ∃ ls, ls = es1.drop j := ⟨_, rfl⟩
      obtain ⟨m, hme⟩ : ∃ m, m = ls.length := ⟨_, rfl⟩
      have hm1 : m = gk + 1 := by rw [hme, hls, List.length_drop, HE.out.2.1]; omega
      rw [← hls] at hS
      have hR := hS.1
      rw [← hme] at hR
      have HF : Hid (ls = es1.drop j ∧ m = ls.length ∧ m = gk + 1 ∧ j + gk = n ∧ BS wr B ls b1 b2 d1 d2 hd) := ⟨hls, hme, hm1, hjk, hS⟩
      have q0 := hR.q0
      have q2 := hR.q2
      have hm100 : m ≤ 101 := by omega
      have hfin : KeptMore w wr B es a0 cap zs := ⟨wa, wp, j, b1, b2, d1, d2, hd, by have := HE.out.2.2; omega, by rw [← HE.out.1, ← hls]; exact hS, hk5, hbel⟩
      have HK : Hid (KeptMore w wr B es a0 cap zs) := hfin
      clear hfin
      by_cases hm : 1 < m
      · by_cases hh : 1000000 < hd
        · subst hm1
          obtain ⟨e0, r, hlr⟩ : ∃ e0 r, ls = e0 :: r := by
            cases ls with
            | nil => simp at hme
            | cons e0 r => exact ⟨e0, r, rfl⟩
          have hEn := hS.2
          clear hS HF HK q0 q2
          rw [hlr] at hR hEn
          obtain ⟨G1, o1, rfl⟩ := hR.o1.some_of (by simp)
          obtain ⟨G2, o2, rfl⟩ := hR.o2.some_of (by simp)
          obtain ⟨us1, hu1⟩ : ∃ us1, us1 = r.map Ent.val := ⟨_, rfl⟩
          obtain ⟨us2, hu2⟩ : ∃ us2, us2 = r.map Ent.wal := ⟨_, rfl⟩
          simp only [List.map_cons] at hR
          rw [← hu1, ← hu2] at hR
          have p1 := hR.o1.cell (a := none) 0 (by simp)
          have p2 := hR.o2.cell (a := none) 0 (by simp)
          have t1 := hR.o1.len_le
          have t2 := hR.o2.len_le
          have s1 := hR.l1
          have s2 := hR.l2
          simp only [List.length_cons] at t1 t2 s1 s2
          simp only [List.getElem?_cons_zero, Nat.add_zero] at p1 p2
          have hE0 := hEn e0 (by simp)
          have hLa : Hid (TmLies wr e0.a e0.zs) := hE0.1.lies
          have hLb : Hid (TmLies wr e0.wa e0.zs) := hE0.2.1.lies
          have hLm : e0.zs.length ≤ 9000000 := by have := hE0.2.2; omega
          have HH : Hid (BR wr B (e0.val :: us1) (e0.wal :: us2) (gk + 1) (gk + 1) (some ⟨G1, o1, none⟩) (some ⟨G2, o2, none⟩) d1 d2 hd ∧ (∀ e ∈ e0 :: r, Entry wr B e) ∧ ls = es1.drop j ∧ ls = e0 :: r ∧ us1 = r.map Ent.val ∧ us2 = r.map Ent.wal ∧ j + gk = n) := ⟨hR, hEn, hls, hlr, hu1, hu2, hjk⟩
          have q0 := hR.q0
          have q1 := hR.q1
          have q2 := hR.q2
          have q3 := hR.q3
          have f3 := hR.fz 3
          have hd1 : 2 ≤ d1 := by omega
          have hd2 : 2 ≤ d2 := by omega
          clear hR hEn hls hlr hu1 hu2 hjk hE0 hme s1 s2
          unfold Ent.val at p1
          unfold Ent.wal at p2
          go_wp2
          go_cut [] (fun wx => BR wx B (e0.val :: us1) (e0.wal :: us2) (gk + 1) (gk + 1) (some ⟨G1, o1, none⟩) (some ⟨G2, o2, none⟩) d1 d2 hd ∧ K5 wr wx ∧ Below B wr wx ∧ wx.cell? ⟨G1, o1, none⟩ = some e0.val)
          case first =>
            go_region_held3 (fun w' => w'.cell? ⟨B, 3, none⟩ = some (.bool false) ∧ w'.cell? ⟨B, 0, none⟩ = some (.slice (some ⟨G1, o1, none⟩) (gk + 1) d1) ∧ w'.cell? ⟨B, 1, none⟩ = some (.slice (some ⟨G2, o2, none⟩) (gk + 1) d2) ∧ w'.cell? ⟨G1, o1, none⟩ = some (.slice e0.a e0.zs.length e0.cap) ∧ w'.cell? ⟨G2, o2, none⟩ = some (.slice e0.wa e0.zs.length e0.wc)) (first | go_keep | exact BR.five (BR.set3 (BR.drewN HH.out.1 _)))
              ((go_at_call 22; refine (same_eq _ _ _ _ e0.zs _ (lies_drew hLa.out 1) (lies_drew hLb.out 1) hLm).mono ?_; rintro e w' ⟨rfl, nq, rfl⟩))
            all_goals (go_wp2_with fail; go_meet)
            all_goals exact ⟨BR.set3 (BR.drewN HH.out.1 _), (K5.drewN _ _).trans (K5.set (BR.drewN HH.out.1 _).blkB (by decide) _ _), Below.setCell (p := ⟨B, 3, none⟩) (below_drewN (Below.refl B wr) _) (Nat.le_refl _) _, (BR.five (BR.set3 (BR.drewN HH.out.1 _))).2.2.2.1⟩
          case rest =>
            obtain ⟨hR4, k54, hb4, p4⟩ := hcut
            have HQ : Hid (BR wc B (e0.val :: us1) (e0.wal :: us2) (gk + 1) (gk + 1) (some ⟨G1, o1, none⟩) (some ⟨G2, o2, none⟩) d1 d2 hd ∧ K5 wr wc ∧ Below B wr wc) := ⟨hR4, k54, hb4⟩
            have q0' := hR4.q0
            have q2' := hR4.q2
            have f2' := hR4.fz 2
            unfold Ent.val at p4
            clear hR4 k54 hb4 q0 q1 q2 q3 f3 p1 p2
            go_wp2
            go_cut [] (fun wx => ∃ hx, BR wx B (e0.val :: us1) (e0.wal :: us2) (gk + 1) (gk + 1) (some ⟨G1, o1, none⟩) (some ⟨G2, o2, none⟩) d1 d2 hx ∧ K5 wr wx ∧ Below B wr wx)
            case first =>
              go_region
              all_goals (go_wp2_with fail; go_meet)
              all_goals exact ⟨_, (BR.set2 HQ.out.1 _).kept (fun k _ => rfl), HQ.out.2.1.trans (K5.set HQ.out.1.blkB (by decide) _ _), (Below.setCell (p := ⟨B, 2, none⟩) HQ.out.2.2 (Nat.le_refl _) _).drew⟩
            case rest =>
              obtain ⟨hx, hR5, k55, hb5⟩ := hcut
              have HP : Hid (BR wc B (e0.val :: us1) (e0.wal :: us2) (gk + 1) (gk + 1) (some ⟨G1, o1, none⟩) (some ⟨G2, o2, none⟩) d1 d2 hx ∧ K5 wr wc ∧ Below B wr wc) := ⟨hR5, k55, hb5⟩
              have r0 := hR5.q0
              have r1 := hR5.q1
              have g0 := hR5.fz 0
              have g1 := hR5.fz 1
              clear hR5 k55 hb5 q0' q2' f2' p4 HQ
              go_wp2
              go_roundg (gk - 1)
              case measure => omega
              case rel =>
                obtain ⟨_, hEn, hls, hlr, hu1, hu2, hjk⟩ := HH.out
                obtain ⟨hR5, k55, hb5⟩ := HP.out
                exact ⟨j + 1, _, _, _, _, hx, by omega, cut_end hR5 hEn k55 hu1 hu2 (hls.symm.trans hlr), hk5.trans (k55.trans (cut_k5 hR5)), hbel.trans (Below.setCell (p := ⟨B, 1, none⟩) (Below.setCell (p := ⟨B, 0, none⟩) hb5 (Nat.le_refl _) _) (Nat.le_refl _) _)⟩
        · clear hls hme hm1 hjk hS
          go_wp2
          go_end0
          exact ⟨rfl, HK.out⟩
      · clear hls hme hm1 hjk hS
        go_wp2
        go_end0
        exact ⟨rfl, HK.out⟩
end Go.Proofs.YtijdjljnppkhmabDoor.Bk
/- A book of lists of terms: Stays. -/
namespace Go.Proofs.YtijdjljnppkhmabDoor.Bk
open Go.ChangeShapes Go.WideShapes Go.ChangeAt Go.RowKit
set_option linter.unusedVariables false
set_option maxRecDepth 100000


theorem BR.fiveAt {w : World} {B n k G1 o1 G2 o2 d1 d2 : Nat} {v1 v2 : Value} {vs1 vs2 : List Value} {hd : Int} (h : BR w B vs1 vs2 n n (some ⟨G1, o1, none⟩) (some ⟨G2, o2, none⟩) d1 d2 hd) (h1 : vs1[k]? = some v1) (h2 : vs2[k]? = some v2) :
    w.cell? ⟨B, 3, none⟩ = some (.bool false) ∧ w.cell? ⟨B, 0, none⟩ = some (.slice (some ⟨G1, o1, none⟩) n d1) ∧ w.cell? ⟨B, 1, none⟩ = some (.slice (some ⟨G2, o2, none⟩) n d2) ∧ w.cell? ⟨G1, o1 + k, none⟩ = some v1 ∧ w.cell? ⟨G2, o2 + k, none⟩ = some v2 := by
  have l1 : k < vs1.length := (List.getElem?_eq_some_iff.1 h1).1
  have l2 : k < vs2.length := (List.getElem?_eq_some_iff.1 h2).1
  exact ⟨h.q3, h.q0, h.q1, (h.o1.cell (a := none) k l1).trans h1, (h.o2.cell (a := none) k l2).trans h2⟩

set_option maxRecDepth 100000 in
set_option maxHeartbeats 1600000 in
theorem stays_any (B : Nat) (es : List Ent) (G1 o1 G2 o2 c1 c2 : Nat) (held : Int) (w : World) (hS : BS w B es (some ⟨G1, o1, none⟩) (some ⟨G2, o2, none⟩) c1 c2 held) (hn : es.length ≤ 4000) :
    Calls Tryd.prog 30 #[.pointer (some ⟨B, 0, none⟩)] w fun e w' => e = .returned (.bool true) ∧ BS w' B es (some ⟨G1, o1, none⟩) (some ⟨G2, o2, none⟩) c1 c2 held ∧ K5 w w' ∧ Below B w w' := by
  obtain ⟨n, hne⟩ : ∃ n, n = es.length := ⟨_, rfl⟩
  have hn' : n ≤ 4000 := by omega
  have HN : Hid (n = es.length) := hne
  clear hne hn
  go_enter Tryd.func30, Tryd.ntmps30
  go_wp2
  go_loopw [3] (fun i wr => ∃ k : Nat, k ≤ n ∧ i = .int .i64 k ∧ BS wr B es (some ⟨G1, o1, none⟩) (some ⟨G2, o2, none⟩) c1 c2 held ∧ K5 w wr ∧ Below B w wr) (fun i _ => n - (intOf i).toNat)
  case atStart => exact ⟨0, Nat.zero_le _, rfl, hS, K5.refl _, Below.refl _ _⟩
  case round =>
    obtain ⟨k, hk, rfl, hSr, hk5, hb⟩ := hrel
    have hR := hSr.1
    rw [← HN.out] at hR
    have q0 := hR.q0
    have q3 := hR.q3
    have HR : Hid (BS wr B es (some ⟨G1, o1, none⟩) (some ⟨G2, o2, none⟩) c1 c2 held ∧ BR wr B (es.map Ent.val) (es.map Ent.wal) n n (some ⟨G1, o1, none⟩) (some ⟨G2, o2, none⟩) c1 c2 held) := ⟨hSr, hR⟩
    by_cases hlt : k < n
    · obtain ⟨e0, he0⟩ : ∃ e0, es[k]? = some e0 := ⟨es[k]'(by rw [← HN.out]; exact hlt), List.getElem?_eq_getElem _⟩
      have hmem : e0 ∈ es := List.mem_of_getElem? he0
      have v1 : (es.map Ent.val)[k]? = some e0.val := by rw [List.getElem?_map, he0]; rfl
      have v2 : (es.map Ent.wal)[k]? = some e0.wal := by rw [List.getElem?_map, he0]; rfl
      have hE0 := hSr.2 e0 hmem
      have hLa : Hid (TmLies wr e0.a e0.zs) := hE0.1.lies
      have hLb : Hid (TmLies wr e0.wa e0.zs) := hE0.2.1.lies
      have hLm : e0.zs.length ≤ 9000000 := by have := hE0.2.2; omega
      have h5 := hR.fiveAt v1 v2
      have q1 := h5.2.2.1
      have p1 := h5.2.2.2.1
      have p2 := h5.2.2.2.2
      have f3 := hR.fz 3
      have HV : Hid ((es.map Ent.val)[k]? = some e0.val ∧ (es.map Ent.wal)[k]? = some e0.wal) := ⟨v1, v2⟩
      unfold Ent.val at p1
      unfold Ent.wal at p2
      have i1 : (0 : Int) ≤ (k : Int) := by omega
      have i2 : (k : Int) < (n : Int) := by omega
      clear hR hSr he0 hmem v1 v2 hE0 h5
      go_wp2
      go_region_held3 (fun w' => w'.cell? ⟨B, 3, none⟩ = some (.bool false) ∧ w'.cell? ⟨B, 0, none⟩ = some (.slice (some ⟨G1, o1, none⟩) n c1) ∧ w'.cell? ⟨B, 1, none⟩ = some (.slice (some ⟨G2, o2, none⟩) n c2) ∧ w'.cell? ⟨G1, o1 + k, none⟩ = some (.slice e0.a e0.zs.length e0.cap) ∧ w'.cell? ⟨G2, o2 + k, none⟩ = some (.slice e0.wa e0.zs.length e0.wc)) (first | go_keep | exact BR.fiveAt (BR.set3 (BR.drewN HR.out.2 _)) HV.out.1 HV.out.2)
          ((go_at_call 22; refine (same_eq _ _ _ _ e0.zs _ (lies_drew hLa.out 1) (lies_drew hLb.out 1) hLm).mono ?_; rintro e w' ⟨rfl, nq, rfl⟩))
      all_goals
        go_wp2
        go_roundw
        case rel => exact ⟨k + 1, by omega, by go_num, ⟨BR.set3 (BR.drewN HR.out.1.1 _), fun e he => (HR.out.1.2 e he).kept ((K5.drewN _ _).trans (K5.set (BR.drewN HR.out.2 _).blkB (by decide) _ _))⟩, hk5.trans ((K5.drewN _ _).trans (K5.set (BR.drewN HR.out.2 _).blkB (by decide) _ _)), hb.trans (Below.setCell (p := ⟨B, 3, none⟩) (below_drewN (Below.refl B wr) _) (Nat.le_refl _) _)⟩
        case measure => simp [intOf]; omega
    · go_wp2
      go_ret
      exact ⟨rfl, HR.out.1, hk5, hb⟩

/-- the mark of place j of list i -/
def markN (i j : Int) : Int := (i * 65536 + j) % 4294967296
def markS : ByteArray := ⟨#[109, 97, 114, 107]⟩
def markO (i j : Int) : Obj := .cells #[.string markS, .int .u32 (markN i j)] 30

set_option maxHeartbeats 1000000 in
theorem mark_any (i j : Int) (w : World) (hi : 0 ≤ i ∧ i ≤ 4000) (hj : 0 ≤ j) :
    Calls Tryd.prog 15 #[.int .i64 i, .int .i64 j] w fun e w' => e = .returned (.agg #[.string markS, .int .u32 (markN i j)]) ∧ w' = w.alloc (markO i j) := by
  obtain ⟨hi0, hi1⟩ := hi
  go_enter Tryd.func15, Tryd.ntmps15
  go_wp2
  all_goals first | omega | skip
  obtain ⟨_, z0, z1, _, _⟩ := two_new w 30 (.string ⟨#[109, 97, 114, 107]⟩) (.int .u32 ((i * 65536 + j) % 4294967296))
  refine bodyPost_ret (by simp [results, Tryd.results15, go_sem, z0, z1]; try rfl) rfl ?_
  exact ⟨rfl, rfl⟩
end Go.Proofs.YtijdjljnppkhmabDoor.Bk
/- A book of lists of terms: Apart. -/
namespace Go.Proofs.YtijdjljnppkhmabDoor.Bk
open Go.ChangeShapes Go.WideShapes Go.ChangeAt Go.RowKit
set_option linter.unusedVariables false
set_option maxRecDepth 100000


theorem BR.kept5 {w w' : World} {B n1 n2 : Nat} {vs1 vs2 : List Value} {a1 a2 : Option Addr} {c1 c2 : Nat} {hd : Int} (h : BR w B vs1 vs2 n1 n2 a1 a2 c1 c2 hd)
    (hk : ∀ (k : Nat) (T : TypeId) (cur : Array Value), T ≠ 30 → w.heap[k]? = some (Obj.cells cur T (0, 0)) → w'.heap[k]? = w.heap[k]?) : BR w' B vs1 vs2 n1 n2 a1 a2 c1 c2 hd := by
  have ho : ∀ {a c vs}, Outer w (B + 1) a c vs → ∀ g, blk a = some g → w'.heap[g]? = w.heap[g]? := by
    intro a c vs h g hg
    rcases h.2 with ⟨rfl, _⟩ | ⟨G, off, cur, rfl, _, hh, _⟩
    · cases hg
    · simp [blk] at hg
      subst hg
      exact hk G 22 cur (by decide) hh
  exact ⟨by rw [hk B 33 _ (by decide) h.blkB]; exact h.blkB, h.l1, h.l2, h.o1.kept (ho h.o1), h.o2.kept (ho h.o2), h.ne⟩

/-- place i of block g bears the mark of list j -/
def MarkAt (w : World) (g i j : Nat) : Prop := w.cell? ⟨g, i * 2, none⟩ = some (.string markS) ∧ w.cell? ⟨g, i * 2 + 1, none⟩ = some (.int .u32 (markN j i))

/-- the lists stand in rows of their own; those ahead of k bear their marks -/
structure MS (w : World) (B : Nat) (es : List Ent) (G1 o1 G2 o2 c1 c2 : Nat) (hd : Int) (k : Nat) : Prop where
  br : BR w B (es.map Ent.val) (es.map Ent.wal) es.length es.length (some ⟨G1, o1, none⟩) (some ⟨G2, o2, none⟩) c1 c2 hd
  rows : ∀ e ∈ es, e.cap ≤ maxLen ∧ e.zs.length ≤ e.cap ∧ ((e.a = none ∧ e.cap = 0) ∨ ∃ g cur, e.a = some ⟨g, 0, none⟩ ∧ B < g ∧ w.heap[g]? = some (Obj.cells cur 30 (0, 0)) ∧ cur.size = e.cap * 2)
  marks : ∀ (j : Nat) (e : Ent) (g : Nat), es[j]? = some e → e.a = some ⟨g, 0, none⟩ → j < k → ∀ i, i < e.cap → MarkAt w g i j
  nd : ∀ (i j : Nat) (e1 e2 : Ent) (g : Nat), es[i]? = some e1 → es[j]? = some e2 → e1.a = some ⟨g, 0, none⟩ → e2.a = some ⟨g, 0, none⟩ → i = j

theorem MS.kept {w w' : World} {B : Nat} {es : List Ent} {G1 o1 G2 o2 c1 c2 : Nat} {hd : Int} {k : Nat} (h : MS w B es G1 o1 G2 o2 c1 c2 hd k) (hk : ∀ g, g < w.heap.size → w'.heap[g]? = w.heap[g]?) : MS w' B es G1 o1 G2 o2 c1 c2 hd k := by
  refine ⟨h.br.kept hk, fun e he => ?_, fun j e g he ha hj i hi => ?_, h.nd⟩
  · obtain ⟨a1, a2, a3⟩ := h.rows e he
    refine ⟨a1, a2, ?_⟩
    rcases a3 with a3 | ⟨g, cur, x1, x2, x3, x4⟩
    · exact .inl a3
    · exact .inr ⟨g, cur, x1, x2, by rw [hk g (Array.getElem?_eq_some_iff.1 x3).1]; exact x3, x4⟩
  · obtain ⟨_, _, a3⟩ := h.rows e (List.mem_of_getElem? he)
    rcases a3 with ⟨a3, _⟩ | ⟨g', cur, x1, x2, x3, x4⟩
    · rw [a3] at ha; cases ha
    · rw [ha] at x1
      cases x1
      have hm := h.marks j e g he ha hj i hi
      have hb := hk g (Array.getElem?_eq_some_iff.1 x3).1
      exact ⟨(World.cell?_of_block hb).trans hm.1, (World.cell?_of_block hb).trans hm.2⟩
theorem MS.drewN {w : World} {B : Nat} {es : List Ent} {G1 o1 G2 o2 c1 c2 : Nat} {hd : Int} {k : Nat} (h : MS w B es G1 o1 G2 o2 c1 c2 hd k) (q : Nat) : MS (w.drewN q) B es G1 o1 G2 o2 c1 c2 hd k := h.kept fun _ _ => rfl
theorem MS.alloc {w : World} {B : Nat} {es : List Ent} {G1 o1 G2 o2 c1 c2 : Nat} {hd : Int} {k : Nat} (h : MS w B es G1 o1 G2 o2 c1 c2 hd k) (o : Obj) : MS (w.alloc o) B es G1 o1 G2 o2 c1 c2 hd k := h.kept fun g hg => Below.heap_alloc w o g hg

theorem MS.start {w : World} {B : Nat} {es : List Ent} {G1 o1 G2 o2 c1 c2 : Nat} {hd : Int} (h : BS w B es (some ⟨G1, o1, none⟩) (some ⟨G2, o2, none⟩) c1 c2 hd)
    (hnd : ∀ (i j : Nat) (e1 e2 : Ent) (g : Nat), es[i]? = some e1 → es[j]? = some e2 → e1.a = some ⟨g, 0, none⟩ → e2.a = some ⟨g, 0, none⟩ → i = j) : MS w B es G1 o1 G2 o2 c1 c2 hd 0 :=
  ⟨h.1, fun e he => by
    obtain ⟨h1, _⟩ := h.2 e he
    rcases h1.2.2 with ⟨x, y⟩ | ⟨g, cap, cur, x, hb, hh, hnc, hcm, hcs, _⟩
    · simp only [Value.slice.injEq] at x
      exact ⟨by rw [x.2.2]; exact Nat.zero_le _, by omega, .inl ⟨x.1, x.2.2⟩⟩
    · simp only [Value.slice.injEq, true_and] at x
      obtain ⟨x1, rfl⟩ := x
      exact ⟨hcm, hnc, .inr ⟨g, cur, x1, by omega, hh, by omega⟩⟩, fun j e g _ _ hj => by omega, hnd⟩

theorem MS.facts {w : World} {B : Nat} {es : List Ent} {G1 o1 G2 o2 c1 c2 : Nat} {hd : Int} {k t : Nat} {e : Ent} (h : MS w B es G1 o1 G2 o2 c1 c2 hd k) (he : es[t]? = some e) :
    w.cell? ⟨B, 0, none⟩ = some (.slice (some ⟨G1, o1, none⟩) es.length c1) ∧ w.cell? ⟨G1, o1 + t, none⟩ = some (.slice e.a e.zs.length e.cap) := by
  have hl : t < (es.map Ent.val).length := by simpa using (List.getElem?_eq_some_iff.1 he).1
  refine ⟨h.br.q0, (h.br.o1.cell (a := none) t hl).trans ?_⟩
  rw [List.getElem?_map, he]
  rfl

theorem MS.next {w : World} {B : Nat} {es : List Ent} {G1 o1 G2 o2 c1 c2 : Nat} {hd : Int} {k : Nat} {e : Ent} (h : MS w B es G1 o1 G2 o2 c1 c2 hd k) (he : es[k]? = some e)
    (hp : ∀ g, e.a = some ⟨g, 0, none⟩ → ∀ i, i < e.cap → MarkAt w g i k) : MS w B es G1 o1 G2 o2 c1 c2 hd (k + 1) := by
  refine ⟨h.br, h.rows, fun j e1 g he1 ha hj i hi => ?_, h.nd⟩
  by_cases hjk : j = k
  · subst hjk
    rw [he] at he1
    cases he1
    exact hp g ha i hi
  · exact h.marks j e1 g he1 ha (by omega) i hi

theorem MS.cellThere {w : World} {B : Nat} {es : List Ent} {G1 o1 G2 o2 c1 c2 g : Nat} {hd : Int} {k x : Nat} {e : Ent} (h : MS w B es G1 o1 G2 o2 c1 c2 hd k) (he : e ∈ es) (ha : e.a = some ⟨g, 0, none⟩) (hx : x < e.cap * 2) :
    (∃ v, w.cell? ⟨g, x, none⟩ = some v) ∧ w.frozen? ⟨g, x, none⟩ = false := by
  obtain ⟨_, _, a3⟩ := h.rows e he
  rcases a3 with ⟨a3, _⟩ | ⟨g', cur, x1, x2, hh, hs⟩
  · rw [a3] at ha; cases ha
  · rw [ha] at x1
    cases x1
    refine ⟨?_, frozen_of_row w g x cur 30 hh⟩
    rw [cell_of_row w g x cur 30 (0, 0) hh]
    exact ⟨cur[x]'(by omega), by simp [hs, hx]⟩

theorem cell_set {w : World} {g x y : Nat} {cur : Array Value} {v : Value} (hh : w.heap[g]? = some (Obj.cells cur 30 (0, 0))) (hx : x < cur.size) :
    (w.setCell ⟨g, x, none⟩ v).cell? ⟨g, y, none⟩ = if y = x then some v else w.cell? ⟨g, y, none⟩ := by
  rw [cell_of_row _ g y _ 30 (0, 0) (heap_setCell_same w g x cur 30 v hh), cell_of_row w g y cur 30 (0, 0) hh]
  by_cases h : y = x
  · subst h
    rw [if_pos rfl]
    simp [hx]
  · rw [if_neg h, Array.getElem?_setIfInBounds_ne (by omega)]

theorem MS.poke {w : World} {B : Nat} {es : List Ent} {G1 o1 G2 o2 c1 c2 g : Nat} {hd : Int} {k : Nat} {e : Ent} (h : MS w B es G1 o1 G2 o2 c1 c2 hd k) (he : es[k]? = some e) (ha : e.a = some ⟨g, 0, none⟩) (x : Nat) (v : Value) : MS (w.setCell ⟨g, x, none⟩ v) B es G1 o1 G2 o2 c1 c2 hd k := by
  have hoth : ∀ g', g' ≠ g → (w.setCell ⟨g, x, none⟩ v).heap[g']? = w.heap[g']? := fun g' hg => heap_setCell_other w ⟨g, x, none⟩ g' _ hg
  obtain ⟨_, _, b3⟩ := h.rows e (List.mem_of_getElem? he)
  rcases b3 with ⟨b3, _⟩ | ⟨g0, cur, y1, y2, hh, hs⟩
  · rw [b3] at ha; cases ha
  rw [ha] at y1
  cases y1
  have hsame := heap_setCell_same w g x cur 30 v hh
  refine ⟨h.br.kept5 fun g' T cu hT hg => hoth g' (fun e1 => ?_), fun e1 he1 => ?_, fun j e1 g' he1 ha1 hj i hi => ?_, h.nd⟩
  · subst e1
    rw [hh] at hg
    simp at hg
    exact hT hg.2.symm
  · obtain ⟨a1, a2, a3⟩ := h.rows e1 he1
    refine ⟨a1, a2, ?_⟩
    rcases a3 with a3 | ⟨g', cu, x1, x2, x3, x4⟩
    · exact .inl a3
    · by_cases hg : g' = g
      · subst hg
        rw [hh] at x3
        simp at x3
        subst x3
        exact .inr ⟨g', _, x1, x2, hsame, by simp [x4]⟩
      · exact .inr ⟨g', cu, x1, x2, by rw [hoth _ hg]; exact x3, x4⟩
  · have hne : g' ≠ g := fun hg => by
      subst hg
      have := h.nd j k e1 e g' he1 he ha1 ha
      omega
    have hm := h.marks j e1 g' he1 ha1 hj i hi
    exact ⟨(World.cell?_of_block (hoth g' hne)).trans hm.1, (World.cell?_of_block (hoth g' hne)).trans hm.2⟩

theorem MS.store {w : World} {B : Nat} {es : List Ent} {G1 o1 G2 o2 c1 c2 g : Nat} {hd : Int} {k t : Nat} {e : Ent} (h : MS w B es G1 o1 G2 o2 c1 c2 hd k) (he : es[k]? = some e) (ha : e.a = some ⟨g, 0, none⟩) (ht : t < e.cap)
    (hp : ∀ i, i < t → MarkAt w g i k) : MS ((w.setCell ⟨g, t * 2, none⟩ (.string markS)).setCell ⟨g, t * 2 + 1, none⟩ (.int .u32 (markN (k : Int) (t : Int)))) B es G1 o1 G2 o2 c1 c2 hd k ∧ ∀ i, i < t + 1 → MarkAt ((w.setCell ⟨g, t * 2, none⟩ (.string markS)).setCell ⟨g, t * 2 + 1, none⟩ (.int .u32 (markN (k : Int) (t : Int)))) g i k := by
  refine ⟨(h.poke he ha _ _).poke he ha _ _, ?_⟩
  obtain ⟨_, _, b3⟩ := h.rows e (List.mem_of_getElem? he)
  rcases b3 with ⟨b3, _⟩ | ⟨g0, cur, y1, y2, hh, hs⟩
  · rw [b3] at ha; cases ha
  rw [ha] at y1
  cases y1
  have hh1 := heap_setCell_same w g (t * 2) cur 30 (.string markS) hh
  intro i hi
  have key : ∀ y, ((w.setCell ⟨g, t * 2, none⟩ (.string markS)).setCell ⟨g, t * 2 + 1, none⟩ (.int .u32 (markN (k : Int) (t : Int)))).cell? ⟨g, y, none⟩ = if y = t * 2 + 1 then some (.int .u32 (markN (k : Int) (t : Int))) else if y = t * 2 then some (.string markS) else w.cell? ⟨g, y, none⟩ := fun y => by
    rw [cell_set hh1 (by simp; omega), cell_set hh (by omega)]
  by_cases hit : i = t
  · subst hit
    refine ⟨?_, ?_⟩
    · rw [key, if_neg (by omega), if_pos rfl]
    · rw [key, if_pos rfl]
  · have hm := hp i (by omega)
    refine ⟨?_, ?_⟩
    · rw [key, if_neg (by omega), if_neg (by omega)]; exact hm.1
    · rw [key, if_neg (by omega), if_neg (by omega)]; exact hm.2

theorem MarkAt.alloc {w : World} {g i j : Nat} (h : MarkAt w g i j) (hg : g < w.heap.size) (o : Obj) : MarkAt (w.alloc o) g i j := by
  exact ⟨(World.cell?_of_block (Below.heap_alloc w o g hg)).trans h.1, (World.cell?_of_block (Below.heap_alloc w o g hg)).trans h.2⟩

theorem MS.blkLt {w : World} {B : Nat} {es : List Ent} {G1 o1 G2 o2 c1 c2 g : Nat} {hd : Int} {k : Nat} {e : Ent} (h : MS w B es G1 o1 G2 o2 c1 c2 hd k) (he : e ∈ es) (ha : e.a = some ⟨g, 0, none⟩) : g < w.heap.size := by
  obtain ⟨_, _, b3⟩ := h.rows e he
  rcases b3 with ⟨b3, _⟩ | ⟨g0, cur, y1, y2, hh, hs⟩
  · rw [b3] at ha; cases ha
  · rw [ha] at y1
    cases y1
    exact (Array.getElem?_eq_some_iff.1 hh).1

set_option maxRecDepth 100000 in
set_option maxHeartbeats 390000000 in
theorem apart_any (B : Nat) (es : List Ent) (G1 o1 G2 o2 c1 c2 : Nat) (held : Int) (w : World) (hS : BS w B es (some ⟨G1, o1, none⟩) (some ⟨G2, o2, none⟩) c1 c2 held) (hn : es.length ≤ 4000)
    (hnd : ∀ (i j : Nat) (e1 e2 : Ent) (g : Nat), es[i]? = some e1 → es[j]? = some e2 → e1.a = some ⟨g, 0, none⟩ → e2.a = some ⟨g, 0, none⟩ → i = j) :
    Calls Tryd.prog 14 #[.pointer (some ⟨B, 0, none⟩), .func (.func 15) #[] #[]] w fun e w' => e = .returned (.bool true) ∧ Below B w w' := by
  obtain ⟨n, hne⟩ : ∃ n, n = es.length := ⟨_, rfl⟩
  have hn' : n ≤ 4000 := by omega
  have hst := stays_any B es G1 o1 G2 o2 c1 c2 held w hS hn
  have HN := Hid.intro hne
  have HD := Hid.intro hnd
  have HST := Hid.intro hst
  clear hne hn hnd hS hst
  go_enter Tryd.func14, Tryd.ntmps14
  go_wp2_with (go_at_call 30; refine (HST.out).mono ?_; rintro e w1 ⟨rfl, hS1, k51, hb1⟩)
  have HS : Hid (MS w1 B es G1 o1 G2 o2 c1 c2 held 0) := MS.start hS1 HD.out
  clear hS1 k51 HST
  go_loopw [5] (fun i wr => ∃ k : Nat, k ≤ n ∧ i = .int .i64 k ∧ Hid (MS wr B es G1 o1 G2 o2 c1 c2 held k) ∧ Below B w wr) (fun i _ => n - (intOf i).toNat)
  case atStart => exact ⟨0, Nat.zero_le _, rfl, HS, hb1⟩
  case round =>
    obtain ⟨k, hk, rfl, HM, hb⟩ := hrel
    have q0 := HM.out.br.q0
    rw [← HN.out] at q0
    by_cases hlt : k < n
    · obtain ⟨e0, he0⟩ : ∃ e0, es[k]? = some e0 := ⟨es[k]'(by rw [← HN.out]; exact hlt), List.getElem?_eq_getElem _⟩
      have hmem : e0 ∈ es := List.mem_of_getElem? he0
      have p1 := (HM.out.facts he0).2
      obtain ⟨hcm, hzc, hrow⟩ := HM.out.rows e0 hmem
      have HE : Hid (es[k]? = some e0 ∧ e0 ∈ es) := ⟨he0, hmem⟩
      have i1 : (0 : Int) ≤ (k : Int) := by omega
      have i2 : (k : Int) < (n : Int) := by omega
      unfold maxLen at hcm
      clear he0 hmem
      rcases hrow with ⟨ha, hc0⟩ | ⟨g, cur, ha, hBg, hh, hcs⟩
      · have hz0 : e0.zs.length = 0 := by omega
        rw [ha, hc0, hz0] at p1
        have HA := Hid.intro ha
        clear ha hc0 hz0 hcm hzc
        go_wp2
        go_quiet (fail)
        go_wp2
        clear q0 p1
        go_loop [7] (fun j => j = .int .i64 0) (fun _ => 0)
        case atStart => rfl
        case round =>
          subst hrel
          have HX : Hid (MS (wr.drewN nq) B es G1 o1 G2 o2 c1 c2 held (k + 1)) := (HM.out.drewN nq).next HE.out.1 (fun g hg => by rw [HA.out] at hg; cases hg)
          go_wp2
          go_roundw
          case rel => exact ⟨k + 1, by omega, by go_num, HX, below_drewN hb nq⟩
          case measure => simp [intOf]; omega
      · have HA := Hid.intro ha
        rw [ha] at p1
        clear ha hh hcs
        go_wp2
        go_quiet (fail)
        go_wp2
        clear q0 p1
        go_loopw [7] (fun j wx => ∃ t : Nat, t ≤ e0.cap ∧ j = .int .i64 t ∧ Hid (MS wx B es G1 o1 G2 o2 c1 c2 held k) ∧ Hid (∀ i, i < t → MarkAt wx g i k) ∧ Below B w wx) (fun j _ => e0.cap - (intOf j).toNat)
        case atStart => exact ⟨0, Nat.zero_le _, rfl, HM.out.drewN _, fun i hi => by omega, below_drewN hb _⟩
        case round =>
          obtain ⟨t, ht, rfl, hMx, hpx, hbx⟩ := hrel
          by_cases htl : t < e0.cap
          · have hMa := hMx.out.alloc (markO (k : Int) (t : Int))
            obtain ⟨⟨v0, z0⟩, y0⟩ := hMa.cellThere HE.out.2 HA.out (x := t * 2) (by omega)
            obtain ⟨⟨v1, z1⟩, y1⟩ := hMa.cellThere HE.out.2 HA.out (x := t * 2 + 1) (by omega)
            have HX : Hid (MS (((wr.alloc (markO (k : Int) (t : Int))).setCell ⟨g, t * 2, none⟩ (.string markS)).setCell ⟨g, t * 2 + 1, none⟩ (.int .u32 (markN (k : Int) (t : Int)))) B es G1 o1 G2 o2 c1 c2 held k ∧ ∀ i, i < t + 1 → MarkAt (((wr.alloc (markO (k : Int) (t : Int))).setCell ⟨g, t * 2, none⟩ (.string markS)).setCell ⟨g, t * 2 + 1, none⟩ (.int .u32 (markN (k : Int) (t : Int)))) g i k) :=
              hMa.store HE.out.1 HA.out htl (fun i hi => (hpx.out i hi).alloc (hMx.out.blkLt HE.out.2 HA.out) _)
            have hBs : B ≤ wr.heap.size := Nat.le_of_lt hMx.out.br.lt
            have i3 : (0 : Int) ≤ (t : Int) := by omega
            have i4 : (t : Int) < (e0.cap : Int) := by omega
            clear hMa hMx hpx HM
            go_wp2_with (go_at_call 15; refine (mark_any _ _ _ (by omega) (by omega)).mono ?_; rintro e w' ⟨rfl, rfl⟩)
            go_roundw
            case rel => exact ⟨t + 1, by omega, by go_num, HX.out.1, HX.out.2, Below.setCell (p := ⟨g, t * 2 + 1, none⟩) (Below.setCell (p := ⟨g, t * 2, none⟩) (hbx.alloc hBs _) (by show B ≤ g; omega) _) (by show B ≤ g; omega) _⟩
            case measure => simp [intOf]; omega
          · have e : t = e0.cap := by omega
            subst e
            have HX : Hid (MS wr B es G1 o1 G2 o2 c1 c2 held (k + 1)) := hMx.out.next HE.out.1 (fun g' hg' => by rw [HA.out] at hg'; cases hg'; exact hpx.out)
            clear hMx hpx
            go_wp2
            go_roundw
            case rel => exact ⟨k + 1, by omega, by go_num, HX, hbx⟩
            case measure => simp [intOf]; omega
    · have e : k = n := by omega
      subst e
      go_wp2
      clear q0
      go_loopw [8] (fun i wx => ∃ r : Nat, r ≤ k ∧ i = .int .i64 r ∧ Hid (MS wx B es G1 o1 G2 o2 c1 c2 held k) ∧ Below B w wx) (fun i _ => k - (intOf i).toNat)
      case atStart => exact ⟨0, Nat.zero_le _, rfl, HM, hb⟩
      case round =>
        clear HM
        obtain ⟨r, hr, rfl, HM2, hbr⟩ := hrel
        have q0 := HM2.out.br.q0
        rw [← HN.out] at q0
        by_cases hlr : r < k
        · obtain ⟨e0, he0⟩ : ∃ e0, es[r]? = some e0 := ⟨es[r]'(by rw [← HN.out]; exact hlr), List.getElem?_eq_getElem _⟩
          have hmem : e0 ∈ es := List.mem_of_getElem? he0
          have p1 := (HM2.out.facts he0).2
          obtain ⟨hcm, hzc, hrow⟩ := HM2.out.rows e0 hmem
          have HE : Hid (es[r]? = some e0 ∧ e0 ∈ es) := ⟨he0, hmem⟩
          have i1 : (0 : Int) ≤ (r : Int) := by omega
          have i2 : (r : Int) < (k : Int) := by omega
          unfold maxLen at hcm
          clear he0 hmem
          rcases hrow with ⟨ha, hc0⟩ | ⟨g, cur, ha, hBg, hh, hcs⟩
          · have hz0 : e0.zs.length = 0 := by omega
            rw [ha, hc0, hz0] at p1
            clear ha hc0 hz0 hcm hzc
            go_wp2
            go_quiet (fail)
            go_wp2
            clear q0 p1
            go_loop [10] (fun j => j = .int .i64 0) (fun _ => 0)
            case atStart => rfl
            case round =>
              subst hrel
              have HX : Hid (MS (wr.drewN nq) B es G1 o1 G2 o2 c1 c2 held k) := HM2.out.drewN nq
              go_wp2
              go_roundw
              case rel => exact ⟨r + 1, by omega, by go_num, HX, below_drewN hbr nq⟩
              case measure => simp [intOf]; omega
          · have HA := Hid.intro ha
            rw [ha] at p1
            clear ha hh hcs
            go_wp2
            go_quiet (fail)
            go_wp2
            clear q0 p1
            go_loopw [10] (fun j wx => ∃ t : Nat, t ≤ e0.cap ∧ j = .int .i64 t ∧ Hid (MS wx B es G1 o1 G2 o2 c1 c2 held k) ∧ Below B w wx) (fun j _ => e0.cap - (intOf j).toNat)
            case atStart => exact ⟨0, Nat.zero_le _, rfl, HM2.out.drewN _, below_drewN hbr _⟩
            case round =>
              obtain ⟨t, ht, rfl, HX, hbx⟩ := hrel
              by_cases htl : t < e0.cap
              · obtain ⟨z0, z1⟩ := HX.out.marks r e0 g HE.out.1 HA.out hlr t htl
                have i3 : (0 : Int) ≤ (t : Int) := by omega
                have i4 : (t : Int) < (e0.cap : Int) := by omega
                go_wp2
                have hBs : B ≤ wr.heap.size := Nat.le_of_lt HX.out.br.lt
                go_region_held3 (fun w' => w'.cell? ⟨g, t * 2, none⟩ = some (.string markS) ∧ w'.cell? ⟨g, t * 2 + 1, none⟩ = some (.int .u32 (markN (r : Int) (t : Int)))) (go_keep)
                  ((go_at_call 15; refine (mark_any _ _ _ (by omega) (by omega)).mono ?_; rintro e w' ⟨rfl, rfl⟩))
                all_goals
                  go_wp2
                  go_roundw
                  case rel => exact ⟨t + 1, by omega, by go_num, (HX.out.alloc _).kept (fun _ _ => rfl), (hbx.alloc hBs _).drew⟩
                  case measure => simp [intOf]; omega
              · go_wp2
                go_roundw
                case rel => exact ⟨r + 1, by omega, by go_num, HX, hbx⟩
                case measure => simp [intOf]; omega
        · have g0 := HM2.out.br.fz 0
          have g1 := HM2.out.br.fz 1
          have g2 := HM2.out.br.fz 2
          have q1 := HM2.out.br.q1
          have q2 := HM2.out.br.q2
          go_wp2
          go_ret
          exact ⟨rfl, Below.setCell (p := ⟨B, 2, none⟩) (Below.setCell (p := ⟨B, 1, none⟩) (Below.setCell (p := ⟨B, 0, none⟩) hbr (Nat.le_refl _) _) (Nat.le_refl _) _) (Nat.le_refl _) _⟩
end Go.Proofs.YtijdjljnppkhmabDoor.Bk
namespace Go.Proofs.YtijdjljnppkhmabDoor.Bk
open Go.ChangeShapes Go.WideShapes Go.ChangeAt Go.RowKit
set_option linter.unusedVariables false
set_option maxRecDepth 100000


/-- no two of the lists have one row -/
def Apart (es : List Ent) : Prop := ∀ (i j : Nat) (e1 e2 : Ent) (g : Nat), es[i]? = some e1 → es[j]? = some e2 → e1.a = some ⟨g, 0, none⟩ → e2.a = some ⟨g, 0, none⟩ → i = j

/-- the book at B holds at most m lists, in rows of their own, all of them ahead of block F -/
def Books (w0 w : World) (B m F : Nat) : Prop :=
  B = w0.heap.size ∧ Below B w0 w ∧ F ≤ w.heap.size ∧ B < F ∧ ∃ es a1 a2 c1 c2 held, es.length ≤ m ∧ (0 < m → es ≠ []) ∧ BS w B es a1 a2 c1 c2 held ∧ Apart es ∧ ∀ e ∈ es, ∀ g, e.a = some ⟨g, 0, none⟩ → g < F

theorem Books.start (w : World) : Books w (w.alloc (.cells #[.slice none 0 0, .slice none 0 0, .int .i64 0, .bool false] 33)) w.heap.size 0 (w.heap.size + 1) := by
  refine ⟨rfl, (Below.refl _ _).alloc (Nat.le_refl _) _, by simp, by omega, [], none, none, 0, 0, 0, Nat.le_refl _, fun h => by omega, ⟨⟨?_, rfl, rfl, ⟨Nat.zero_le _, .inl ⟨rfl, rfl, rfl⟩⟩, ⟨Nat.zero_le _, .inl ⟨rfl, rfl, rfl⟩⟩, fun g hg => by cases hg⟩, fun e he => by cases he⟩, fun i j e1 e2 g h1 => by simp at h1, fun e he => by cases he⟩
  exact heap_alloc_new w _

theorem Books.more {w0 w w1 : World} {B m : Nat} (h : Books w0 w B m w.heap.size) (hb : Below w.heap.size w w1) : Books w0 w1 B m w.heap.size := by
  obtain ⟨h1, h2, h3, h4, es, a1, a2, c1, c2, held, e1, e2, ⟨e3, e4⟩, e5, e6⟩ := h
  have hk : K5 w w1 := fun k T cur hT hk => hb.block k (Array.getElem?_eq_some_iff.1 hk).1
  exact ⟨h1, h2.trans (hb.mono (by omega)), hb.size, h4, es, a1, a2, c1, c2, held, e1, e2, ⟨e3.kept fun k hk => hb.block k hk, fun e he => (e4 e he).kept hk⟩, e5, e6⟩

theorem Books.grow {w0 w : World} {B m F : Nat} (h : Books w0 w B m F) : Books w0 w B m w.heap.size := by
  obtain ⟨h1, h2, h3, h4, es, a1, a2, c1, c2, held, e1, e2, e3, e5, e6⟩ := h
  exact ⟨h1, h2, Nat.le_refl _, by omega, es, a1, a2, c1, c2, held, e1, e2, e3, e5, fun e he g hg => by have := e6 e he g hg; omega⟩

theorem apart_snoc {es : List Ent} {x : Ent} {F : Nat} (h : Apart es) (hF : ∀ e ∈ es, ∀ g, e.a = some ⟨g, 0, none⟩ → g < F) (hx : ∀ g, x.a = some ⟨g, 0, none⟩ → F ≤ g) : Apart (es ++ [x]) := by
  have key : ∀ (i : Nat) (e : Ent), (es ++ [x])[i]? = some e → (es[i]? = some e) ∨ (i = es.length ∧ e = x) := by
    intro i e hi
    rw [List.getElem?_append] at hi
    split at hi
    · exact .inl hi
    · have : i - es.length = 0 := by
        apply Decidable.byContradiction
        intro hn
        rw [List.getElem?_eq_none (by simp; omega)] at hi
        cases hi
      rw [this] at hi
      simp at hi
      exact .inr ⟨by omega, hi.symm⟩
  intro i j e1 e2 g h1 h2 g1 g2
  rcases key i e1 h1 with k1 | ⟨k1, rfl⟩
  · rcases key j e2 h2 with k2 | ⟨k2, rfl⟩
    · exact h i j e1 e2 g k1 k2 g1 g2
    · have := hF e1 (List.mem_of_getElem? k1) g g1
      have := hx g g2
      omega
  · rcases key j e2 h2 with k2 | ⟨k2, rfl⟩
    · have := hF e2 (List.mem_of_getElem? k2) g g2
      have := hx g g1
      omega
    · omega
theorem apart_drop {es : List Ent} (h : Apart es) (n : Nat) : Apart (es.drop n) := by
  intro i j e1 e2 g h1 h2 g1 g2
  rw [List.getElem?_drop] at h1 h2
  have := h _ _ e1 e2 g h1 h2 g1 g2
  omega

theorem keep_books {w0 w : World} {B m F cap : Nat} {a0 : Option Addr} {L : List Tm} (h : Books w0 w B m F) (hm : m ≤ 99) (hr : OwnT w F a0 cap L) (hL : L.length ≤ 9000000) :
    Calls Tryd.prog 9 #[.pointer (some ⟨B, 0, none⟩), .slice a0 L.length cap] w fun e w' => e = .returned (.tuple #[]) ∧ Books w0 w' B (m + 1) w'.heap.size ∧ K5 w w' := by
  obtain ⟨h1, h2, h3, h4, es, a1, a2, c1, c2, held, e1, e2, e3, e5, e6⟩ := h
  have hcap : cap ≤ 9223372036854775807 := by
    rcases hr.2.2 with ⟨x, _⟩ | ⟨g, c, cur, x, _, _, _, hcm, _⟩
    · simp only [Value.slice.injEq] at x; omega
    · simp only [Value.slice.injEq, true_and] at x; unfold maxLen at hcm; omega
  have hgF : ∀ g, a0 = some ⟨g, 0, none⟩ → F ≤ g ∧ g < w.heap.size := fun g hg => by
    subst hg
    exact World.ownsRow.lt hr.2 g rfl
  refine (keep_any B cap a0 L es a1 a2 c1 c2 held w e3 (by omega) (hr.mono (by omega)) hL hcap).mono ?_
  rintro e w' ⟨rfl, wa, wc, j, b1, b2, d1, d2, hd, hj, hS, hk, hb⟩
  refine ⟨rfl, ⟨h1, h2.trans hb, Nat.le_refl _, by have := hb.size; omega, _, b1, b2, d1, d2, hd, ?_, fun _ => ?_, hS, ?_, fun e he g hg => ?_⟩, hk⟩
  · simp
    omega
  · intro hnil
    have := congrArg List.length hnil
    simp at this
    omega
  · exact apart_drop (apart_snoc e5 e6 (fun g hg => (hgF g hg).1)) j
  · have hs := hb.size
    rcases List.mem_append.1 (List.mem_of_mem_drop he) with h | h
    · have := e6 e h g hg
      omega
    · simp at h
      subst h
      have := (hgF g hg).2
      omega

theorem apart_books {w0 w : World} {B m F : Nat} (h : Books w0 w B m F) (hm : m ≤ 100) (h0 : 0 < m) :
    Calls Tryd.prog 14 #[.pointer (some ⟨B, 0, none⟩), .func (.func 15) #[] #[]] w fun e w' => e = .returned (.bool true) ∧ Below B w0 w' := by
  obtain ⟨h1, h2, h3, h4, es, a1, a2, c1, c2, held, e1, e2, e3, e5, e6⟩ := h
  have hne := e2 h0
  obtain ⟨G1, o1, rfl⟩ := e3.1.o1.some_of (by simpa using hne)
  obtain ⟨G2, o2, rfl⟩ := e3.1.o2.some_of (by simpa using hne)
  refine (apart_any B es G1 o1 G2 o2 c1 c2 held w e3 (by omega) e5).mono ?_
  rintro e w' ⟨rfl, hb⟩
  exact ⟨rfl, h2.trans hb⟩
end Go.Proofs.YtijdjljnppkhmabDoor.Bk

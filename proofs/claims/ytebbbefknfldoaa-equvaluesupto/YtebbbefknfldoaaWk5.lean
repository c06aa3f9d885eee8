/- equ.walk's visit. -/
import Derived.Test.YtebbbefknfldoaaWk1
import Derived.Deep.DeepAppendWide
import Derived.Laws.OwnMore
import Derived.Test.YtebbbefknfldoaaProg
import Derived.Deep.RegionHeld3
/- equ.walk's state: order and open grow. -/
namespace Go.Proofs.Ytebbbefknfldoaa
open Go.ChangeShapes Go.WideShapes Go.ChangeAt Go.RowKit
set_option linter.unusedVariables false
set_option linter.unusedSimpArgs false
set_option maxRecDepth 100000
section
variable {w0 w w' w1 : World} {b : Nat → Nat} {l : List Eqv} {la : Option Addr} {lc na nb : Nat} {s : Ta.St}
theorem FS.two (h : FS w0 b l la lc na nb s w) {k : Option Nat} (hk : ∀ g, k = some g → (∀ i, i < 12 → g ≠ b i) ∧ w0.heap.size ≤ g) (hg : w.grownBy w1 k) {j : Nat} (hj : j < 12) (hg2 : w1.grownBy w' (some (b j))) :
    Below w0.heap.size w0 w' ∧ w.heap.size ≤ w'.heap.size ∧ (∀ i ob, i < 12 → w.heap[b i]? = some ob → w1.heap[b i]? = some ob) ∧ (∀ i ob, i < 12 → i ≠ j → w.heap[b i]? = some ob → w'.heap[b i]? = some ob) ∧ (∀ i n f, i < 12 → i ≠ j → IntIs w (b i) n f → IntIs w' (b i) n f) := by
  have hne : ∀ i, i < 12 → some (b i) ≠ k := fun i hi e => (hk _ e.symm).1 i hi rfl
  have k1 : ∀ i ob, i < 12 → w.heap[b i]? = some ob → w1.heap[b i]? = some ob := fun i ob hi hh => (hg.block _ (wblk_lt hh) (hne i hi)).trans hh
  have h1 := h.bel.grown hg h.bel.size (fun g e => (hk g e).2)
  refine ⟨h1.grown hg2 h1.size (fun g e => by cases e; exact h.ap.ge j hj), Nat.le_trans hg.size hg2.size, k1, fun i ob hi hij hh => ?_, fun i n f hi hij hh => ?_⟩
  · have := k1 i ob hi hh
    exact (hg2.block _ (wblk_lt this) (fun e => h.ap.ne hi hj hij (Option.some.inj e))).trans this
  · exact (hh.kept hg (hne i hi)).kept hg2 (fun e => h.ap.ne hi hj hij (Option.some.inj e))
theorem rowN_app (x y : List Nat) : rowN (x ++ y) = rowN x ++ rowN y := by unfold rowN; rw [List.map_append]
theorem FS.ordPush (h : FS w0 b l la lc na nb s w) {a2 : Option Addr} {c2 : Nat} (hr : w.heap[b 4]? = some (.cells #[.slice a2 s.order.length c2] 65 (0, 0))) (ys : List Nat) {a3 : Option Addr} {c3 : Nat} (ho : w1.ownsRow w0.heap.size 3 1 (.slice a3 (s.order.length + ys.length) c3) (s.order.length + ys.length) (rowN s.order ++ rowN ys)) (hg : w.grownBy w1 (Value.slice a2 s.order.length c2).ownBlock)
    (hw : (Value.slice a3 (s.order.length + ys.length) c3).ownBlock = (Value.slice a2 s.order.length c2).ownBlock ∨ (Value.slice a3 (s.order.length + ys.length) c3).ownBlock = some w.heap.size) :
    w1.heap[b 4]? = some (.cells #[.slice a2 s.order.length c2] 65 (0, 0)) ∧ FS w0 b l la lc na nb { s with order := s.order ++ ys } (w1.setCell ⟨b 4, 0, none⟩ (.slice a3 (s.order.length + ys.length) c3)) := by
  obtain ⟨a, c, o1, o2, o3, a', c', r1, r2, r3⟩ := h.op
  rw [hr] at r1
  simp only [Option.some.injEq, Obj.cells.injEq, Array.mk.injEq, List.cons.injEq, Value.slice.injEq, true_and, and_true] at r1
  obtain ⟨rfl, rfl⟩ := r1
  have d : (4 : Nat) < 12 := by decide
  have hr1 := (hg.block _ (wblk_lt hr) (fun e => (r3 _ e.symm).1 4 d rfl)).trans hr
  obtain ⟨s1, k1⟩ := row_set hr1 0 (.slice a3 (s.order.length + ys.length) c3)
  obtain ⟨t1, t2, t3, t4, t5⟩ := h.two (fun g e => ⟨(r3 g e).1, (r2.lt g e).1⟩) hg d k1
  have hlt : ∀ g, (Value.slice a s.opn.length c).ownBlock = some g → g < w.heap.size := fun g e => (o2.lt g e).2
  have hnew : ∀ g, (Value.slice a3 (s.order.length + ys.length) c3).ownBlock = some g → (∀ i, i < 12 → g ≠ b i) ∧ (Value.slice a s.opn.length c).ownBlock ≠ some g := fun g e => by
    rcases hw with hw | hw
    · rw [hw] at e
      exact r3 g e
    · rw [hw] at e
      cases e
      exact ⟨fun i hi e2 => by have := h.ap.lt i hi; omega, fun e2 => by have := hlt _ e2; omega⟩
  have e1 : (s.order ++ ys).length = s.order.length + ys.length := List.length_append
  refine ⟨hr1, t1, h.lie, h.ap.more t2, ⟨a, c, t4 0 _ (by decide) (by decide) o1, own_row (own_row o2 (fun g hgg e => (r3 g e).2 hgg) hg) (fun g hgg e => o3 g hgg 4 d (by cases e; rfl)) k1, o3, a3, c3, by rw [e1]; exact s1, ?_, by rw [e1]; exact hnew⟩, t4 1 _ (by decide) (by decide) h.mb, t4 9 _ (by decide) (by decide) h.mm, t4 2 _ (by decide) (by decide) h.lb, t4 3 _ (by decide) (by decide) h.kb, t5 10 _ _ (by decide) (by decide) h.kk, t4 5 _ (by decide) (by decide) h.cb, t4 6 _ (by decide) (by decide) h.ab, t5 11 _ _ (by decide) (by decide) h.aa, t4 7 _ (by decide) (by decide) h.fb, t4 8 _ (by decide) (by decide) h.vb⟩
  rw [e1, rowN_app]
  exact own_row ho (fun g hgg e => (hnew g hgg).1 4 d (by cases e; rfl)) k1
theorem FS.opPush (h : FS w0 b l la lc na nb s w) {a : Option Addr} {c : Nat} (ho0 : w.heap[b 0]? = some (.cells #[.slice a s.opn.length c] 65 (0, 0))) (x : Nat) {a3 : Option Addr} {c3 : Nat} (ho : w1.ownsRow w0.heap.size 3 1 (.slice a3 (s.opn.length + 1) c3) (s.opn.length + 1) (rowN s.opn ++ [.int .i64 (x : Int)])) (hg : w.grownBy w1 (Value.slice a s.opn.length c).ownBlock)
    (hw : (Value.slice a3 (s.opn.length + 1) c3).ownBlock = (Value.slice a s.opn.length c).ownBlock ∨ (Value.slice a3 (s.opn.length + 1) c3).ownBlock = some w.heap.size) :
    w1.heap[b 0]? = some (.cells #[.slice a s.opn.length c] 65 (0, 0)) ∧ FS w0 b l la lc na nb { s with opn := s.opn ++ [x] } (w1.setCell ⟨b 0, 0, none⟩ (.slice a3 (s.opn.length + 1) c3)) := by
  obtain ⟨a', c', o1, o2, o3, a2, c2, r1, r2, r3⟩ := h.op
  rw [ho0] at o1
  simp only [Option.some.injEq, Obj.cells.injEq, Array.mk.injEq, List.cons.injEq, Value.slice.injEq, true_and, and_true] at o1
  obtain ⟨rfl, rfl⟩ := o1
  have d : (0 : Nat) < 12 := by decide
  have hr1 := (hg.block _ (wblk_lt ho0) (fun e => o3 _ e.symm 0 d rfl)).trans ho0
  obtain ⟨s1, k1⟩ := row_set hr1 0 (.slice a3 (s.opn.length + 1) c3)
  obtain ⟨t1, t2, t3, t4, t5⟩ := h.two (fun g e => ⟨o3 g e, (o2.lt g e).1⟩) hg d k1
  have hlt : ∀ g, (Value.slice a2 s.order.length c2).ownBlock = some g → g < w.heap.size := fun g e => (r2.lt g e).2
  have hnew : ∀ g, (Value.slice a3 (s.opn.length + 1) c3).ownBlock = some g → (∀ i, i < 12 → g ≠ b i) ∧ (Value.slice a2 s.order.length c2).ownBlock ≠ some g := fun g e => by
    rcases hw with hw | hw
    · rw [hw] at e
      exact ⟨o3 g e, fun e2 => (r3 g e2).2 e⟩
    · rw [hw] at e
      cases e
      exact ⟨fun i hi e2 => by have := h.ap.lt i hi; omega, fun e2 => by have := hlt _ e2; omega⟩
  have e1 : (s.opn ++ [x]).length = s.opn.length + 1 := by simp
  refine ⟨hr1, t1, h.lie, h.ap.more t2, ⟨a3, c3, by rw [e1]; exact s1, ?_, by rw [e1]; exact fun g hgg => (hnew g hgg).1, a2, c2, t4 4 _ (by decide) (by decide) r1, own_row (own_row r2 (fun g hgg e => (r3 g hgg).2 e) hg) (fun g hgg e => (r3 g hgg).1 0 d (by cases e; rfl)) k1, by rw [e1]; exact fun g hgg => ⟨(r3 g hgg).1, fun e => (hnew g e).2 hgg⟩⟩, t4 1 _ (by decide) (by decide) h.mb, t4 9 _ (by decide) (by decide) h.mm, t4 2 _ (by decide) (by decide) h.lb, t4 3 _ (by decide) (by decide) h.kb, t5 10 _ _ (by decide) (by decide) h.kk, t4 5 _ (by decide) (by decide) h.cb, t4 6 _ (by decide) (by decide) h.ab, t5 11 _ _ (by decide) (by decide) h.aa, t4 7 _ (by decide) (by decide) h.fb, t4 8 _ (by decide) (by decide) h.vb⟩
  rw [e1, rowN_app]
  exact own_row ho (fun g hgg e => (hnew g hgg).1 0 d (by cases e; rfl)) k1
end
end Go.Proofs.Ytebbbefknfldoaa
/- Lists that grow: a list laid behind one that is owned, and the block that it lies in then. -/
namespace Go.Proofs.Ytebbbefknfldoaa
open Go.ChangeShapes Go.WideShapes Go.ChangeAt Go.RowKit
set_option linter.unusedVariables false
set_option maxRecDepth 100000
def Src (w : World) (vb : Value) (m : Nat) (news : List Value) : Prop := (vb = .slice none 0 0 ∧ m = 0 ∧ news = []) ∨ ∃ a c, vb = .slice (some a) m c ∧ ∀ j u, news[j]? = some u → w.cell? (a.add j) = some u
section
variable {P : Program}
theorem app_where (w : World) (base : Nat) (t ty e : TypeId) (i : TypeInfo) (z : Value) (ht : P.underlying t = some (.slice e)) (hi : P.info? e = some i) (hz : i.zero = some z)
    (v : Value) (n : Nat) (xs : List Value) (hown : w.ownsRow base e i.size v n xs)
    (a : Addr) (m c : Nat) (news : List Value) (hl : news.length = m * i.size) (hnews : ∀ j u, news[j]? = some u → w.cell? (a.add j) = some u) (h1 : ∀ u ∈ news, u.oneCell' = true)
    (h63 : n + m ≤ maxLen) (hbytes : ((n + m) + (n + m) / 4 + 192) * i.bytes ≤ 281474976710656) {v' : Value} {w' : World}
    (hr : (Builtin.append_ #[t, t] ty #[v, .slice (some a) m c]).run P w = .ok v' w') : v'.ownBlock = v.ownBlock ∨ v'.ownBlock = some w.heap.size := by
  have hsmall : n + m ≤ 9223372036854775807 := by simp only [maxLen] at h63; omega
  rcases hown.2 with ⟨rfl, rfl⟩ | ⟨g, cap, cur, rfl, hbg, hg, hnc, hcm, hcs, htake⟩
  · by_cases hm : m = 0
    · subst hm
      have h0 : (Builtin.append_ #[t, t] ty #[.slice none 0 0, .slice (some a) 0 c]).run P w = .ok (.slice none 0 0) w := by
        simp [Builtin.append_, run_underlying ht, sizeOf, typeInfo, hi, Builtin.lenOf, Builtin.firstCells, loadCells, loadCellsFrom]
      rw [h0] at hr
      cases hr
      exact .inl rfl
    · rw [run_append_nil (P := P) w t ty e i z ht hi hz a m c news hl hnews (by omega) (by omega) (Nat.le_trans (Nat.mul_le_mul_right _ (by omega)) hbytes)] at hr
      cases hr
      exact .inr rfl
  · by_cases hroom : n + m ≤ cap
    · rw [run_append_room (P := P) w t ty e i ht hi g n cap cur hg a m c news hl hnews h1 hroom (by rw [hl, hcs, ← Nat.add_mul]; exact Nat.mul_le_mul_right _ hroom)] at hr
      cases hr
      exact .inl rfl
    · rw [run_append_grow (P := P) w t ty e i z ht hi hz ⟨g, 0, none⟩ n cap xs hown.1 (hown.cells (g := g) rfl) a m c news hl hnews (by omega) (by omega) (growslice_fits_wide (by omega) hbytes)] at hr
      cases hr
      exact .inr rfl
theorem app_run (w : World) (base : Nat) (t ty e : TypeId) (i : TypeInfo) (z : Value) (size bytes : Nat) (ht : P.underlying t = some (.slice e)) (hi : P.info? e = some i) (hz : i.zero = some z)
    (hsize : i.size = size) (hby : i.bytes = bytes) (hzs : z.cells.size = size) (hsz : 0 < size)
    (v : Value) (n : Nat) (xs : List Value) (hown : w.ownsRow base e size v n xs)
    (vb : Value) (m : Nat) (news : List Value) (hsrc : Src w vb m news) (hl : news.length = m * size) (h1 : ∀ u ∈ news, u.oneCell' = true)
    (h63 : n + m ≤ maxLen) (hbytes : ((n + m) + (n + m) / 4 + 192) * bytes ≤ 281474976710656) (hbase : base ≤ w.heap.size) :
    ∃ v' w', (Builtin.append_ #[t, t] ty #[v, vb]).run P w = .ok v' w' ∧ w'.ownsRow base e size v' (n + m) (xs ++ news) ∧ w.grownBy w' v.ownBlock ∧ (v'.ownBlock = v.ownBlock ∨ v'.ownBlock = some w.heap.size) := by
  rcases hsrc with ⟨rfl, rfl, rfl⟩ | ⟨a, c, rfl, hnews⟩
  · refine ⟨v, w, run_append_owned_none (P := P) (w := w) base t ty e i size ht hi v n xs hown, by simpa using hown, ⟨rfl, rfl, rfl, Nat.le_refl _, fun _ _ _ => rfl⟩, .inl rfl⟩
  · obtain ⟨v', w', hr, h2, h3, _⟩ := run_append_own_wide (P := P) w base t ty e i z size bytes ht hi hz hsize hby hzs hsz v n xs hown a m c news hl hnews h1 h63 hbytes hbase
    subst hsize
    subst hby
    exact ⟨v', w', hr, h2, h3, app_where w base t ty e i z ht hi hz v n xs hown a m c news hl hnews h1 h63 hbytes hr⟩
theorem wpList_app {w : World} {ops : Array Oper} {rest : List Oper} {o : Oper} {a : Act} {Q : Exit → Act → World → Prop} (hgd : o.guard = none) (s x : Operand) (t : TypeId)
    (ho : o.op = .call { callee := .builtin .append, args := #[s, x], argTypes := #[t, t] })
    (base : Nat) (e : TypeId) (i : TypeInfo) (z : Value) (size bytes : Nat) (ht : P.underlying t = some (.slice e)) (hi : P.info? e = some i) (hz : i.zero = some z)
    (hsize : i.size = size) (hby : i.bytes = bytes) (hzs : z.cells.size = size) (hsz : 0 < size)
    (v : Value) (n : Nat) (xs : List Value) (hs : a.eval s = v) (hown : w.ownsRow base e size v n xs)
    (vb : Value) (m : Nat) (news : List Value) (hx : a.eval x = vb) (hsrc : Src w vb m news) (hl : news.length = m * size) (h1 : ∀ u ∈ news, u.oneCell' = true)
    (h63 : n + m ≤ maxLen) (hbytes : ((n + m) + (n + m) / 4 + 192) * bytes ≤ 281474976710656) (hbase : base ≤ w.heap.size)
    (h : ∀ v' w', w'.ownsRow base e size v' (n + m) (xs ++ news) → w.grownBy w' v.ownBlock → (v'.ownBlock = v.ownBlock ∨ v'.ownBlock = some w.heap.size) → wpList P ops Q rest (a.put o.dst v') w') : wpList P ops Q (o :: rest) a w := by
  refine wpList_plain hgd fun K hK => ?_
  obtain ⟨v', w', hrun, h2, h3, h4⟩ := app_run (P := P) w base t o.type e i z size bytes ht hi hz hsize hby hzs hsz v n xs hown vb m news hsrc hl h1 h63 hbytes hbase
  unfold Oper.wp
  simp [execOp, ho, resolve, invoke, builtin, hs, hx, hrun, Result.andThen]
  exact hK _ _ (h v' w' h2 h3 h4)
end
end Go.Proofs.Ytebbbefknfldoaa
/- A region that draws its order and whose last operation, a store, waits for all others: the loads among them are taken first under a condition that the store itself ends. -/
namespace Go.Proofs.Ytebbbefknfldoaa
set_option linter.unusedVariables false
def onsOf (ops : Array Oper) (j : Nat) : List Nat := ((ops[j]?).map fun o => (o.after.toList.filter fun e => Region.binds .any e).map (·.on)).getD []
def markF (ops : Array Oper) : Nat → List Nat → List Nat
  | 0, s => s
  | j + 1, s => markF ops j (if s.contains j then onsOf ops j ++ s else s)
def lastB (ops : Array Oper) (L : Nat) : Bool := (List.range ops.size).all fun j => (markF ops ops.size [L]).contains j && (onsOf ops j).all fun i => decide (i < j)
def ClosedL (ops : Array Oper) (listed : Array Bool) : Prop := ∀ j oj, ops[j]? = some oj → listed.getD j false = true → ∀ e ∈ oj.after, Region.binds .any e = true → listed.getD e.on false = true
theorem mem_ons {ops : Array Oper} {j i : Nat} : i ∈ onsOf ops j ↔ ∃ o, ops[j]? = some o ∧ ∃ e ∈ o.after, Region.binds .any e = true ∧ e.on = i := by
  unfold onsOf
  cases h : ops[j]? with
  | none => simp
  | some o => simp [and_assoc]
theorem mark_listed {ops : Array Oper} {listed : Array Bool} (hc : ClosedL ops listed) {L : Nat} (hL : L ∈ Region.ready .any ops listed) : ∀ (n : Nat) (s : List Nat), (∀ j ∈ s, j = L ∨ listed.getD j false = true) → ∀ j ∈ markF ops n s, j = L ∨ listed.getD j false = true := by
  intro n
  induction n with
  | zero => intro s h; exact h
  | succ n ih =>
    intro s h
    refine ih _ ?_
    by_cases hn : s.contains n = true
    · rw [if_pos hn]
      intro j hj
      rcases List.mem_append.1 hj with hj | hj
      · obtain ⟨o, ho, e, he, hb, rfl⟩ := mem_ons.1 hj
        right
        rcases h n (by simpa using hn) with rfl | hl
        · obtain ⟨_, o', ho', hall⟩ := mem_ready.1 hL
          rw [ho] at ho'
          cases ho'
          exact hall e he hb
        · exact hc n o ho hl e he hb
      · exact h j hj
    · rw [if_neg hn]
      exact h
theorem last_all {ops : Array Oper} {listed : Array Bool} (hc : ClosedL ops listed) {L : Nat} (hL : L ∈ Region.ready .any ops listed) (hb : lastB ops L = true) {j : Nat} (hj : j < ops.size) (hne : j ≠ L) : listed.getD j false = true := by
  have h := List.all_eq_true.1 hb j (List.mem_range.2 hj)
  simp only [Bool.and_eq_true] at h
  rcases mark_listed hc hL ops.size [L] (fun i hi => .inl (by simpa using hi)) j (by simpa using h.1) with h1 | h1
  · exact absurd h1 hne
  · exact h1
theorem some_ready {ops : Array Oper} {listed : Array Bool} {L : Nat} (hb : lastB ops L = true) (hs : listed.size = ops.size) : ∀ (n : Nat), n < ops.size → listed.getD n true = false → Region.ready .any ops listed ≠ [] := by
  intro n
  induction n using Nat.strongRecOn with
  | _ n ih =>
    intro hn hl h0
    by_cases hr : n ∈ Region.ready .any ops listed
    · rw [h0] at hr; cases hr
    · have h := List.all_eq_true.1 hb n (List.mem_range.2 hn)
      simp only [Bool.and_eq_true, List.all_eq_true, decide_eq_true_eq] at h
      apply hr
      refine mem_ready.2 ⟨hl, ops[n], Array.getElem?_eq_getElem hn, fun e he hbd => ?_⟩
      have hlt := h.2 e.on (mem_ons.2 ⟨_, Array.getElem?_eq_getElem hn, e, he, hbd, rfl⟩)
      cases hd : listed.getD e.on false with
      | true => rfl
      | false =>
        exfalso
        refine ih e.on hlt (by omega) ?_ h0
        have : e.on < listed.size := by omega
        simp [this] at hd ⊢
        exact hd
def noOp (o : Oper) : Oper := { o with op := .move (.const (.int .i64 0)), dst := none }
def lastQ (P : Program) (oL : Oper) (Q : Exit → Act → World → Prop) : Exit → Act → World → Prop := fun e a w => match e with
  | .normal => oL.wp P a w (fun a' w' => Q .normal a' w') Q
  | e => Q e a w
section
variable {P : Program} {ops : Array Oper} {Q : Exit → Act → World → Prop} {L : Nat} {oL : Oper}
theorem ready_swap (hL : ops[L]? = some oL) (listed : Array Bool) : Region.ready .any (ops.setIfInBounds L (noOp oL)) listed = Region.ready .any ops listed := by
  unfold Region.ready
  rw [Array.size_setIfInBounds]
  congr 1
  funext i
  by_cases h : L = i
  · subst h
    have hlt : L < ops.size := (Array.getElem?_eq_some_iff.1 hL).1
    rw [Array.getElem?_setIfInBounds_self_of_lt hlt, hL]
    rfl
  · rw [Array.getElem?_setIfInBounds_ne h]
theorem yielded_swap (hL : ops[L]? = some oL) (hd : oL.dst = none) (tmps : Array Value) : yielded (ops.setIfInBounds L (noOp oL)) tmps = yielded ops tmps := by
  funext i
  unfold yielded
  by_cases h : L = i
  · subst h
    have hlt : L < ops.size := (Array.getElem?_eq_some_iff.1 hL).1
    rw [Array.getElem?_setIfInBounds_self_of_lt hlt, hL]
    simp [noOp, hd]
  · rw [Array.getElem?_setIfInBounds_ne h]
theorem wpO_post {o : Oper} {a : Act} {w : World} {K : Act → World → Prop} {Q Q2 : Exit → Act → World → Prop} (hp : ∀ c a w, Q2 (.panic c) a w → Q (.panic c) a w) (ho : LetsOut Q2 → LetsOut Q) (h : o.wp P a w K Q2) : o.wp P a w K Q := by
  unfold Oper.wp at *
  generalize (execOp a.eval o).run P w = r at *
  cases r with
  | ok n w' =>
    cases n <;> simp only [Oper.upon] at h ⊢ <;>
      first
        | exact h
        | exact Calls.mono h (fun e w'' he => by cases e <;> first | exact he | exact hp _ _ _ he | exact ho he)
  | halt x w' => cases x <;> simp only [Oper.upon] at h ⊢ <;> exact hp _ _ _ h
theorem lets_last (h : LetsOut (lastQ P oL Q)) : LetsOut Q := h
theorem any_swap (hL : ops[L]? = some oL) (hd : oL.dst = none) (hg : oL.guard = none) (hb : lastB ops L = true) :
    ∀ (fuel : Nat) (listed : Array Bool) (a : Act) (w : World), ClosedL ops listed → listed.size = ops.size → listed.getD L true = false → wpAny P .any (ops.setIfInBounds L (noOp oL)) (lastQ P oL Q) fuel listed a w → wpAny P .any ops Q fuel listed a w := by
  have hlt : L < ops.size := (Array.getElem?_eq_some_iff.1 hL).1
  intro fuel
  induction fuel with
  | zero =>
    intro listed a w hc hs hu h
    exact absurd (by rw [← ready_swap hL]; exact h.1) (some_ready hb hs L hlt hu)
  | succ fuel ih =>
    intro listed a w hc hs hu h
    refine ⟨fun h0 => absurd h0 (some_ready hb hs L hlt hu), fun i hi => ?_⟩
    have h1 := h.2 i (by rw [ready_swap hL]; exact hi)
    by_cases e : L = i
    · subst e
      have hr0 : Region.ready .any ops (listed.setIfInBounds L true) = [] := by
        apply List.eq_nil_iff_forall_not_mem.2
        intro j hj
        obtain ⟨hj0, o, ho, _⟩ := mem_ready.1 hj
        have hjs : j < ops.size := (Array.getElem?_eq_some_iff.1 ho).1
        by_cases ej : L = j
        · subst ej
          have : L < listed.size := by omega
          simp [this] at hj0
        · rw [getD_set_ne true ej] at hj0
          have := last_all hc hi hb hjs (Ne.symm ej)
          have hl : j < listed.size := by omega
          simp [hl] at this hj0
          rw [this] at hj0
          cases hj0
      have h2 : wpAny P .any (ops.setIfInBounds L (noOp oL)) (lastQ P oL Q) fuel (listed.setIfInBounds L true) a w := by
        unfold wpOp at h1
        rw [Array.getElem?_setIfInBounds_self_of_lt hlt] at h1
        have hw : Region.wanted (noOp oL) (yielded (ops.setIfInBounds L (noOp oL)) a.tmps) = true := by simp [Region.wanted, noOp, hg]
        simp only [hw, if_true] at h1
        rcases h1 with h1 | h1
        · unfold Oper.wp at h1
          simpa [execOp, noOp, Oper.upon, Act.put] using h1
        · obtain ⟨h1, _⟩ := h1
          have h2 : noRoomEvent ∈ (((pure (.value (a.eval (.const (.int .i64 0)))) : Sem Next)).runT P w #[]).2 := h1.1
          have h3 : (((pure (.value (a.eval (.const (.int .i64 0)))) : Sem Next)).runT P w #[]).2 = #[] := rfl
          rw [h3] at h2
          simp at h2
      have h3 : lastQ P oL Q .normal a w := by
        cases fuel with
        | zero => exact h2.2
        | succ f => exact h2.1 (by rw [ready_swap hL]; exact hr0)
      unfold wpOp
      rw [hL]
      have hw : Region.wanted oL (yielded ops a.tmps) = true := by simp [Region.wanted, hg]
      simp only [hw, if_true]
      exact .inl (Oper.wp_mono (fun a' w' hq => wpAny_done hr0 hq fuel) h3)
    · have hu' : (listed.setIfInBounds i true).getD L true = false := by rw [getD_set_ne true (Ne.symm e)]; exact hu
      have hc' : ClosedL ops (listed.setIfInBounds i true) := by
        intro j oj hj hl ed he hbd
        by_cases ej : i = j
        · subst ej
          obtain ⟨_, o, ho, hall⟩ := mem_ready.1 hi
          rw [hj] at ho
          cases ho
          exact getD_set_true (hall ed he hbd)
        · rw [getD_set_ne false ej] at hl
          exact getD_set_true (hc j oj hj hl ed he hbd)
      have h2 := wpOp_mono (fun a' w' h => ih (listed.setIfInBounds i true) a' w' hc' (by simpa using hs) hu' h) h1
      unfold wpOp at h2 ⊢
      rw [Array.getElem?_setIfInBounds_ne e] at h2
      cases ho : ops[i]? with
      | none => simpa [ho] using h2
      | some o =>
        simp only [ho, yielded_swap hL hd] at h2 ⊢
        split
        · rename_i hw
          simp only [hw, if_true] at h2
          rcases h2 with h2 | ⟨h2, h3⟩
          · exact .inl (wpO_post (fun c a w h => h) (lets_last (P := P) (oL := oL)) h2)
          · exact .inr ⟨h2, lets_last (P := P) (oL := oL) h3⟩
        · rename_i hw
          simpa [hw] using h2
theorem wp_region_last {id : Nat} {a : Act} {w : World} (hm : P.follows .mixedOrders = true) (L : Nat) (oL : Oper) (hL : ops[L]? = some oL) (hd : oL.dst = none) (hg : oL.guard = none) (hb : lastB ops L = true) (S : World → Prop) (hS : S w.drew)
    (h : S w.drew → wpAnyH P .any (ops.setIfInBounds L (noOp oL)) (lastQ P oL Q) S ops.size (Array.replicate ops.size false) a w.drew) : (Code.region id ops true).wp P Q a w := by
  have hlt : L < ops.size := (Array.getElem?_eq_some_iff.1 hL).1
  refine wp_region_any hm (any_swap hL hd hg hb ops.size _ a _ ?_ (by simp) (by simp [hlt]) (wpAny_of_held _ _ _ _ (h hS)))
  intro j oj hj hl
  have hj' : j < ops.size := (Array.getElem?_eq_some_iff.1 hj).1
  simp [hj'] at hl
end
end Go.Proofs.Ytebbbefknfldoaa
/- equ.walk's finish. -/
namespace Go.Proofs.Ytebbbefknfldoaa
open Go.ChangeShapes Go.WideShapes Go.ChangeAt Go.RowKit
set_option linter.unusedVariables false
set_option linter.unusedSimpArgs false
set_option maxRecDepth 100000
theorem info3 : (Try.prog.info? 3).map (fun i => (i.zero, i.size, i.bytes)) = some (some (.int .i64 0), 1, 8) := by kernel_rfl
def selfF (l : List Eqv) (i : Nat) : Bool := match l[i]? with | some q => inT q.1 q.2.terms | none => false
def ringS (s : Ta.St) (ring : List Nat) (p : Nat → Bool) (j : Nat) : Ta.St := { s with met := fun v => if v ∈ ring.take j then Ta.big else s.met v, back := s.back ++ (ring.take j).filter p }
theorem ringS_zero (s : Ta.St) (ring : List Nat) (p : Nat → Bool) : ringS s ring p 0 = s := by
  unfold ringS
  simp
theorem take_one {ring : List Nat} {j i : Nat} (h : ring[j]? = some i) : ring.take (j + 1) = ring.take j ++ [i] := by
  rw [List.take_add_one, h]
  rfl
theorem ringS_yes (s : Ta.St) {ring : List Nat} {p : Nat → Bool} {j i : Nat} (h : ring[j]? = some i) (hp : p i = true) : ({ ({ ringS s ring p j with met := Ta.upd (ringS s ring p j).met i Ta.big } : Ta.St) with back := (ringS s ring p j).back ++ [i] } : Ta.St) = ringS s ring p (j + 1) := by
  unfold ringS
  rw [take_one h, List.filter_append]
  simp only [List.filter_cons, hp, if_true, List.filter_nil, List.append_assoc]
  congr 1
  funext v
  unfold Ta.upd
  by_cases hv : v = i
  · subst hv; simp
  · rw [if_neg hv]; simp [hv]
theorem ringS_no (s : Ta.St) {ring : List Nat} {p : Nat → Bool} {j i : Nat} (h : ring[j]? = some i) (hp : p i = false) : ({ ringS s ring p j with met := Ta.upd (ringS s ring p j).met i Ta.big } : Ta.St) = ringS s ring p (j + 1) := by
  unfold ringS
  rw [take_one h, List.filter_append]
  simp only [List.filter_cons, hp, Bool.false_eq_true, if_false, List.filter_nil, List.append_nil]
  congr 1
  funext v
  unfold Ta.upd
  by_cases hv : v = i
  · subst hv; simp
  · rw [if_neg hv]; simp [hv]
section
variable {w0 w w' w1 : World} {b : Nat → Nat} {l : List Eqv} {la : Option Addr} {lc na nb : Nat} {s : Ta.St}
theorem FS.opAt (h : FS w0 b l la lc na nb s w) {a : Option Addr} {n c : Nat} (ho : w.heap[b 0]? = some (.cells #[.slice a n c] 65 (0, 0))) : n = s.opn.length ∧ w.ownsRow w0.heap.size 3 1 (.slice a s.opn.length c) s.opn.length (rowN s.opn) := by
  obtain ⟨a', c', o1, o2, o3, _⟩ := h.op
  rw [ho] at o1
  simp only [Option.some.injEq, Obj.cells.injEq, Array.mk.injEq, List.cons.injEq, Value.slice.injEq, true_and, and_true] at o1
  obtain ⟨rfl, rfl, rfl⟩ := o1
  exact ⟨rfl, o2⟩
theorem own_addr {lo : Nat} {T : TypeId} {sz : Nat} {a : Option Addr} {n c : Nat} {xs : List Value} (h : w.ownsRow lo T sz (.slice a n c) n xs) (hn : 0 < n) : ∃ g, a = some ⟨g, 0, none⟩ ∧ n ≤ c ∧ ∀ j u, xs[j]? = some u → w.cell? ⟨g, j, none⟩ = some u := by
  have h' := h
  rcases h.2 with ⟨_, e⟩ | ⟨g, cap, cur, hv, k2, k3, k4, k5, k6, k7⟩
  · omega
  · injection hv with e1 e2 e3
    subst e1
    subst e3
    refine ⟨g, rfl, k4, fun j u hu => ?_⟩
    have := h'.cells (g := g) rfl j u hu
    have hadd : (⟨g, 0, none⟩ : Addr).add j = ⟨g, j, none⟩ := by unfold Addr.add; split <;> simp_all
    rw [hadd] at this
    exact this
set_option maxHeartbeats 16000000 in
theorem finish_is (h : FS w0 b l la lc na nb s w) (frm : Nat) (hfr : frm < s.opn.length) (hin : ∀ i ∈ s.opn, i < l.length) (hlen : s.opn.length ≤ 100000) (hl : l.length ≤ 100000) (hord : s.order.length ≤ 100000) (hnb : nb ≤ 1000000) (hheld : ∀ q ∈ l, q.1.length ≤ 140737488355328 ∧ q.2.terms.length ≤ 4400000) :
    Calls Try.prog 42 #[.int .i64 (frm : Int), bp b 0, bp b 1, bp b 2, bp b 3, bp b 4] w fun e w' => e = .returned (.tuple #[]) ∧ ∃ nb', nb' ≤ nb + (s.opn.length - frm) ∧ FS w0 b l la lc na nb' (Ta.finishF (selfF l) frm s) w' := by
  obtain ⟨a, c, o1, o2, o3, _⟩ := h.op
  obtain ⟨g, rfl, hnc, hcells⟩ := own_addr o2 (by omega)
  have hcb := o1
  obtain ⟨ring, hring⟩ : ∃ ring, ring = s.opn.drop frm := ⟨_, rfl⟩
  obtain ⟨n0, hn0⟩ : ∃ n0, n0 = ring.length := ⟨_, rfl⟩
  have hrl : ring.length = s.opn.length - frm := by rw [hring, List.length_drop]
  have hn1 : n0 = s.opn.length - frm ∧ 0 < n0 := by omega
  obtain ⟨p, hp⟩ : ∃ p : Nat → Bool, p = fun j => decide (1 < ring.length) || selfF l j := ⟨_, rfl⟩
  have hfinal : Hid (∀ nb' W, FS w0 b l la lc na nb' (ringS s ring p n0) W → True) := fun _ _ _ => trivial
  have hget : Hid (∀ j, j < n0 → ∃ i, ring[j]? = some i ∧ i < l.length ∧ ∀ (nb' : Nat) (W : World) (k : Nat), FS w0 b l la lc na nb' (ringS s ring p k) W → W.heap[b 0]? = some (.cells #[.slice (some ⟨g, 0, none⟩) s.opn.length c] 65 (0, 0)) → W.cell? ⟨g, frm + j, none⟩ = some (.int .i64 (i : Int))) := fun j hj => by
    have h1 : j < ring.length := by omega
    obtain ⟨i, hij⟩ : ∃ i, ring[j]? = some i := ⟨_, List.getElem?_eq_getElem h1⟩
    have hmem := List.mem_of_getElem? hij
    rw [hring] at hmem
    refine ⟨i, hij, hin _ (List.mem_of_mem_drop hmem), fun nb' W k hF hoW => ?_⟩
    obtain ⟨_, r⟩ := hF.opAt hoW
    obtain ⟨g', e1, _, hc⟩ := own_addr r (by show 0 < s.opn.length; omega)
    cases e1
    refine hc (frm + j) _ ?_
    show (rowN s.opn)[frm + j]? = _
    unfold rowN
    rw [List.getElem?_map, ← List.getElem?_drop, ← hring, hij]
    rfl
  have hla : Hid (∃ gl ol, la = some ⟨gl, ol, none⟩ ∧ ∀ i, i < l.length → ∀ W, Below w0.heap.size w0 W → ∃ q va vc, l[i]? = some q ∧ EqAt W gl (ol + i * 3) q va vc) := by
    have hl0 : 0 < l.length := by
      have := hin (s.opn[frm]) (List.getElem_mem hfr)
      omega
    rcases h.lie with e | ⟨gl, ol, e1, e2, e3⟩
    · rw [e] at hl0; simp at hl0
    · refine ⟨gl, ol, e1, fun i hi W hB => ?_⟩
      obtain ⟨va, vc, hq⟩ := e3 i l[i] (List.getElem?_eq_getElem hi)
      exact ⟨l[i], va, vc, List.getElem?_eq_getElem hi, hq.below e2 hB⟩
  obtain ⟨gl, ol, hlae, hleq⟩ := hla.out
  subst hlae
  replace hleq := Hid.intro hleq
  obtain ⟨nl, hnl⟩ : ∃ nl, nl = l.length := ⟨_, rfl⟩
  have hst0 : Hid (FS w0 b l (some ⟨gl, ol, none⟩) lc na nb (ringS s ring p 0) w) := by show FS _ _ _ _ _ _ _ _ _; rw [ringS_zero]; exact h
  have ho0 := Hid.intro o1
  have hno := Hid.intro (fun (nb' : Nat) (W : World) (k : Nat) (hF : FS w0 b l (some ⟨gl, ol, none⟩) lc na nb' (ringS s ring p k) W) => hF)
  have b0c := (Joins.cell_of_block o1 0).trans rfl
  obtain ⟨m0, hm0⟩ : ∃ m0, m0 = s.opn.length := ⟨_, rfl⟩
  have hpA : Hid (1 < n0 → ∀ i, p i = true) := fun h1 i => by rw [hp, ← hn0]; simp [h1]
  have hpB : Hid (n0 = 1 → ∀ i, p i = selfF l i) := fun h1 i => by rw [hp, ← hn0, h1]; simp
  have hsl : Hid (Value.slice (some ⟨g, 0, none⟩) s.opn.length c = .slice (some ⟨g, 0, none⟩) m0 c) := by show _ = _; rw [hm0]
  rw [← hm0] at hn1 hlen hfr b0c hnc ho0
  rw [← hm0] at hget
  have hgetH := hget
  have hnl0 : Hid (ring.length = n0) := hn0.symm
  obtain ⟨i3, hi3, hz0, hz1, hz2⟩ := info_parts info3
  have hfin : Hid (∀ (nb' : Nat) (W : World), FS w0 b l (some ⟨gl, ol, none⟩) lc na nb' (ringS s ring p n0) W → W.heap[b 0]? = some (.cells #[.slice (some ⟨g, 0, none⟩) m0 c] 65 (0, 0)) → ∃ a2 k2 c2, k2 ≤ 100000 ∧ W.heap[b 4]? = some (.cells #[.slice a2 k2 c2] 65 (0, 0)) ∧ W.ownsRow w0.heap.size 3 1 (.slice a2 k2 c2) k2 (rowN s.order) ∧ Src W (.slice (some ⟨g, frm, none⟩) n0 (c - frm)) n0 (rowN ring) ∧ w0.heap.size ≤ W.heap.size ∧
      ∀ a3 c3 W1, W1.ownsRow w0.heap.size 3 1 (.slice a3 (k2 + n0) c3) (k2 + n0) (rowN s.order ++ rowN ring) → W.grownBy W1 (Value.slice a2 k2 c2).ownBlock → ((Value.slice a3 (k2 + n0) c3).ownBlock = (Value.slice a2 k2 c2).ownBlock ∨ (Value.slice a3 (k2 + n0) c3).ownBlock = some W.heap.size) → W1.heap[b 4]? = some (.cells #[.slice a2 k2 c2] 65 (0, 0)) ∧ (W1.setCell ⟨b 4, 0, none⟩ (.slice a3 (k2 + n0) c3)).heap[b 0]? = some (.cells #[.slice (some ⟨g, 0, none⟩) m0 c] 65 (0, 0)) ∧ FS w0 b l (some ⟨gl, ol, none⟩) lc na nb' (Ta.finishF (selfF l) frm s) ((W1.setCell ⟨b 4, 0, none⟩ (.slice a3 (k2 + n0) c3)).setCell ⟨b 0, 0, none⟩ (.slice (some ⟨g, 0, none⟩) frm c))) := fun nb' W hF hoW => by
    have htk : ring.take n0 = ring := by rw [hn0, List.take_length]
    obtain ⟨a, c', q1, q2, q3, a2, c2, r1, r2, r3⟩ := hF.op
    refine ⟨a2, s.order.length, c2, hord, r1, r2, .inr ⟨_, _, rfl, fun j u hu => ?_⟩, hF.bel.size, fun a3 c3 W1 ho hg hw => ?_⟩
    · unfold rowN at hu
      rw [List.getElem?_map] at hu
      cases hr : ring[j]? with
      | none => rw [hr] at hu; cases hu
      | some i =>
        rw [hr] at hu
        cases hu
        obtain ⟨i', e1, _, e2⟩ := hget.out j (by have := (List.getElem?_eq_some_iff.1 hr).1; omega)
        rw [hr] at e1
        cases e1
        have hadd : (⟨g, frm, none⟩ : Addr).add j = ⟨g, frm + j, none⟩ := by unfold Addr.add; split <;> simp_all
        rw [hadd]
        exact e2 nb' W n0 hF hoW
    · rw [hn0] at ho hw ⊢
      obtain ⟨t1, hF2⟩ := hF.ordPush r1 ring ho hg hw
      have hne : some (b 0) ≠ (Value.slice a2 s.order.length c2).ownBlock := fun e => (r3 _ e.symm).1 0 (by decide) rfl
      have t2 := (hg.block _ (wblk_lt hoW) hne).trans hoW
      obtain ⟨u1, u2⟩ := row_set t1 0 (.slice a3 (s.order.length + ring.length) c3)
      have t3 := (u2.block _ (wblk_lt t2) (fun e => hF.ap.ne (i := 0) (j := 4) (by decide) (by decide) (by decide) (Option.some.inj e))).trans t2
      refine ⟨t1, t3, ?_⟩
      have t4 := t3
      rw [hm0] at t4
      obtain ⟨v1, _⟩ := hF2.cut t4 frm (by show frm ≤ s.opn.length; omega) (by show 0 < s.opn.length; omega)
      have efin : Ta.finishF (selfF l) frm s = { ({ ringS s ring p n0 with order := s.order ++ ring } : Ta.St) with opn := s.opn.take frm } := by
        unfold Ta.finishF ringS
        rw [← hring, htk, hp]
      rw [efin]
      exact v1
  clear hget hla hfinal hring hp hn0 hrl o1 o2 o3 hcells hcb hin h hsl hnl
  replace hm0 := Hid.intro hm0
  go_enter Try.func42, Try.ntmps42
  go_wp2
  all_goals first | omega | skip
  go_loopw [15] (fun v15 wr => ∃ (j nb' : Nat), j ≤ n0 ∧ nb' ≤ nb + j ∧ v15 = .int .i64 (j : Int) ∧ Hid (FS w0 b l (some ⟨gl, ol, none⟩) lc na nb' (ringS s ring p j) wr) ∧ Hid (wr.heap[b 0]? = some (.cells #[.slice (some ⟨g, 0, none⟩) m0 c] 65 (0, 0)))) (fun v15 _ => n0 - (intOf v15).toNat)
  case atStart => exact ⟨0, nb, by omega, by omega, by first | rfl | go_num, hst0, ho0⟩
  case round =>
    obtain ⟨j, nb', hj, hnbj, rfl, hF, ho⟩ := hrel
    by_cases hjn : j < n0
    · obtain ⟨i, hri, hil, hci⟩ := hgetH.out j hjn
      have c13 := hci nb' wr j hF.out ho.out
      have x1 := (Joins.cell_of_block hF.out.mb 0).trans rfl
      have x9 := (Joins.cell_of_block hF.out.mm i).trans (metR_get l.length _ i hil)
      have f9 := frozen_of_row wr (b 9) i _ 3 hF.out.mm
      obtain ⟨hF1, hg1⟩ := hF.out.metSet i Ta.big hil
      have ho1 := hF.out.kp (j := 9) (by decide) hg1 (i := 0) (by decide) (by decide) ho.out
      rw [show ((Ta.big : Nat) : Int) = 9223372036854775807 from rfl] at hF1 ho1
      have hcell : Hid (∀ W, Below w0.heap.size w0 W → W.cell? ⟨gl, ol + i * 3, none⟩ = some (.string (str (nmOf l i)))) := fun W hB => by
        obtain ⟨q, va, vc, h1, h2⟩ := hleq.out i hil W hB
        unfold nmOf
        rw [h1]
        exact h2.name
      have hnm : Hid ((nmOf l i).length ≤ 140737488355328) := by
        show _ ≤ _
        unfold nmOf
        rw [List.getElem?_eq_getElem hil]
        exact (hheld _ (List.getElem_mem hil)).1
      have hnb2 : nb' ≤ 3000000 := by omega
      have hyes : Hid (p i = true → ∀ nb2 W, FS w0 b l (some ⟨gl, ol, none⟩) lc na nb2 { ({ ringS s ring p j with met := Ta.upd (ringS s ring p j).met i Ta.big } : Ta.St) with back := (ringS s ring p j).back ++ [i] } W → FS w0 b l (some ⟨gl, ol, none⟩) lc na nb2 (ringS s ring p (j + 1)) W) := fun hp1 nb2 W hW => by rw [ringS_yes s hri hp1] at hW; exact hW
      have hnot : Hid (p i = false → ∀ nb2 W, FS w0 b l (some ⟨gl, ol, none⟩) lc na nb2 { ringS s ring p j with met := Ta.upd (ringS s ring p j).met i Ta.big } W → FS w0 b l (some ⟨gl, ol, none⟩) lc na nb2 (ringS s ring p (j + 1)) W) := fun hp1 nb2 W hW => by rw [ringS_no s hri hp1] at hW; exact hW
      replace hF1 := Hid.intro hF1
      replace ho1 := Hid.intro ho1
      have hile := Hid.intro hil
      clear hg1 hri
      by_cases h1 : 1 < n0
      · have hnx := Hid.intro (hyes.out (hpA.out h1 i) (nb' + 1))
        have h1' : (1 : Int) < (n0 : Int) := by omega
        clear hnot hyes
        go_upto_region 6 with fail
        all_goals first | omega | skip
        generalize wr.setCell ⟨b 9, i, none⟩ (.int .i64 9223372036854775807) = W1 at *
        have hFd := Hid.intro (hF1.out.below ((Below.refl _ W1).drew))
        obtain ⟨wu, hrun, hIs, hgu⟩ := intput_run hFd.out.kk hnb2 (nmOf l i) (i : Int) hnm.out
        have hF6 := Hid.intro (hFd.out.backPut i hIs hgu)
        have ho6 := Hid.intro (hFd.out.kp (j := 10) (by decide) hgu (i := 0) (by decide) (by decide) ho1.out)
        have q0 := hcell.out _ hFd.out.bel
        have x3 := (Joins.cell_of_block hFd.out.kb 0).trans rfl
        have x2 := (Joins.cell_of_block hFd.out.lb 0).trans rfl
        clear hIs hgu hFd
        refine wp_region_last (by kernel_rfl) 7 _ rfl rfl rfl (by kernel_rfl) (fun W => W.cell? ⟨b 3, 0, none⟩ = some (.map (some (b 10))) ∧ W.cell? ⟨b 2, 0, none⟩ = some (.slice (some ⟨gl, ol, none⟩) l.length lc) ∧ W.cell? ⟨gl, ol + i * 3, none⟩ = some (.string (str (nmOf l i)))) ⟨x3, x2, q0⟩ (fun hHeld => ?_)
        simp only [List.setIfInBounds_toArray, List.set_cons_succ, List.set_cons_zero, noOp]
        generalize W1.drew = DW at *
        refine wpAnyH_take (i := 0) (v := ?vm1_0) (by simp only [List.getElem?_toArray, List.getElem?_cons_succ, List.getElem?_cons_zero]; rfl) (by kernel_rfl) (by kernel_rfl) (by kernel_rfl) (by exact fun _ _ _ h => h) (Or.inl ⟨by rfl, ?ym1_0⟩) (by assumption) ?rm1_0
        case ym1_0 => (intro w hSw; (try dsimp only at hSw); go_simp; (try with_reducible rfl))
        try simp only [Act.put, List.setIfInBounds_toArray, List.set_cons_zero, List.set_cons_succ]
        refine wpAnyH_take (i := 1) (v := ?vm1_1) (by simp only [List.getElem?_toArray, List.getElem?_cons_succ, List.getElem?_cons_zero]; rfl) (by kernel_rfl) (by kernel_rfl) (by kernel_rfl) (by exact fun _ _ _ h => h) (Or.inl ⟨by rfl, ?ym1_1⟩) (by assumption) ?rm1_1
        case ym1_1 => (intro w hSw; (try dsimp only at hSw); go_simp; (try with_reducible rfl))
        try simp only [Act.put, List.setIfInBounds_toArray, List.set_cons_zero, List.set_cons_succ]
        refine wpAnyH_take (i := 2) (v := ?vm1_2) (by simp only [List.getElem?_toArray, List.getElem?_cons_succ, List.getElem?_cons_zero]; rfl) (by kernel_rfl) (by kernel_rfl) (by kernel_rfl) (by exact fun _ _ _ h => h) (Or.inl ⟨by rfl, ?ym1_2⟩) (by assumption) ?rm1_2
        case ym1_2 => (intro w hSw; (try dsimp only at hSw); go_simp; (try with_reducible rfl))
        try simp only [Act.put, List.setIfInBounds_toArray, List.set_cons_zero, List.set_cons_succ]
        refine wpAnyH_take (i := 3) (v := ?vm1_3) (by simp only [List.getElem?_toArray, List.getElem?_cons_succ, List.getElem?_cons_zero]; rfl) (by kernel_rfl) (by kernel_rfl) (by kernel_rfl) (by exact fun _ _ _ h => h) (Or.inl ⟨by rfl, ?ym1_3⟩) (by assumption) ?rm1_3
        case ym1_3 => (intro w hSw; (try dsimp only at hSw); go_simp; (try with_reducible rfl))
        try simp only [Act.put, List.setIfInBounds_toArray, List.set_cons_zero, List.set_cons_succ]
        refine wpAnyH_take (i := 4) (v := ?vm1_4) (by simp only [List.getElem?_toArray, List.getElem?_cons_succ, List.getElem?_cons_zero]; rfl) (by kernel_rfl) (by kernel_rfl) (by kernel_rfl) (by exact fun _ _ _ h => h) (Or.inl ⟨by rfl, ?ym1_4⟩) (by assumption) ?rm1_4
        case ym1_4 => (intro w hSw; (try dsimp only at hSw); go_simp; (try with_reducible rfl))
        try simp only [Act.put, List.setIfInBounds_toArray, List.set_cons_zero, List.set_cons_succ]
        refine wpAnyH_take (i := 5) (v := ?vm1_5) (by simp only [List.getElem?_toArray, List.getElem?_cons_succ, List.getElem?_cons_zero]; rfl) (by kernel_rfl) (by kernel_rfl) (by kernel_rfl) (by exact fun _ _ _ h => h) (Or.inl ⟨by rfl, ?ym1_5⟩) (by assumption) ?rm1_5
        case ym1_5 => (intro w hSw; (try dsimp only at hSw); go_simp; (try with_reducible rfl))
        try simp only [Act.put, List.setIfInBounds_toArray, List.set_cons_zero, List.set_cons_succ]
        refine wpAnyH_take (i := 6) (v := ?vm1_6) (by simp only [List.getElem?_toArray, List.getElem?_cons_succ, List.getElem?_cons_zero]; rfl) (by kernel_rfl) (by kernel_rfl) (by kernel_rfl) (by exact fun _ _ _ h => h) (Or.inl ⟨by rfl, ?ym1_6⟩) (by assumption) ?rm1_6
        case ym1_6 => (intro w hSw; (try dsimp only at hSw); go_simp; (try with_reducible rfl))
        try simp only [Act.put, List.setIfInBounds_toArray, List.set_cons_zero, List.set_cons_succ]
        refine wpAnyH_take (i := 7) (v := ?vm1_7) (by simp only [List.getElem?_toArray, List.getElem?_cons_succ, List.getElem?_cons_zero]; rfl) (by kernel_rfl) (by kernel_rfl) (by kernel_rfl) (by exact fun _ _ _ h => h) (Or.inl ⟨by rfl, ?ym1_7⟩) (by assumption) ?rm1_7
        case ym1_7 => (intro w hSw; (try dsimp only at hSw); go_simp; (try with_reducible rfl))
        try simp only [Act.put, List.setIfInBounds_toArray, List.set_cons_zero, List.set_cons_succ]
        refine wpAnyH_done (by kernel_rfl) ?_ _
        show Oper.wp _ _ _ _ _ _
        go_simp
        all_goals (go_wp2_with fail)
        all_goals first | omega | skip
        all_goals go_roundw
        all_goals first
          | exact ⟨j + 1, nb' + 1, by omega, by omega, by go_num, by first | exact hnx.out _ hF6.out | exact hF6, ho6⟩
          | (simp [intOf]; omega)
      · have hn01 : n0 = 1 := by omega
        have hpi := hpB.out hn01 i
        have h1' : ¬ (1 : Int) < (n0 : Int) := by omega
        clear hn01
        obtain ⟨q, va, vc, hq1, hq2⟩ := hleq.out i hil _ hF1.out.bel
        have q0 := hq2.name
        have q1 := hq2.terms
        have q2 := hq2.const
        have x2' := (Joins.cell_of_block hF1.out.lb 0).trans rfl
        have h43 := Hid.intro (leads_any q.1 q.2.const va vc q.2.terms (hheld q (List.mem_of_getElem? hq1)).2 _ hq2.lies)
        have hpq : p i = inT q.1 q.2.terms := by rw [hpi]; unfold selfF; rw [hq1]
        obtain ⟨tl, htl⟩ : ∃ tl, tl = q.2.terms.length := ⟨_, rfl⟩
        rw [← htl] at q1 h43
        clear hq1 hq2 htl hpi
        generalize hB : inT q.1 q.2.terms = pq at *
        cases pq with
        | true =>
          have hnx := Hid.intro (hyes.out hpq (nb' + 1))
          clear hnot hyes hB
          go_upto_region 6 with (go_at_call 43; (with_reducible refine (h43.out).mono ?_); rintro e w2 ⟨rfl, hb2⟩; have hF2 := Hid.intro (hF1.out.below hb2); have ho2 := Hid.intro ((hb2.block _ (wblk_lt ho1.out)).trans ho1.out); clear hb2 h43 q0 q1 q2 x2')
          all_goals first | omega | skip
          have hFd := Hid.intro (hF2.out.below ((Below.refl _ w2).drew))
          obtain ⟨wu, hrun, hIs, hgu⟩ := intput_run hFd.out.kk hnb2 (nmOf l i) (i : Int) hnm.out
          have hF6 := Hid.intro (hFd.out.backPut i hIs hgu)
          have ho6 := Hid.intro (hFd.out.kp (j := 10) (by decide) hgu (i := 0) (by decide) (by decide) ho2.out)
          have q0 := hcell.out _ hFd.out.bel
          have x3 := (Joins.cell_of_block hFd.out.kb 0).trans rfl
          have x2 := (Joins.cell_of_block hFd.out.lb 0).trans rfl
          clear hIs hgu hFd
          refine wp_region_last (by kernel_rfl) 7 _ rfl rfl rfl (by kernel_rfl) (fun W => W.cell? ⟨b 3, 0, none⟩ = some (.map (some (b 10))) ∧ W.cell? ⟨b 2, 0, none⟩ = some (.slice (some ⟨gl, ol, none⟩) l.length lc) ∧ W.cell? ⟨gl, ol + i * 3, none⟩ = some (.string (str (nmOf l i)))) ⟨x3, x2, q0⟩ (fun hHeld => ?_)
          simp only [List.setIfInBounds_toArray, List.set_cons_succ, List.set_cons_zero, noOp]
          generalize w2.drew = DW at *
          refine wpAnyH_take (i := 0) (v := ?vm2_0) (by simp only [List.getElem?_toArray, List.getElem?_cons_succ, List.getElem?_cons_zero]; rfl) (by kernel_rfl) (by kernel_rfl) (by kernel_rfl) (by exact fun _ _ _ h => h) (Or.inl ⟨by rfl, ?ym2_0⟩) (by assumption) ?rm2_0
          case ym2_0 => (intro w hSw; (try dsimp only at hSw); go_simp; (try with_reducible rfl))
          try simp only [Act.put, List.setIfInBounds_toArray, List.set_cons_zero, List.set_cons_succ]
          refine wpAnyH_take (i := 1) (v := ?vm2_1) (by simp only [List.getElem?_toArray, List.getElem?_cons_succ, List.getElem?_cons_zero]; rfl) (by kernel_rfl) (by kernel_rfl) (by kernel_rfl) (by exact fun _ _ _ h => h) (Or.inl ⟨by rfl, ?ym2_1⟩) (by assumption) ?rm2_1
          case ym2_1 => (intro w hSw; (try dsimp only at hSw); go_simp; (try with_reducible rfl))
          try simp only [Act.put, List.setIfInBounds_toArray, List.set_cons_zero, List.set_cons_succ]
          refine wpAnyH_take (i := 2) (v := ?vm2_2) (by simp only [List.getElem?_toArray, List.getElem?_cons_succ, List.getElem?_cons_zero]; rfl) (by kernel_rfl) (by kernel_rfl) (by kernel_rfl) (by exact fun _ _ _ h => h) (Or.inl ⟨by rfl, ?ym2_2⟩) (by assumption) ?rm2_2
          case ym2_2 => (intro w hSw; (try dsimp only at hSw); go_simp; (try with_reducible rfl))
          try simp only [Act.put, List.setIfInBounds_toArray, List.set_cons_zero, List.set_cons_succ]
          refine wpAnyH_take (i := 3) (v := ?vm2_3) (by simp only [List.getElem?_toArray, List.getElem?_cons_succ, List.getElem?_cons_zero]; rfl) (by kernel_rfl) (by kernel_rfl) (by kernel_rfl) (by exact fun _ _ _ h => h) (Or.inl ⟨by rfl, ?ym2_3⟩) (by assumption) ?rm2_3
          case ym2_3 => (intro w hSw; (try dsimp only at hSw); go_simp; (try with_reducible rfl))
          try simp only [Act.put, List.setIfInBounds_toArray, List.set_cons_zero, List.set_cons_succ]
          refine wpAnyH_take (i := 4) (v := ?vm2_4) (by simp only [List.getElem?_toArray, List.getElem?_cons_succ, List.getElem?_cons_zero]; rfl) (by kernel_rfl) (by kernel_rfl) (by kernel_rfl) (by exact fun _ _ _ h => h) (Or.inl ⟨by rfl, ?ym2_4⟩) (by assumption) ?rm2_4
          case ym2_4 => (intro w hSw; (try dsimp only at hSw); go_simp; (try with_reducible rfl))
          try simp only [Act.put, List.setIfInBounds_toArray, List.set_cons_zero, List.set_cons_succ]
          refine wpAnyH_take (i := 5) (v := ?vm2_5) (by simp only [List.getElem?_toArray, List.getElem?_cons_succ, List.getElem?_cons_zero]; rfl) (by kernel_rfl) (by kernel_rfl) (by kernel_rfl) (by exact fun _ _ _ h => h) (Or.inl ⟨by rfl, ?ym2_5⟩) (by assumption) ?rm2_5
          case ym2_5 => (intro w hSw; (try dsimp only at hSw); go_simp; (try with_reducible rfl))
          try simp only [Act.put, List.setIfInBounds_toArray, List.set_cons_zero, List.set_cons_succ]
          refine wpAnyH_take (i := 6) (v := ?vm2_6) (by simp only [List.getElem?_toArray, List.getElem?_cons_succ, List.getElem?_cons_zero]; rfl) (by kernel_rfl) (by kernel_rfl) (by kernel_rfl) (by exact fun _ _ _ h => h) (Or.inl ⟨by rfl, ?ym2_6⟩) (by assumption) ?rm2_6
          case ym2_6 => (intro w hSw; (try dsimp only at hSw); go_simp; (try with_reducible rfl))
          try simp only [Act.put, List.setIfInBounds_toArray, List.set_cons_zero, List.set_cons_succ]
          refine wpAnyH_take (i := 7) (v := ?vm2_7) (by simp only [List.getElem?_toArray, List.getElem?_cons_succ, List.getElem?_cons_zero]; rfl) (by kernel_rfl) (by kernel_rfl) (by kernel_rfl) (by exact fun _ _ _ h => h) (Or.inl ⟨by rfl, ?ym2_7⟩) (by assumption) ?rm2_7
          case ym2_7 => (intro w hSw; (try dsimp only at hSw); go_simp; (try with_reducible rfl))
          try simp only [Act.put, List.setIfInBounds_toArray, List.set_cons_zero, List.set_cons_succ]
          refine wpAnyH_done (by kernel_rfl) ?_ _
          show Oper.wp _ _ _ _ _ _
          go_simp
          all_goals (go_wp2_with fail)
          all_goals first | omega | skip
          all_goals go_roundw
          all_goals first
            | exact ⟨j + 1, nb' + 1, by omega, by omega, by go_num, by first | exact hnx.out _ hF6.out | exact hF6, ho6⟩
            | (simp [intOf]; omega)
        | false =>
          have hnx := Hid.intro (hnot.out hpq nb')
          clear hnot hyes hB
          go_wp2_with (go_at_call 43; (with_reducible refine (h43.out).mono ?_); rintro e w2 ⟨rfl, hb2⟩; have hF2 := Hid.intro (hnx.out _ (hF1.out.below hb2)); have ho2 := Hid.intro ((hb2.block _ (wblk_lt ho1.out)).trans ho1.out); clear hb2)
          all_goals first | omega | skip
          go_roundw
          case rel => exact ⟨j + 1, nb', by omega, by omega, by go_num, hF2, ho2⟩
          case measure => simp [intOf]; omega
    · obtain rfl : j = n0 := by omega
      obtain ⟨a2, k2, c2, hk2, r4, r5, hsrc, hsz, hgo⟩ := hfin.out nb' wr hF.out ho.out
      have y4 := (Joins.cell_of_block r4 0).trans rfl
      have y0 := (Joins.cell_of_block ho.out 0).trans rfl
      have hr5 := Hid.intro r5
      have hsr := Hid.intro hsrc
      have hgo' := Hid.intro hgo
      have hone : Hid (∀ u ∈ rowN ring, u.oneCell' = true) := fun u hu => by
        unfold rowN at hu
        obtain ⟨x, _, rfl⟩ := List.mem_map.1 hu
        rfl
      have hrl : Hid ((rowN ring).length = j * 1) := by show _ = _; rw [rowN_len, hnl0.out, Nat.mul_one]
      clear hF ho r4 r5 hsrc hgo hgetH hleq hpA hpB hfin hnl0
      have hjm : j = m0 - frm := hn1.1
      rw [hjm] at hsr hrl hgo'
      go_wp2_with (at_builtin; go_must (refine wpList_app rfl (.tmp 40) (.tmp 41) 65 rfl w0.heap.size 3 i3 _ 1 8 Try.underlying65 hi3 hz0 hz1 hz2 rfl (by decide) (.slice a2 k2 c2) k2 (rowN s.order) rfl hr5.out (.slice (some ⟨g, frm, none⟩) (m0 - frm) (c - frm)) (m0 - frm) (rowN ring) rfl hsr.out hrl.out hone.out (by unfold maxLen; omega) (by omega) hsz ?_; intro v4 w4 ho4 hg4 hw4; obtain ⟨a3, c3, rfl⟩ := own_slice ho4; obtain ⟨e1, e2, e3⟩ := hgo'.out a3 c3 w4 ho4 hg4 hw4; have z4 := (Joins.cell_of_block e1 0).trans rfl; have zf := frozen_of_row w4 (b 4) 0 _ 65 e1; have z0 := (Joins.cell_of_block e2 0).trans rfl; have zf0 := frozen_of_row _ (b 0) 0 _ 65 e2; replace e3 := Hid.intro e3; clear ho4 hg4 hw4))
      all_goals first | omega | skip
      go_end0
      exact ⟨rfl, nb', by have := hm0.out; omega, e3.out⟩
end
end Go.Proofs.Ytebbbefknfldoaa
/- Where names lead: plain facts on equ.walk. -/
namespace Go.Proofs.Ytebbbefknfldoaa
set_option linter.unusedVariables false
set_option linter.unusedSimpArgs false
set_option maxRecDepth 100000
def atF (l : List Eqv) : List UInt8 → Option Int := backF l (List.range l.length)
def adjF (l : List Eqv) (i : Nat) : List Nat := match l[i]? with | some q => q.2.terms.filterMap fun t => (atF l t.name).map Int.toNat | none => []
theorem fold_some (l : List Eqv) : ∀ (bs : List Nat) (g : List UInt8 → Option Int) (x : List UInt8) (z : Int), bs.foldl (fun f i => fun x => if x = nmOf l i then some (i : Int) else f x) g x = some z → (∃ i ∈ bs, z = (i : Int) ∧ nmOf l i = x) ∨ g x = some z
  | [], g, x, z, h => .inr h
  | i :: bs, g, x, z, h => by
    rcases fold_some l bs _ x z h with ⟨k, h1, h2⟩ | h1
    · exact .inl ⟨k, by simp [h1], h2⟩
    · dsimp only at h1
      split at h1
      · next hx => cases h1; exact .inl ⟨i, by simp, rfl, hx.symm⟩
      · exact .inr h1
theorem fold_none (l : List Eqv) : ∀ (bs : List Nat) (g : List UInt8 → Option Int) (x : List UInt8), bs.foldl (fun f i => fun x => if x = nmOf l i then some (i : Int) else f x) g x = none → g x = none ∧ ∀ i ∈ bs, nmOf l i ≠ x
  | [], g, x, h => ⟨h, fun i hi => by cases hi⟩
  | i :: bs, g, x, h => by
    obtain ⟨h1, h2⟩ := fold_none l bs _ x h
    dsimp only at h1
    split at h1
    · cases h1
    · next hx =>
      refine ⟨h1, fun k hk => ?_⟩
      rcases List.mem_cons.1 hk with rfl | hk
      · exact fun e => hx e.symm
      · exact h2 k hk
theorem backF_some (l : List Eqv) (bs : List Nat) (x : List UInt8) (z : Int) (h : backF l bs x = some z) : ∃ i ∈ bs, z = (i : Int) ∧ nmOf l i = x := by
  rcases fold_some l bs _ x z h with h1 | h1
  · exact h1
  · cases h1
theorem backF_none (l : List Eqv) (bs : List Nat) (x : List UInt8) (h : backF l bs x = none) : ∀ i ∈ bs, nmOf l i ≠ x := (fold_none l bs _ x h).2
theorem nmOf_get {l : List Eqv} {i : Nat} {q : Eqv} (h : l[i]? = some q) : nmOf l i = q.1 := by unfold nmOf; rw [h]; rfl
theorem nm_inj {l : List Eqv} (hnd : (l.map (·.1)).Nodup) {i j : Nat} (hi : i < l.length) (hj : j < l.length) (h : nmOf l i = nmOf l j) : i = j := by
  rw [nmOf_get (List.getElem?_eq_getElem hi), nmOf_get (List.getElem?_eq_getElem hj)] at h
  have h1 : (l.map (·.1))[i]'(by simpa using hi) = (l.map (·.1))[j]'(by simpa using hj) := by simpa using h
  have hp := List.pairwise_iff_getElem.1 hnd
  rcases Nat.lt_trichotomy i j with h2 | h2 | h2
  · exact absurd h1 (hp i j _ _ h2)
  · exact h2
  · exact absurd h1.symm (hp j i _ _ h2)
theorem atF_is {l : List Eqv} (hnd : (l.map (·.1)).Nodup) {i : Nat} (hi : i < l.length) : atF l (nmOf l i) = some (i : Int) := by
  cases h : atF l (nmOf l i) with
  | none => exact absurd rfl (backF_none l _ _ h i (List.mem_range.2 hi))
  | some z =>
    obtain ⟨k, h1, h2, h3⟩ := backF_some l _ _ z h
    rw [h2, nm_inj hnd (List.mem_range.1 h1) hi h3]
theorem atF_some {l : List Eqv} {x : List UInt8} {z : Int} (h : atF l x = some z) : ∃ i, i < l.length ∧ z = (i : Int) ∧ nmOf l i = x := by
  obtain ⟨k, h1, h2, h3⟩ := backF_some l _ _ z h
  exact ⟨k, List.mem_range.1 h1, h2, h3⟩
theorem adj_lt (l : List Eqv) : ∀ v, ∀ u ∈ adjF l v, u < l.length := by
  intro v u hu
  unfold adjF at hu
  split at hu
  · obtain ⟨t, _, ht⟩ := List.mem_filterMap.1 hu
    cases ha : atF l t.name with
    | none => rw [ha] at ht; cases ht
    | some z =>
      rw [ha] at ht
      obtain ⟨i, h1, h2, _⟩ := atF_some ha
      simp at ht
      omega
  · cases hu
theorem self_adj {l : List Eqv} (hnd : (l.map (·.1)).Nodup) : ∀ v, selfF l v = true ↔ v ∈ adjF l v := by
  intro v
  unfold selfF adjF
  cases hq : l[v]? with
  | none => simp
  | some q =>
    have hv : v < l.length := (List.getElem?_eq_some_iff.1 hq).1
    dsimp only
    rw [List.mem_filterMap]
    unfold inT
    rw [List.any_eq_true]
    constructor
    · rintro ⟨t, h1, h2⟩
      refine ⟨t, h1, ?_⟩
      have h3 : t.name = nmOf l v := (of_decide_eq_true h2).trans (nmOf_get hq).symm
      rw [h3, atF_is hnd hv]
      simp
    · rintro ⟨t, h1, h2⟩
      refine ⟨t, h1, decide_eq_true ?_⟩
      cases ha : atF l t.name with
      | none => rw [ha] at h2; cases h2
      | some z =>
        rw [ha] at h2
        obtain ⟨i, h3, h4, h5⟩ := atF_some ha
        simp at h2
        have : i = v := by omega
        rw [← h5, this]
        exact nmOf_get hq
theorem walk_right {l : List Eqv} (hnd : (l.map (·.1)).Nodup) (hl : l.length < Ta.big) : (∀ v, v ∈ (Ta.walkF (adjF l) (selfF l) l.length).order ↔ v < l.length) ∧ (∀ v, v ∈ (Ta.walkF (adjF l) (selfF l) l.length).back ↔ v < l.length ∧ Ta.Cyc (adjF l) v) ∧ ∀ l1 v l2, (Ta.walkF (adjF l) (selfF l) l.length).order = l1 ++ v :: l2 → (∀ u ∈ adjF l v, u ∈ l1) ∨ Ta.Cyc (adjF l) v :=
  Ta.walk_is hl (adj_lt l) (self_adj hnd)
def Sz (s : Ta.St) : Prop := s.opn.length + s.order.length ≤ s.count
theorem sz_fin {self : Nat → Bool} {k : Nat} {s : Ta.St} (h : Sz s) : Sz (Ta.finishF self k s) := by
  unfold Sz Ta.finishF at *
  simp
  omega
theorem sz_visit (adj : Nat → List Nat) (self : Nat → Bool) : ∀ (f i : Nat) (s : Ta.St), Sz s → Sz (Ta.visitF adj self f i s).2
  | 0, i, s, h => h
  | f + 1, i, s, h => by
    have hb : Sz (Ta.beginF i s) := by unfold Sz Ta.beginF at *; simp; omega
    have hl : ∀ (l : List Nat) (a : Nat × Ta.St), Sz a.2 → Sz (l.foldl (Ta.stepF (Ta.visitF adj self f)) a).2 := by
      intro l
      induction l with
      | nil => intro a ha; exact ha
      | cons t l ih =>
        intro a ha
        refine ih _ ?_
        unfold Ta.stepF
        split
        · exact sz_visit adj self f t a.2 ha
        · exact ha
    have h2 := hl (adj i) (s.count + 1, Ta.beginF i s) hb
    show Sz (Ta.endF self (s.count + 1) s.opn.length _).2
    unfold Ta.endF
    split
    · exact sz_fin h2
    · exact h2
end Go.Proofs.Ytebbbefknfldoaa
namespace Go.Proofs.Ytebbbefknfldoaa
open Go.ChangeShapes Go.WideShapes Go.ChangeAt Go.RowKit
set_option linter.unusedVariables false
set_option linter.unusedSimpArgs false
set_option maxRecDepth 100000
section
variable {w0 : World} {b : Nat → Nat} {l : List Eqv} {la : Option Addr} {lc na : Nat}
def adjP (l : List Eqv) (ts : List Tm) (k : Nat) : List Nat := (ts.take k).filterMap fun t => (atF l t.name).map Int.toNat
theorem adjP_none {ts : List Tm} {k : Nat} {t : Tm} (ht : ts[k]? = some t) (h : atF l t.name = none) : adjP l ts (k + 1) = adjP l ts k := by
  unfold adjP
  rw [List.take_add_one, ht, List.filterMap_append]
  simp [h]
theorem adjP_some {ts : List Tm} {k : Nat} {t : Tm} {z : Int} (ht : ts[k]? = some t) (h : atF l t.name = some z) : adjP l ts (k + 1) = adjP l ts k ++ [z.toNat] := by
  unfold adjP
  rw [List.take_add_one, ht, List.filterMap_append]
  simp [h]
structure VL (w0 : World) (b : Nat → Nat) (l : List Eqv) (la : Option Addr) (lc na : Nat) (f i : Nat) (s : Ta.St) (ts : List Tm) (k nb : Nat) (a : Nat × Ta.St) (W : World) : Prop where
  is : a = (adjP l ts k).foldl (Ta.stepF (Ta.visitF (adjF l) (selfF l) f)) (s.count + 1, Ta.beginF i s)
  fs : FS w0 b l la lc na nb a.2 W
  lp : ∃ tail, Ta.Lp (adjF l) l.length i s a tail (adjP l ts k)
  sz : Sz a.2
  nb : nb ≤ a.2.order.length
theorem VL.reach {f i : Nat} {s : Ta.St} {ts : List Tm} {k nb : Nat} {a : Nat × Ta.St} {W : World} (h : VL w0 b l la lc na f i s ts k nb a W) (hi : ∀ v ∈ s.opn, Ta.Rch (adjF l) v i) {t : Nat} (ht : t ∈ adjF l i) : ∀ v ∈ a.2.opn, Ta.Rch (adjF l) v t := by
  obtain ⟨tail, L⟩ := h.lp
  intro v hv
  rw [L.opn] at hv
  rcases List.mem_append.1 hv with h1 | h1
  · exact (hi v h1).trans (.one ht)
  · rcases List.mem_cons.1 h1 with rfl | h1
    · exact .one ht
    · exact (L.tl v h1).1.trans (.one ht)
theorem VL.go {f i : Nat} {s : Ta.St} {ts : List Tm} {k nb nb2 : Nat} {a : Nat × Ta.St} {W W2 : World} (h : VL w0 b l la lc na f i s ts k nb a W) (hn : l.length < Ta.big) (hnd : (l.map (·.1)).Nodup) (hS : Ta.Inv (adjF l) l.length s) (hi : ∀ v ∈ s.opn, Ta.Rch (adjF l) v i) (hf : Ta.left l.length s.met ≤ f + 1)
    {t : Nat} (ht : t ∈ adjF l i) (hk : adjP l ts (k + 1) = adjP l ts k ++ [t]) (hF : FS w0 b l la lc na nb2 (Ta.stepF (Ta.visitF (adjF l) (selfF l) f) a t).2 W2) (hnb : nb2 ≤ (Ta.stepF (Ta.visitF (adjF l) (selfF l) f) a t).2.order.length) : VL w0 b l la lc na f i s ts (k + 1) nb2 (Ta.stepF (Ta.visitF (adjF l) (selfF l) f) a t) W2 := by
  obtain ⟨tail, L⟩ := h.lp
  obtain ⟨t2, L2⟩ := L.step (self := selfF l) hn (adj_lt l) hS hi ht (Ta.visit_is hn (adj_lt l) (self_adj hnd) f) hf
  refine ⟨by rw [hk, List.foldl_append, ← h.is]; rfl, hF, ⟨t2, by rw [hk]; exact L2⟩, ?_, hnb⟩
  unfold Ta.stepF
  split
  · exact sz_visit _ _ f t a.2 h.sz
  · exact h.sz
theorem VL.stay {f i : Nat} {s : Ta.St} {ts : List Tm} {k nb : Nat} {a : Nat × Ta.St} {W W2 : World} (h : VL w0 b l la lc na f i s ts k nb a W) (hk : adjP l ts (k + 1) = adjP l ts k) (hb : Below W.heap.size W W2) : VL w0 b l la lc na f i s ts (k + 1) nb a W2 :=
  ⟨by rw [hk]; exact h.is, h.fs.below hb, by rw [hk]; exact h.lp, h.sz, h.nb⟩
theorem VL.below {f i : Nat} {s : Ta.St} {ts : List Tm} {k nb : Nat} {a : Nat × Ta.St} {W W2 : World} (h : VL w0 b l la lc na f i s ts k nb a W) (hb : Below W.heap.size W W2) : VL w0 b l la lc na f i s ts k nb a W2 :=
  ⟨h.is, h.fs.below hb, h.lp, h.sz, h.nb⟩
end
end Go.Proofs.Ytebbbefknfldoaa

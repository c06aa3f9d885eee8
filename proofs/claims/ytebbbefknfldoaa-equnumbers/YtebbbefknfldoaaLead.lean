/- equ: does an equ lead to itself? -/
import Derived.Shelf.Lays
import Derived.Test.YtebbbefknfldoaaProg
import Derived.Test.YtebbbefknfldoaaTmMem
import Derived.Shelf.Sort.Plain
import Derived.Shelf.Slices.In.SortNone
import Derived.Sort.OwnSorted
import Derived.Lib.OwnBridge
import Derived.Deep.RegionHeld3
import Derived.Maps.OwnSet
import Derived.Maps.OwnOps
import Derived.WalkKit
import Derived.Lib.SmallJoins
/-
  DERIVED: THE SHELF's CONTRACTS AT THIS DUMP, IN PLAIN WORDS (tools/lay-plain.mjs out of 'YtebbbefknfldoaaShT0.lean', which tools/lay-shelf.mjs wrote): THE SAME DECLARATIONS UNDER THE SAME NAMES: 'import', 'namespace', 'open', 'def', 'theorem' AND NOTHING ELSE: no command of the shelf's: FOR A HAND-IN. Each laying: the table of numbers ('.._ren') and one theorem, a field a fact of the dump's own or the kernel's comparison; each contract: ONE APPLICATION.
-/
namespace Go.Proofs
open Go.Shelf
def Try.laysStrSort_ren : Go.Shelf.Ren := ⟨fun | 190 => 31 | 125 => 49 | 258 => 48 | 128 => 66 | 129 => 67 | 302 => 57 | 303 => 58 | 304 => 59 | 305 => 60 | 306 => 61 | 307 => 62 | 308 => 63 | 309 => 64 | 310 => 65 | 333 => 71 | 329 => 72 | 330 => 73 | 334 => 74 | 335 => 75 | 336 => 76 | 344 => 81 | n => n, fun | 31 => 33 | 9 => 9 | 3 => 3 | 46 => 82 | 0 => 0 | 51 => 27 | 53 => 114 | 4 => 4 | 183 => 106 | 182 => 105 | 131 => 86 | 5 => 5 | 218 => 119 | 222 => 123 | 228 => 129 | 229 => 130 | n => n, fun | n => n⟩
theorem Try.laysStrSort : Go.Proofs.Lays.n190 Try.prog Try.laysStrSort_ren := {
  mixed := by kernel_rfl
  f125 := Try.func49.trans (congrArg some (by kernel_rfl))
  f128 := Try.func66.trans (congrArg some (by kernel_rfl))
  f129 := Try.func67.trans (congrArg some (by kernel_rfl))
  f190 := Try.func31.trans (congrArg some (by kernel_rfl))
  f258 := Try.func48.trans (congrArg some (by kernel_rfl))
  f302 := Try.func57.trans (congrArg some (by kernel_rfl))
  f303 := Try.func58.trans (congrArg some (by kernel_rfl))
  f304 := Try.func59.trans (congrArg some (by kernel_rfl))
  f305 := Try.func60.trans (congrArg some (by kernel_rfl))
  f306 := Try.func61.trans (congrArg some (by kernel_rfl))
  f307 := Try.func62.trans (congrArg some (by kernel_rfl))
  f308 := Try.func63.trans (congrArg some (by kernel_rfl))
  f309 := Try.func64.trans (congrArg some (by kernel_rfl))
  f310 := Try.func65.trans (congrArg some (by kernel_rfl))
  f329 := Try.func72.trans (congrArg some (by kernel_rfl))
  f330 := Try.func73.trans (congrArg some (by kernel_rfl))
  f333 := Try.func71.trans (congrArg some (by kernel_rfl))
  f334 := Try.func74.trans (congrArg some (by kernel_rfl))
  f335 := Try.func75.trans (congrArg some (by kernel_rfl))
  f336 := Try.func76.trans (congrArg some (by kernel_rfl))
  f344 := Try.func81.trans (congrArg some (by kernel_rfl))
  t0 := Try.underlying0
  a0 := Try.isAgg0
  z0 := Try.sizeOf0
  v0 := Try.zeroValue0
  t3 := Try.underlying3
  a3 := Try.isAgg3
  z3 := Try.sizeOf3
  v3 := Try.zeroValue3
  t4 := Try.underlying4
  a4 := Try.isAgg4
  z4 := Try.sizeOf4
  v4 := Try.zeroValue4
  t5 := Try.underlying5
  a5 := Try.isAgg5
  z5 := Try.sizeOf5
  v5 := Try.zeroValue5
  t9 := Try.underlying9
  a9 := Try.isAgg9
  z9 := Try.sizeOf9
  v9 := Try.zeroValue9
  t31 := Try.underlying33
  a31 := Try.isAgg33
  z31 := Try.sizeOf33
  v31 := Try.zeroValue33
  t46 := Try.underlying82
  a46 := Try.isAgg82
  z46 := Try.sizeOf82
  v46 := Try.zeroValue82
  t51 := Try.underlying27
  a51 := Try.isAgg27
  z51 := Try.sizeOf27
  v51 := Try.zeroValue27
  t53 := Try.underlying114
  a53 := Try.isAgg114
  z53 := Try.sizeOf114
  v53 := Try.zeroValue114
  t131 := Try.underlying86
  a131 := Try.isAgg86
  z131 := Try.sizeOf86
  v131 := Try.zeroValue86
  t182 := Try.underlying105
  a182 := Try.isAgg105
  z182 := Try.sizeOf105
  v182 := Try.zeroValue105
  t183 := Try.underlying106
  a183 := Try.isAgg106
  z183 := Try.sizeOf106
  v183 := Try.zeroValue106
  t218 := Try.underlying119
  a218 := Try.isAgg119
  z218 := Try.sizeOf119
  v218 := Try.zeroValue119
  t222 := Try.underlying123
  a222 := Try.isAgg123
  z222 := Try.sizeOf123
  v222 := Try.zeroValue123
  t228 := Try.underlying129
  a228 := Try.isAgg129
  z228 := Try.sizeOf129
  v228 := Try.zeroValue129
  t229 := Try.underlying130
  a229 := Try.isAgg130
  z229 := Try.sizeOf130
  v229 := Try.zeroValue130 }
end Go.Proofs
/- Texts sorted: the library's, at lists that are owned. -/
namespace Go.Proofs.Ytebbbefknfldoaa
open Go.ChangeShapes Go.WideShapes Go.ChangeAt Go.RowKit Go.Sort
set_option linter.unusedVariables false
set_option maxRecDepth 100000
def sortS (ss : List (List UInt8)) : List (List UInt8) := ss.mergeSort fun x y => decide (x ≤ y)
theorem sortS_len (ss : List (List UInt8)) : (sortS ss).length = ss.length := List.length_mergeSort ss
theorem sortS_any (v : Value) (ss : List (List UInt8)) (B : Nat) (w : World) (hl : ss.length ≤ 9000000) (hown : w.ownsRow B 9 1 v ss.length (ss.map encStr)) :
    Calls Try.prog 31 #[v] w fun e w' => e = .returned (.tuple #[]) ∧ w'.ownsRow B 9 1 v ss.length ((sortS ss).map encStr) ∧ w.grownBy w' v.ownBlock := by
  rcases hown.2 with ⟨rfl, h0⟩ | ⟨g, cap, cur, rfl, hbase, hb, h1, h2, h3, h4⟩
  · have he : ss = [] := List.eq_nil_of_length_eq_zero h0
    subst he
    refine (Any.slices_Sort_string_none Try.laysStrSort none 0 w).mono ?_
    rintro e w' ⟨rfl, rfl⟩
    exact ⟨rfl, by simpa [sortS] using World.ownsRow_nil _ B 9 1, World.grownBy.refl _ _⟩
  · have hv : (Value.slice (some ⟨g, 0, none⟩) ss.length cap) ≠ .slice none 0 0 := by simp
    obtain ⟨g', cap', e1, _, hlt, _, _, _, hH⟩ := Lib.holds_of_ownsRow hown hv
    injection e1 with e1 _ e3
    injection e1 with e1
    injection e1 with e1
    subst e1 e3
    refine (Any.slices_Sort_string Try.laysStrSort g 0 cap ss w hH hlt (by omega)).mono ?_
    rintro e w' ⟨rfl, n, os, rfl⟩
    exact ⟨rfl, ownsRow_sorted (sortS_len ss) hbase hb h1 h2 h3, grownBy_sorted _⟩
end Go.Proofs.Ytebbbefknfldoaa
/- A region that draws its order and whose last operation, a store, waits for all others: the loads among them are taken first under a condition that the store itself ends. -/
namespace Go.Proofs.Ytebbbefknfldoaa
set_option linter.unusedVariables false
def onsOf (ops : Array Oper) (j : Nat) : List Nat := ((ops[j]?).map fun o => (o.after.toList.filter fun e => Region.binds .any e).map (·.on)).getD []
def markF (ops : Array Oper) : Nat → List Nat → List Nat
  | 0, s => s
  | j + 1, s => markF ops j (if s.contains j then onsOf ops j ++ s else s)
def lastB (ops : Array Oper) (L : Nat) : Bool := (List.range ops.size).all fun j => (markF ops ops.size [L]).contains j && (onsOf ops j).all fun i => decide (i < j)
def ClosedL (ops : Array Oper) (listed : Array Bool) : Prop := ∀ j oj, ops[j]? = some oj → listed.getD j false = true → ∀ e ∈ oj.after, Region.binds .any e = true → listed.getD e.on false = true
theorem mem_ons {ops : Array Oper} {j i : Nat} : i ∈ onsOf ops j ↔ ∃ o, ops[j]? = some o ∧ ∃ e ∈ o.after, Region.binds .any e = true ∧ e.on = i := by
  unfold onsOf
  cases h : ops[j]? with
  | none => simp
  | some o => simp [and_assoc]
theorem mark_listed {ops : Array Oper} {listed : Array Bool} (hc : ClosedL ops listed) {L : Nat} (hL : L ∈ Region.ready .any ops listed) : ∀ (n : Nat) (s : List Nat), (∀ j ∈ s, j = L ∨ listed.getD j false = true) → ∀ j ∈ markF ops n s, j = L ∨ listed.getD j false = true := by
  intro n
  induction n with
  | zero => intro s h; exact h
  | succ n ih =>
    intro s h
    refine ih _ ?_
    by_cases hn : s.contains n = true
    · rw [if_pos hn]
      intro j hj
      rcases List.mem_append.1 hj with hj | hj
      · obtain ⟨o, ho, e, he, hb, rfl⟩ := mem_ons.1 hj
        right
        rcases h n (by simpa using hn) with rfl | hl
        · obtain ⟨_, o', ho', hall⟩ := mem_ready.1 hL
          rw [ho] at ho'
          cases ho'
          exact hall e he hb
        · exact hc n o ho hl e he hb
      · exact h j hj
    · rw [if_neg hn]
      exact h
theorem last_all {ops : Array Oper} {listed : Array Bool} (hc : ClosedL ops listed) {L : Nat} (hL : L ∈ Region.ready .any ops listed) (hb : lastB ops L = true) {j : Nat} (hj : j < ops.size) (hne : j ≠ L) : listed.getD j false = true := by
  have h := List.all_eq_true.1 hb j (List.mem_range.2 hj)
  simp only [Bool.and_eq_true] at h
  rcases mark_listed hc hL ops.size [L] (fun i hi => .inl (by simpa using hi)) j (by simpa using h.1) with h1 | h1
  · exact absurd h1 hne
  · exact h1
theorem some_ready {ops : Array Oper} {listed : Array Bool} {L : Nat} (hb : lastB ops L = true) (hs : listed.size = ops.size) : ∀ (n : Nat), n < ops.size → listed.getD n true = false → Region.ready .any ops listed ≠ [] := by
  intro n
  induction n using Nat.strongRecOn with
  | _ n ih =>
    intro hn hl h0
    by_cases hr : n ∈ Region.ready .any ops listed
    · rw [h0] at hr; cases hr
    · have h := List.all_eq_true.1 hb n (List.mem_range.2 hn)
      simp only [Bool.and_eq_true, List.all_eq_true, decide_eq_true_eq] at h
      apply hr
      refine mem_ready.2 ⟨hl, ops[n], Array.getElem?_eq_getElem hn, fun e he hbd => ?_⟩
      have hlt := h.2 e.on (mem_ons.2 ⟨_, Array.getElem?_eq_getElem hn, e, he, hbd, rfl⟩)
      cases hd : listed.getD e.on false with
      | true => rfl
      | false =>
        exfalso
        refine ih e.on hlt (by omega) ?_ h0
        have : e.on < listed.size := by omega
        simp [this] at hd ⊢
        exact hd
def noOp (o : Oper) : Oper := { o with op := .move (.const (.int .i64 0)), dst := none }
def lastQ (P : Program) (oL : Oper) (Q : Exit → Act → World → Prop) : Exit → Act → World → Prop := fun e a w => match e with
  | .normal => oL.wp P a w (fun a' w' => Q .normal a' w') Q
  | e => Q e a w
section
variable {P : Program} {ops : Array Oper} {Q : Exit → Act → World → Prop} {L : Nat} {oL : Oper}
theorem ready_swap (hL : ops[L]? = some oL) (listed : Array Bool) : Region.ready .any (ops.setIfInBounds L (noOp oL)) listed = Region.ready .any ops listed := by
  unfold Region.ready
  rw [Array.size_setIfInBounds]
  congr 1
  funext i
  by_cases h : L = i
  · subst h
    have hlt : L < ops.size := (Array.getElem?_eq_some_iff.1 hL).1
    rw [Array.getElem?_setIfInBounds_self_of_lt hlt, hL]
    rfl
  · rw [Array.getElem?_setIfInBounds_ne h]
theorem yielded_swap (hL : ops[L]? = some oL) (hd : oL.dst = none) (tmps : Array Value) : yielded (ops.setIfInBounds L (noOp oL)) tmps = yielded ops tmps := by
  funext i
  unfold yielded
  by_cases h : L = i
  · subst h
    have hlt : L < ops.size := (Array.getElem?_eq_some_iff.1 hL).1
    rw [Array.getElem?_setIfInBounds_self_of_lt hlt, hL]
    simp [noOp, hd]
  · rw [Array.getElem?_setIfInBounds_ne h]
theorem wpO_post {o : Oper} {a : Act} {w : World} {K : Act → World → Prop} {Q Q2 : Exit → Act → World → Prop} (hp : ∀ c a w, Q2 (.panic c) a w → Q (.panic c) a w) (ho : LetsOut Q2 → LetsOut Q) (h : o.wp P a w K Q2) : o.wp P a w K Q := by
  unfold Oper.wp at *
  generalize (execOp a.eval o).run P w = r at *
  cases r with
  | ok n w' =>
    cases n <;> simp only [Oper.upon] at h ⊢ <;>
      first
        | exact h
        | exact Calls.mono h (fun e w'' he => by cases e <;> first | exact he | exact hp _ _ _ he | exact ho he)
  | halt x w' => cases x <;> simp only [Oper.upon] at h ⊢ <;> exact hp _ _ _ h
theorem lets_last (h : LetsOut (lastQ P oL Q)) : LetsOut Q := h
theorem any_swap (hL : ops[L]? = some oL) (hd : oL.dst = none) (hg : oL.guard = none) (hb : lastB ops L = true) :
    ∀ (fuel : Nat) (listed : Array Bool) (a : Act) (w : World), ClosedL ops listed → listed.size = ops.size → listed.getD L true = false → wpAny P .any (ops.setIfInBounds L (noOp oL)) (lastQ P oL Q) fuel listed a w → wpAny P .any ops Q fuel listed a w := by
  have hlt : L < ops.size := (Array.getElem?_eq_some_iff.1 hL).1
  intro fuel
  induction fuel with
  | zero =>
    intro listed a w hc hs hu h
    exact absurd (by rw [← ready_swap hL]; exact h.1) (some_ready hb hs L hlt hu)
  | succ fuel ih =>
    intro listed a w hc hs hu h
    refine ⟨fun h0 => absurd h0 (some_ready hb hs L hlt hu), fun i hi => ?_⟩
    have h1 := h.2 i (by rw [ready_swap hL]; exact hi)
    by_cases e : L = i
    · subst e
      have hr0 : Region.ready .any ops (listed.setIfInBounds L true) = [] := by
        apply List.eq_nil_iff_forall_not_mem.2
        intro j hj
        obtain ⟨hj0, o, ho, _⟩ := mem_ready.1 hj
        have hjs : j < ops.size := (Array.getElem?_eq_some_iff.1 ho).1
        by_cases ej : L = j
        · subst ej
          have : L < listed.size := by omega
          simp [this] at hj0
        · rw [getD_set_ne true ej] at hj0
          have := last_all hc hi hb hjs (Ne.symm ej)
          have hl : j < listed.size := by omega
          simp [hl] at this hj0
          rw [this] at hj0
          cases hj0
      have h2 : wpAny P .any (ops.setIfInBounds L (noOp oL)) (lastQ P oL Q) fuel (listed.setIfInBounds L true) a w := by
        unfold wpOp at h1
        rw [Array.getElem?_setIfInBounds_self_of_lt hlt] at h1
        have hw : Region.wanted (noOp oL) (yielded (ops.setIfInBounds L (noOp oL)) a.tmps) = true := by simp [Region.wanted, noOp, hg]
        simp only [hw, if_true] at h1
        rcases h1 with h1 | h1
        · unfold Oper.wp at h1
          simpa [execOp, noOp, Oper.upon, Act.put] using h1
        · obtain ⟨h1, _⟩ := h1
          have h2 : noRoomEvent ∈ (((pure (.value (a.eval (.const (.int .i64 0)))) : Sem Next)).runT P w #[]).2 := h1.1
          have h3 : (((pure (.value (a.eval (.const (.int .i64 0)))) : Sem Next)).runT P w #[]).2 = #[] := rfl
          rw [h3] at h2
          simp at h2
      have h3 : lastQ P oL Q .normal a w := by
        cases fuel with
        | zero => exact h2.2
        | succ f => exact h2.1 (by rw [ready_swap hL]; exact hr0)
      unfold wpOp
      rw [hL]
      have hw : Region.wanted oL (yielded ops a.tmps) = true := by simp [Region.wanted, hg]
      simp only [hw, if_true]
      exact .inl (Oper.wp_mono (fun a' w' hq => wpAny_done hr0 hq fuel) h3)
    · have hu' : (listed.setIfInBounds i true).getD L true = false := by rw [getD_set_ne true (Ne.symm e)]; exact hu
      have hc' : ClosedL ops (listed.setIfInBounds i true) := by
        intro j oj hj hl ed he hbd
        by_cases ej : i = j
        · subst ej
          obtain ⟨_, o, ho, hall⟩ := mem_ready.1 hi
          rw [hj] at ho
          cases ho
          exact getD_set_true (hall ed he hbd)
        · rw [getD_set_ne false ej] at hl
          exact getD_set_true (hc j oj hj hl ed he hbd)
      have h2 := wpOp_mono (fun a' w' h => ih (listed.setIfInBounds i true) a' w' hc' (by simpa using hs) hu' h) h1
      unfold wpOp at h2 ⊢
      rw [Array.getElem?_setIfInBounds_ne e] at h2
      cases ho : ops[i]? with
      | none => simpa [ho] using h2
      | some o =>
        simp only [ho, yielded_swap hL hd] at h2 ⊢
        split
        · rename_i hw
          simp only [hw, if_true] at h2
          rcases h2 with h2 | ⟨h2, h3⟩
          · exact .inl (wpO_post (fun c a w h => h) (lets_last (P := P) (oL := oL)) h2)
          · exact .inr ⟨h2, lets_last (P := P) (oL := oL) h3⟩
        · rename_i hw
          simpa [hw] using h2
theorem wp_region_last {id : Nat} {a : Act} {w : World} (hm : P.follows .mixedOrders = true) (L : Nat) (oL : Oper) (hL : ops[L]? = some oL) (hd : oL.dst = none) (hg : oL.guard = none) (hb : lastB ops L = true) (S : World → Prop) (hS : S w.drew)
    (h : S w.drew → wpAnyH P .any (ops.setIfInBounds L (noOp oL)) (lastQ P oL Q) S ops.size (Array.replicate ops.size false) a w.drew) : (Code.region id ops true).wp P Q a w := by
  have hlt : L < ops.size := (Array.getElem?_eq_some_iff.1 hL).1
  refine wp_region_any hm (any_swap hL hd hg hb ops.size _ a _ ?_ (by simp) (by simp [hlt]) (wpAny_of_held _ _ _ _ (h hS)))
  intro j oj hj hl
  have hj' : j < ops.size := (Array.getElem?_eq_some_iff.1 hj).1
  simp [hj'] at hl
end
end Go.Proofs.Ytebbbefknfldoaa
/- A map of names to numbers in memory: map[string]int. -/
namespace Go.Proofs.Ytebbbefknfldoaa
open Go.ChangeShapes Go.WideShapes Go.ChangeAt Go.RowKit Go.WideMaps Go.Maps
set_option linter.unusedVariables false
set_option maxRecDepth 100000
theorem lawS : Keyed Try.prog 9 := string_keyed Try.underlying9
theorem zero3 (w : World) : (zeroValue 3).run Try.prog w = .ok (.int .i64 0) w := by kernel_rfl
def intE (v : Value) : Option (DataW Unit × List MemPlace) :=
  match v with
  | .int .i64 z => some (.lit (.int .i64 z), [])
  | _ => none
theorem intE_mk (z : Int) : intE (.int .i64 z) = some (.lit (.int .i64 z), []) := rfl
theorem intE_inv {v : Value} {z : Int} {ps : List MemPlace} (h : intE v = some (.lit (.int .i64 z), ps)) : v = .int .i64 z := by
  unfold intE at h
  split at h
  · simp at h
    rw [h.1]
  · cases h
def IntIs (w : World) (b n : Nat) (f : List UInt8 → Option Int) : Prop :=
  ∃ D : DataW Unit, w.ownsMap Try.prog 9 intE b n D ∧ IsMap D ∧ ∀ s, has D (.string s) = (f s).isSome ∧ ∀ z, f s = some z → ∀ zd, D.atKey (.string s) zd = .lit (.int .i64 z)
theorem IntIs.lt {w : World} {b n : Nat} {f : List UInt8 → Option Int} (h : IntIs w b n f) : b < w.heap.size := by
  obtain ⟨D, h1, _⟩ := h
  exact h1.lt
theorem IntIs.kept {w w' : World} {b n : Nat} {row : Option Nat} {f : List UInt8 → Option Int} (h : IntIs w b n f) (hg : w.grownBy w' row) (hne : some b ≠ row) : IntIs w' b n f := by
  obtain ⟨D, h1, h2, h3⟩ := h
  exact ⟨D, h1.kept hg hne, h2, h3⟩
theorem intlook_run {w : World} {b n : Nat} {f : List UInt8 → Option Int} (h : IntIs w b n f) (s : List UInt8) (hs : s.length ≤ 140737488355328) : (Instr.lookup 66 (.map (some b)) (.string (str s)) true).run Try.prog w = .ok (.tuple #[.int .i64 ((f s).getD 0), .bool (f s).isSome]) w := by
  obtain ⟨D, hown, hD1, hD2⟩ := h
  have hsz : (str s).size ≤ maxLen := by
    have h2 : (str s).size = s.length := by simp [str, ByteArray.size]
    unfold maxLen
    omega
  have hkey : keyOf Try.prog 9 (.string (str s)) = some (.string s) := keyOf_string_mk Try.underlying9 hsz
  obtain ⟨v, ps, hrun, hv⟩ := hown.look_ok lawS Try.underlying66 (zero3 w) (intE_mk 0) hkey
  rw [hrun, (hD2 s).1]
  cases hf : f s with
  | some z =>
    rw [(hD2 s).2 z hf] at hv
    rw [intE_inv hv]
    rfl
  | none =>
    have hno : has D (.string s) = false := by rw [(hD2 s).1, hf]; rfl
    rw [atKey_of_not_has hno] at hv
    rw [intE_inv hv]
    rfl
theorem intput_run {w : World} {b n : Nat} {f : List UInt8 → Option Int} (h : IntIs w b n f) (hn : n ≤ 3000000) (s : List UInt8) (z : Int) (hs : s.length ≤ 140737488355328) :
    ∃ w', (Instr.mapUpdate 66 (.map (some b)) (.string (str s)) (.int .i64 z)).run Try.prog w = .ok () w' ∧ IntIs w' b (n + 1) (fun x => if x = s then some z else f x) ∧ w.grownBy w' (some b) := by
  obtain ⟨D, hown, hD1, hD2⟩ := h
  have hsz : (str s).size ≤ maxLen := by
    have h2 : (str s).size = s.length := by simp [str, ByteArray.size]
    unfold maxLen
    omega
  have hkey : keyOf Try.prog 9 (.string (str s)) = some (.string s) := keyOf_string_mk Try.underlying9 hsz
  obtain ⟨w', hrun, r1, r2⟩ := hown.update lawS Try.underlying66 (by unfold maxLen; omega) hkey (intE_mk z)
  refine ⟨w', hrun, ⟨_, r1, hD1.put _ _, fun x => ?_⟩, r2⟩
  by_cases hx : x = s
  · subst hx
    simp only [if_true]
    refine ⟨by rw [has_put_same hD1 (show WideAt.IsKeyLit (.string x) from trivial)]; rfl, fun y hy zd => ?_⟩
    cases hy
    exact atKey_put_same hD1 (show WideAt.IsKeyLit (.string x) from trivial) _ _
  · have n1 : (Lit.string x) ≠ .string s := fun e => hx (by injection e)
    simp only [hx, if_false]
    refine ⟨by rw [has_put_other n1]; exact (hD2 x).1, fun y hy zd => ?_⟩
    rw [atKey_put_other n1]
    exact (hD2 x).2 y hy zd
end Go.Proofs.Ytebbbefknfldoaa

/- Which of some nodes come back to themselves, and an order in which each stands behind those that it leads to: the walk that numbers them, as a function, and that it is right. -/
namespace Go.Proofs.Ytebbbefknfldoaa.Ta
set_option linter.unusedVariables false
set_option linter.unusedSimpArgs false
def big : Nat := 9223372036854775807
structure St where
  met : Nat → Nat
  count : Nat
  opn : List Nat
  order : List Nat
  back : List Nat
def upd (m : Nat → Nat) (i x : Nat) : Nat → Nat := fun j => if j = i then x else m j
def finishF (self : Nat → Bool) (frm : Nat) (s : St) : St :=
  { met := fun j => if j ∈ s.opn.drop frm then big else s.met j, count := s.count, opn := s.opn.take frm, order := s.order ++ s.opn.drop frm, back := s.back ++ (s.opn.drop frm).filter fun j => decide (1 < (s.opn.drop frm).length) || self j }
def beginF (i : Nat) (s : St) : St := { met := upd s.met i (s.count + 1), count := s.count + 1, opn := s.opn ++ [i], order := s.order, back := s.back }
def stepF (v : Nat → St → Nat × St) (a : Nat × St) (t : Nat) : Nat × St := if a.2.met t = 0 then (min a.1 (v t a.2).1, (v t a.2).2) else (min a.1 (a.2.met t), a.2)
def endF (self : Nat → Bool) (own frm : Nat) (r : Nat × St) : Nat × St := if r.1 = own then (own, finishF self frm r.2) else r
def visitF (adj : Nat → List Nat) (self : Nat → Bool) : Nat → Nat → St → Nat × St
  | 0, i, s => (0, s)
  | f + 1, i, s => endF self (s.count + 1) s.opn.length ((adj i).foldl (stepF (visitF adj self f)) (s.count + 1, beginF i s))
inductive Rch (adj : Nat → List Nat) : Nat → Nat → Prop
  | refl (a : Nat) : Rch adj a a
  | head {a b c : Nat} : b ∈ adj a → Rch adj b c → Rch adj a c
theorem Rch.trans {adj : Nat → List Nat} {a b c : Nat} (h : Rch adj a b) (g : Rch adj b c) : Rch adj a c := by
  induction h with
  | refl _ => exact g
  | head h1 _ ih => exact .head h1 (ih g)
theorem Rch.one {adj : Nat → List Nat} {a b : Nat} (h : b ∈ adj a) : Rch adj a b := .head h (.refl _)
def Cyc (adj : Nat → List Nat) (a : Nat) : Prop := ∃ b ∈ adj a, Rch adj b a
theorem Rch.stay {adj : Nat → List Nat} {P : Nat → Prop} (hP : ∀ a, P a → ∀ b ∈ adj a, P b) {a b : Nat} (h : Rch adj a b) : P a → P b := by
  induction h with
  | refl _ => exact id
  | head h1 _ ih => exact fun ha => ih (hP _ ha _ h1)
theorem cyc_of {adj : Nat → List Nat} {a b : Nat} (hne : a ≠ b) (h : Rch adj a b) (g : Rch adj b a) : Cyc adj a := by
  cases h with
  | refl _ => exact absurd rfl hne
  | head h1 h2 => exact ⟨_, h1, h2.trans g⟩
section
variable {adj : Nat → List Nat} {self : Nat → Bool} {n : Nat}
def left (n : Nat) (m : Nat → Nat) : Nat := ((List.range n).filter fun v => m v == 0).length
structure Inv (adj : Nat → List Nat) (n : Nat) (s : St) : Prop where
  num : ∀ v ∈ s.opn, 1 ≤ s.met v ∧ s.met v ≤ s.count
  tri : ∀ v, s.met v = 0 ∨ s.met v = big ∨ v ∈ s.opn
  cnt : s.count + left n s.met ≤ n
  don : ∀ v, s.met v = big → ∀ u ∈ adj v, s.met u = big
  ord : ∀ v, v ∈ s.order ↔ s.met v = big
  bck : ∀ v, v ∈ s.back ↔ s.met v = big ∧ Cyc adj v
  top : ∀ l1 v l2, s.order = l1 ++ v :: l2 → (∀ u ∈ adj v, u ∈ l1) ∨ Cyc adj v
  low : ∀ v, s.met v ≠ 0 → v < n
structure Vis (adj : Nat → List Nat) (n : Nat) (i : Nat) (s : St) (least : Nat) (s' : St) (tail : List Nat) : Prop where
  inv : Inv adj n s'
  opn : s'.opn = s.opn ++ tail
  old : ∀ v, s.met v ≠ 0 → s'.met v = s.met v
  mt : s'.met i ≠ 0
  cnt : s.count < s'.count
  tl : ∀ x ∈ tail, Rch adj x i ∧ Rch adj i x ∧ s.count < s'.met x
  edg : ∀ x ∈ tail, ∀ y ∈ adj x, s'.met y ≠ 0 ∧ (y ∈ s.opn → least ≤ s.met y)
  le : least ≤ s.count + 1
  nil : tail = [] → least = s.count + 1
  hit : tail ≠ [] → ∃ u ∈ s.opn, s.met u = least ∧ Rch adj i u
  lft : left n s'.met < left n s.met
theorem left_le {m m' : Nat → Nat} (h : ∀ v, m v ≠ 0 → m' v ≠ 0) : left n m' ≤ left n m := by
  unfold left
  generalize List.range n = l
  induction l with
  | nil => simp
  | cons a l ih =>
    rw [List.filter_cons, List.filter_cons]
    by_cases h1 : m a = 0
    · by_cases h2 : m' a = 0 <;> simp [h1, h2] <;> omega
    · have h2 := h a h1
      simp [h1, h2]
      exact ih
theorem left_lt {m m' : Nat → Nat} (h : ∀ v, m v ≠ 0 → m' v ≠ 0) {i : Nat} (hi : i < n) (h0 : m i = 0) (h1 : m' i ≠ 0) : left n m' < left n m := by
  unfold left
  have hm : i ∈ List.range n := List.mem_range.2 hi
  generalize List.range n = l at hm
  induction l with
  | nil => cases hm
  | cons a l ih =>
    rw [List.filter_cons, List.filter_cons]
    rcases List.mem_cons.1 hm with rfl | hm
    · have : ((l.filter fun v => m' v == 0)).length ≤ ((l.filter fun v => m v == 0)).length := by
        clear ih hm
        induction l with
        | nil => simp
        | cons a l ih =>
          rw [List.filter_cons, List.filter_cons]
          by_cases h2 : m a = 0
          · by_cases h3 : m' a = 0 <;> simp [h2, h3] <;> omega
          · have h3 := h a h2
            simp [h2, h3]
            exact ih
      simp [h0, h1]
      omega
    · have := ih hm
      by_cases h2 : m a = 0
      · by_cases h3 : m' a = 0 <;> simp [h2, h3] <;> omega
      · have h3 := h a h2
        simp [h2, h3]
        exact this
theorem big_pos : big ≠ 0 := by decide
structure Lp (adj : Nat → List Nat) (n : Nat) (i : Nat) (s : St) (a : Nat × St) (tail : List Nat) (seen : List Nat) : Prop where
  inv : Inv adj n a.2
  opn : a.2.opn = s.opn ++ i :: tail
  old : ∀ v, s.met v ≠ 0 → a.2.met v = s.met v
  own : a.2.met i = s.count + 1
  cnt : s.count < a.2.count
  tl : ∀ x ∈ tail, Rch adj x i ∧ Rch adj i x ∧ s.count + 1 < a.2.met x
  edg : ∀ x ∈ tail, ∀ y ∈ adj x, a.2.met y ≠ 0 ∧ (y ∈ s.opn → a.1 ≤ s.met y)
  sn : ∀ y ∈ seen, a.2.met y ≠ 0 ∧ (y ∈ s.opn → a.1 ≤ s.met y)
  le : a.1 ≤ s.count + 1
  hit : a.1 = s.count + 1 ∨ ∃ u ∈ s.opn, s.met u = a.1 ∧ Rch adj i u
  lft : left n a.2.met < left n s.met
theorem Lp.step {f i : Nat} {s : St} {a : Nat × St} {tail seen : List Nat} {t : Nat} (hn : n < big) (hadj : ∀ v, ∀ u ∈ adj v, u < n) (hS : Inv adj n s) (hi : ∀ v ∈ s.opn, Rch adj v i)
    (h : Lp adj n i s a tail seen) (ht : t ∈ adj i)
    (hv : ∀ t s, Inv adj n s → s.met t = 0 → t < n → (∀ v ∈ s.opn, Rch adj v t) → left n s.met ≤ f → ∃ tl, Vis adj n t s (visitF adj self f t s).1 (visitF adj self f t s).2 tl) (hf : left n s.met ≤ f + 1) :
    ∃ tail', Lp adj n i s (stepF (visitF adj self f) a t) tail' (seen ++ [t]) := by
  have hcb : a.2.count < big := by have := h.inv.cnt; omega
  unfold stepF
  by_cases h0 : a.2.met t = 0
  · rw [if_pos h0]
    have hall : ∀ v ∈ a.2.opn, Rch adj v t := fun v hvv => by
      rw [h.opn] at hvv
      rcases List.mem_append.1 hvv with h1 | h1
      · exact (hi v h1).trans (.one ht)
      · rcases List.mem_cons.1 h1 with rfl | h1
        · exact .one ht
        · exact (h.tl v h1).1.trans (.one ht)
    obtain ⟨tl, V⟩ := hv t a.2 h.inv h0 (hadj i t ht) hall (by have := h.lft; omega)
    generalize (visitF adj self f t a.2).1 = lv at *
    generalize (visitF adj self f t a.2).2 = s2 at *
    have hold : ∀ v, s.met v ≠ 0 → s2.met v = s.met v := fun v hv0 => by rw [V.old v (by rw [h.old v hv0]; exact hv0), h.old v hv0]
    have hin : ∀ y ∈ s.opn, y ∈ a.2.opn := fun y hy => by rw [h.opn]; exact List.mem_append_left _ hy
    have hsm : ∀ y ∈ s.opn, a.2.met y = s.met y := fun y hy => h.old y (by have := (hS.num y hy).1; omega)
    have hback : ∀ u ∈ a.2.opn, Rch adj u i := fun u hu => by
      rw [h.opn] at hu
      rcases List.mem_append.1 hu with h1 | h1
      · exact hi u h1
      · rcases List.mem_cons.1 h1 with rfl | h1
        · exact .refl _
        · exact (h.tl u h1).1
    refine ⟨tail ++ tl, V.inv, ?_, hold, ?_, ?_, ?_, ?_, ?_, ?_, ?_, ?_⟩
    · rw [V.opn, h.opn]; simp
    · rw [V.old i (by rw [h.own]; omega)]; exact h.own
    · show s.count < s2.count; have := h.cnt; have := V.cnt; omega
    · intro x hx
      show Rch adj x i ∧ Rch adj i x ∧ s.count + 1 < s2.met x
      rcases List.mem_append.1 hx with h1 | h1
      · obtain ⟨p1, p2, p3⟩ := h.tl x h1
        exact ⟨p1, p2, by rw [V.old x (by omega)]; exact p3⟩
      · obtain ⟨p1, p2, p3⟩ := V.tl x h1
        obtain ⟨u, hu, _, hr⟩ := V.hit (fun e => by rw [e] at h1; cases h1)
        refine ⟨p1.trans (hr.trans (hback u hu)), (Rch.one ht).trans p2, ?_⟩
        have := (h.inv.num i (by rw [h.opn]; simp)).2
        rw [h.own] at this
        omega
    · intro x hx y hy
      rcases List.mem_append.1 hx with h1 | h1
      · obtain ⟨p1, p2⟩ := h.edg x h1 y hy
        exact ⟨by rw [V.old y p1]; exact p1, fun hyo => Nat.le_trans (Nat.min_le_left _ _) (p2 hyo)⟩
      · obtain ⟨p1, p2⟩ := V.edg x h1 y hy
        exact ⟨p1, fun hyo => Nat.le_trans (Nat.min_le_right _ _) (by have := p2 (hin y hyo); rw [hsm y hyo] at this; exact this)⟩
    · intro y hy
      rcases List.mem_append.1 hy with h1 | h1
      · obtain ⟨p1, p2⟩ := h.sn y h1
        exact ⟨by rw [V.old y p1]; exact p1, fun hyo => Nat.le_trans (Nat.min_le_left _ _) (p2 hyo)⟩
      · rw [List.mem_singleton] at h1
        subst h1
        exact ⟨V.mt, fun hyo => absurd (hsm y hyo ▸ h0) (by have := (hS.num y hyo).1; omega)⟩
    · exact Nat.le_trans (Nat.min_le_left _ _) h.le
    · show min a.1 lv = s.count + 1 ∨ _
      by_cases hlt : lv < a.1
      · rw [Nat.min_eq_right (Nat.le_of_lt hlt)]
        have htl : tl ≠ [] := fun e => by have := V.nil e; have := h.le; have := h.cnt; omega
        obtain ⟨u, hu, hm, hr⟩ := V.hit htl
        right
        rw [h.opn] at hu
        rcases List.mem_append.1 hu with h1 | h1
        · exact ⟨u, h1, by rw [← hsm u h1]; exact hm, (Rch.one ht).trans hr⟩
        · exfalso
          have := h.le
          rcases List.mem_cons.1 h1 with rfl | h1
          · rw [h.own] at hm; omega
          · have := (h.tl u h1).2.2; omega
      · rw [Nat.min_eq_left (by omega)]
        exact h.hit
    · show left n s2.met < _; have := V.lft; have := h.lft; omega
  · rw [if_neg h0]
    have hm : ∀ y ∈ s.opn, a.2.met y = s.met y := fun y hy => h.old y (by have := (hS.num y hy).1; omega)
    refine ⟨tail, h.inv, h.opn, h.old, h.own, h.cnt, h.tl, ?_, ?_, ?_, ?_, h.lft⟩
    · intro x hx y hy
      obtain ⟨p1, p2⟩ := h.edg x hx y hy
      exact ⟨p1, fun hyo => Nat.le_trans (Nat.min_le_left _ _) (p2 hyo)⟩
    · intro y hy
      rcases List.mem_append.1 hy with h1 | h1
      · obtain ⟨p1, p2⟩ := h.sn y h1
        exact ⟨p1, fun hyo => Nat.le_trans (Nat.min_le_left _ _) (p2 hyo)⟩
      · rw [List.mem_singleton] at h1
        subst h1
        exact ⟨h0, fun hyo => Nat.le_trans (Nat.min_le_right _ _) (by rw [hm y hyo]; exact Nat.le_refl _)⟩
    · exact Nat.le_trans (Nat.min_le_left _ _) h.le
    · show min a.1 (a.2.met t) = s.count + 1 ∨ _
      by_cases hlt : a.2.met t < a.1
      · rw [Nat.min_eq_right (Nat.le_of_lt hlt)]
        right
        have hl := h.le
        rcases h.inv.tri t with h1 | h1 | h1
        · exact absurd h1 h0
        · have := h.inv.cnt; have := h.cnt; omega
        · rw [h.opn] at h1
          rcases List.mem_append.1 h1 with h1 | h1
          · exact ⟨t, h1, (hm t h1).symm, .one ht⟩
          · exfalso
            rcases List.mem_cons.1 h1 with rfl | h1
            · rw [h.own] at hlt; omega
            · have := (h.tl t h1).2.2; omega
      · rw [Nat.min_eq_left (by omega)]
        exact h.hit
theorem Lp.all {f i : Nat} {s : St} (hn : n < big) (hadj : ∀ v, ∀ u ∈ adj v, u < n) (hS : Inv adj n s) (hi : ∀ v ∈ s.opn, Rch adj v i)
    (hv : ∀ t s, Inv adj n s → s.met t = 0 → t < n → (∀ v ∈ s.opn, Rch adj v t) → left n s.met ≤ f → ∃ tl, Vis adj n t s (visitF adj self f t s).1 (visitF adj self f t s).2 tl) (hf : left n s.met ≤ f + 1) :
    ∀ (l : List Nat) (a : Nat × St) (tail seen : List Nat), (∀ t ∈ l, t ∈ adj i) → Lp adj n i s a tail seen → ∃ tail', Lp adj n i s (l.foldl (stepF (visitF adj self f)) a) tail' (seen ++ l)
  | [], a, tail, seen, _, h => ⟨tail, by simpa using h⟩
  | t :: l, a, tail, seen, hl, h => by
    obtain ⟨t2, h2⟩ := h.step hn hadj hS hi (hl t (by simp)) hv hf
    obtain ⟨t3, h3⟩ := Lp.all hn hadj hS hi hv hf l _ t2 _ (fun x hx => hl x (by simp [hx])) h2
    exact ⟨t3, by simpa using h3⟩
theorem Lp.start {i : Nat} {s : St} (hn : n < big) (hS : Inv adj n s) (h0 : s.met i = 0) (hin : i < n) : Lp adj n i s (s.count + 1, beginF i s) [] [] := by
  have hu : ∀ v, s.met v ≠ 0 → (beginF i s).met v = s.met v := fun v hv => by
    show upd s.met i (s.count + 1) v = _
    unfold upd
    rw [if_neg (fun e => hv (by rw [e]; exact h0))]
  have hown : (beginF i s).met i = s.count + 1 := by show upd s.met i (s.count + 1) i = _; unfold upd; rw [if_pos rfl]
  have hlt : left n (beginF i s).met < left n s.met := left_lt (fun v hv => by rw [hu v hv]; exact hv) hin h0 (by rw [hown]; omega)
  have hcb : s.count + 1 < big := by have := hS.cnt; omega
  have hbig : ∀ v, (beginF i s).met v = big ↔ s.met v = big := fun v => by
    by_cases hv : v = i
    · subst hv; rw [hown, h0]; exact ⟨fun e => by omega, fun e => absurd e.symm big_pos⟩
    · show upd s.met i (s.count + 1) v = _ ↔ _
      unfold upd
      rw [if_neg hv]
  refine ⟨⟨?_, ?_, ?_, ?_, ?_, ?_, hS.top, ?_⟩, rfl, hu, hown, Nat.lt_succ_self _, fun x hx => (by cases hx), fun x hx => (by cases hx), fun x hx => (by cases hx), Nat.le_refl _, .inl rfl, hlt⟩
  · intro v hv
    rcases List.mem_append.1 hv with h1 | h1
    · have := hS.num v h1
      rw [hu v (by omega)]
      exact ⟨this.1, Nat.le_succ_of_le this.2⟩
    · rw [List.mem_singleton] at h1
      subst h1
      rw [hown]
      exact ⟨by omega, Nat.le_refl _⟩
  · intro v
    by_cases hv : v = i
    · subst hv; right; right; show v ∈ s.opn ++ [v]; simp
    · have e : (beginF i s).met v = s.met v := by show upd s.met i (s.count + 1) v = _; unfold upd; rw [if_neg hv]
      rw [e]
      rcases hS.tri v with h | h | h
      · exact .inl h
      · exact .inr (.inl h)
      · exact .inr (.inr (List.mem_append_left _ h))
  · have := hS.cnt
    show s.count + 1 + left n (beginF i s).met ≤ n
    omega
  · intro v hv u hu2
    exact (hbig u).2 (hS.don v ((hbig v).1 hv) u hu2)
  · intro v
    rw [hbig]
    exact hS.ord v
  · intro v
    rw [hbig]
    exact hS.bck v
  · intro v hv
    by_cases e : v = i
    · rw [e]; exact hin
    · refine hS.low v ?_
      have e2 : (beginF i s).met v = s.met v := by show upd s.met i (s.count + 1) v = _; unfold upd; rw [if_neg e]
      rw [← e2]
      exact hv
theorem Lp.fin {i : Nat} {s : St} {a : Nat × St} {tail : List Nat} (hn : n < big) (hself : ∀ v, self v = true ↔ v ∈ adj v) (hS : Inv adj n s) (h : Lp adj n i s a tail (adj i)) (hl : a.1 = s.count + 1) : Vis adj n i s (s.count + 1) (finishF self s.opn.length a.2) [] := by
  have hr : a.2.opn.drop s.opn.length = i :: tail := by rw [h.opn]; simp
  have ht : a.2.opn.take s.opn.length = s.opn := by rw [h.opn]; simp
  have hcb : a.2.count < big := by have := h.inv.cnt; omega
  -- the ring and what is done lead nowhere else
  have hold : ∀ y ∈ s.opn, s.met y ≤ s.count := fun y hy => (hS.num y hy).2
  have hedge : ∀ x ∈ i :: tail, ∀ y ∈ adj x, a.2.met y = big ∨ y ∈ i :: tail := fun x hx y hy => by
    have hh : a.2.met y ≠ 0 ∧ (y ∈ s.opn → a.1 ≤ s.met y) := by
      rcases List.mem_cons.1 hx with rfl | hx
      · exact h.sn y hy
      · exact h.edg x hx y hy
    rcases h.inv.tri y with h1 | h1 | h1
    · exact absurd h1 hh.1
    · exact .inl h1
    · rw [h.opn] at h1
      rcases List.mem_append.1 h1 with h2 | h2
      · have := hh.2 h2; have := hold y h2; omega
      · exact .inr h2
  have hnb : ∀ x ∈ i :: tail, a.2.met x ≠ big := fun x hx => by
    have := (h.inv.num x (by rw [h.opn]; exact List.mem_append_right _ hx)).2
    omega
  have hmet : ∀ j, (finishF self s.opn.length a.2).met j = if j ∈ i :: tail then big else a.2.met j := fun j => by
    show (if j ∈ a.2.opn.drop s.opn.length then big else a.2.met j) = _
    rw [hr]
  have hbig : ∀ v, (finishF self s.opn.length a.2).met v = big ↔ v ∈ i :: tail ∨ a.2.met v = big := fun v => by
    rw [hmet]
    by_cases hv : v ∈ i :: tail
    · simp [hv]
    · rw [if_neg hv]
      exact ⟨.inr, fun h => h.resolve_left hv⟩
  have hdon : ∀ v, (finishF self s.opn.length a.2).met v = big → ∀ u ∈ adj v, (finishF self s.opn.length a.2).met u = big := fun v hv u hu => by
    rcases (hbig v).1 hv with h1 | h1
    · rcases hedge v h1 u hu with h2 | h2
      · exact (hbig u).2 (.inr h2)
      · exact (hbig u).2 (.inl h2)
    · exact (hbig u).2 (.inr (h.inv.don v h1 u hu))
  have hstay : ∀ x y, a.2.met x = big → Rch adj x y → a.2.met y = big := fun x y hx hxy => hxy.stay (P := fun z => a.2.met z = big) h.inv.don hx
  have hcyc : ∀ v ∈ i :: tail, (decide (1 < (i :: tail).length) || self v) = true ↔ Cyc adj v := fun v hv => by
    have hri : Rch adj v i ∧ Rch adj i v := by
      rcases List.mem_cons.1 hv with rfl | hv
      · exact ⟨.refl _, .refl _⟩
      · exact ⟨(h.tl v hv).1, (h.tl v hv).2.1⟩
    constructor
    · intro hb
      rcases Bool.or_eq_true_iff.1 hb with h1 | h1
      · have h2 : 1 < (i :: tail).length := of_decide_eq_true h1
        by_cases hvi : v = i
        · subst hvi
          obtain ⟨x, hx⟩ : ∃ x, x ∈ tail := by
            cases tail with
            | nil => simp at h2
            | cons x l => exact ⟨x, by simp⟩
          obtain ⟨p1, p2, p3⟩ := h.tl x hx
          exact cyc_of (fun e => by rw [← e, h.own] at p3; omega) p2 p1
        · exact cyc_of hvi hri.1 hri.2
      · exact ⟨v, (hself v).1 h1, .refl _⟩
    · rintro ⟨u, hu, hr2⟩
      rw [Bool.or_eq_true_iff]
      by_cases h2 : 1 < (i :: tail).length
      · exact .inl (decide_eq_true h2)
      · right
        have ht0 : tail = [] := by
          cases tail with
          | nil => rfl
          | cons x l => simp at h2
        subst ht0
        have hvi : v = i := by simpa using hv
        subst hvi
        rcases hedge v (by simp) u hu with h3 | h3
        · exact absurd (hstay u v h3 hr2) (hnb v (by simp))
        · have : u = v := by simpa using h3
          rw [this] at hu
          exact (hself v).2 hu
  have hord : (finishF self s.opn.length a.2).order = a.2.order ++ (i :: tail) := by show a.2.order ++ a.2.opn.drop s.opn.length = _; rw [hr]
  have hback : (finishF self s.opn.length a.2).back = a.2.back ++ (i :: tail).filter fun j => decide (1 < (i :: tail).length) || self j := by
    show a.2.back ++ (a.2.opn.drop s.opn.length).filter _ = _
    rw [hr]
  have hopn : (finishF self s.opn.length a.2).opn = s.opn := ht
  have hoff : ∀ v ∈ s.opn, v ∉ i :: tail := fun v hv hvt => by
    have h1 := hold v hv
    have h2 := h.old v (by have := (hS.num v hv).1; omega)
    rcases List.mem_cons.1 hvt with rfl | hvt
    · rw [h.own] at h2; omega
    · have := (h.tl v hvt).2.2; omega
  have hkeep : ∀ v, s.met v ≠ 0 → (finishF self s.opn.length a.2).met v = s.met v := fun v hv => by
    rw [hmet, if_neg (fun hvt => ?_)]
    · exact h.old v hv
    · have h2 := h.old v hv
      have hb : s.met v ≤ s.count ∨ s.met v = big := by
        rcases hS.tri v with h1 | h1 | h1
        · exact absurd h1 hv
        · exact .inr h1
        · exact .inl (hold v h1)
      rcases List.mem_cons.1 hvt with rfl | hvt2
      · rw [h.own] at h2; have := h.inv.cnt; have := h.cnt; omega
      · have := (h.tl v hvt2).2.2
        have := hnb v hvt
        omega
  have hnz : ∀ v, a.2.met v ≠ 0 → (finishF self s.opn.length a.2).met v ≠ 0 := fun v hv => by
    rw [hmet]
    split
    · exact big_pos
    · exact hv
  refine ⟨⟨?_, ?_, ?_, hdon, ?_, ?_, ?_, ?_⟩, by rw [hopn]; simp, hkeep, ?_, h.cnt, fun x hx => (by cases hx), fun x hx => (by cases hx), Nat.le_refl _, fun _ => rfl, fun e => absurd rfl e, Nat.lt_of_le_of_lt (left_le hnz) h.lft⟩
  · rw [hopn]
    intro v hv
    have := hS.num v hv
    rw [hkeep v (by omega)]
    exact ⟨this.1, Nat.le_of_lt (Nat.lt_of_le_of_lt this.2 h.cnt)⟩
  · intro v
    rw [hopn]
    by_cases hv : v ∈ i :: tail
    · exact .inr (.inl ((hbig v).2 (.inl hv)))
    · rcases h.inv.tri v with h1 | h1 | h1
      · left; rw [hmet, if_neg hv]; exact h1
      · exact .inr (.inl ((hbig v).2 (.inr h1)))
      · rw [h.opn] at h1
        rcases List.mem_append.1 h1 with h1 | h1
        · exact .inr (.inr h1)
        · exact absurd h1 hv
  · have h1 := h.inv.cnt
    have h2 := left_le (n := n) hnz
    show a.2.count + _ ≤ n
    omega
  · intro v
    rw [hord, List.mem_append, hbig, h.inv.ord]
    exact ⟨Or.symm, Or.symm⟩
  · intro v
    rw [hback, List.mem_append, hbig, h.inv.bck, List.mem_filter]
    constructor
    · rintro (⟨h1, h2⟩ | ⟨h1, h2⟩)
      · exact ⟨.inr h1, h2⟩
      · exact ⟨.inl h1, (hcyc v h1).1 h2⟩
    · rintro ⟨h1 | h1, h2⟩
      · exact .inr ⟨h1, (hcyc v h1).2 h2⟩
      · exact .inl ⟨h1, h2⟩
  · intro l1 v l2 he
    rw [hord] at he
    rcases List.append_eq_append_iff.1 he with ⟨m, h1, h2⟩ | ⟨m, h1, h2⟩
    · -- the node is one of the ring
      have hvr : v ∈ i :: tail := by rw [h2]; simp
      by_cases hc : Cyc adj v
      · exact .inr hc
      · left
        intro u hu
        rcases hedge v hvr u hu with h3 | h3
        · rw [h1]
          exact List.mem_append_left _ ((h.inv.ord u).2 h3)
        · exfalso
          apply hc
          have hb : (decide (1 < (i :: tail).length) || self v) = true := by
            by_cases huv : u = v
            · rw [huv] at hu
              rw [(hself v).2 hu]
              simp
            · have : 1 < (i :: tail).length := by
                cases tail with
                | nil =>
                  have e1 : u = i := by simpa using h3
                  have e2 : v = i := by simpa using hvr
                  exact absurd (e1.trans e2.symm) huv
                | cons x l => simp
              rw [decide_eq_true this]
              rfl
          exact (hcyc v hvr).1 hb
    · cases m with
      | nil =>
        rw [List.nil_append] at h2
        rw [List.append_nil] at h1
        have hvr : v ∈ i :: tail := by rw [← h2]; simp
        by_cases hc : Cyc adj v
        · exact .inr hc
        · left
          intro u hu
          rcases hedge v hvr u hu with h3 | h3
          · rw [← h1]
            exact (h.inv.ord u).2 h3
          · exfalso
            apply hc
            have hb : (decide (1 < (i :: tail).length) || self v) = true := by
              by_cases huv : u = v
              · rw [huv] at hu
                rw [(hself v).2 hu]
                simp
              · have : 1 < (i :: tail).length := by
                  cases tail with
                  | nil =>
                    have e1 : u = i := by simpa using h3
                    have e2 : v = i := by simpa using hvr
                    exact absurd (e1.trans e2.symm) huv
                  | cons x l => simp
                rw [decide_eq_true this]
                rfl
            exact (hcyc v hvr).1 hb
      | cons y m =>
        rw [List.cons_append] at h2
        injection h2 with e1 e2
        subst e1
        exact h.inv.top l1 v m h1
  · intro v hv
    by_cases hvt : v ∈ i :: tail
    · exact h.inv.low v (by have := (h.inv.num v (by rw [h.opn]; exact List.mem_append_right _ hvt)).1; omega)
    · rw [hmet, if_neg hvt] at hv
      exact h.inv.low v hv
  · rw [hmet, if_pos (by simp)]
    exact big_pos
theorem visit_is (hn : n < big) (hadj : ∀ v, ∀ u ∈ adj v, u < n) (hself : ∀ v, self v = true ↔ v ∈ adj v) : ∀ (f i : Nat) (s : St), Inv adj n s → s.met i = 0 → i < n → (∀ v ∈ s.opn, Rch adj v i) → left n s.met ≤ f → ∃ tail, Vis adj n i s (visitF adj self f i s).1 (visitF adj self f i s).2 tail
  | 0, i, s, hS, h0, hin, hi, hf => by
    have := left_lt (n := n) (m := s.met) (m' := upd s.met i 1) (fun v hv => by unfold upd; split <;> omega) hin h0 (by unfold upd; rw [if_pos rfl]; decide)
    omega
  | f + 1, i, s, hS, h0, hin, hi, hf => by
    obtain ⟨tail, h⟩ := Lp.all (f := f) (self := self) hn hadj hS hi (visit_is hn hadj hself f) hf (adj i) _ [] [] (fun t ht => ht) (Lp.start hn hS h0 hin)
    rw [List.nil_append] at h
    show ∃ tail, Vis adj n i s (endF self (s.count + 1) s.opn.length _).1 (endF self (s.count + 1) s.opn.length _).2 tail
    generalize (adj i).foldl (stepF (visitF adj self f)) (s.count + 1, beginF i s) = a at h
    unfold endF
    by_cases hl : a.1 = s.count + 1
    · rw [if_pos hl]
      exact ⟨[], h.fin hn hself hS hl⟩
    · rw [if_neg hl]
      refine ⟨i :: tail, h.inv, h.opn, h.old, by rw [h.own]; omega, h.cnt, ?_, ?_, h.le, (fun e => by cases e), fun _ => ?_, h.lft⟩
      · intro x hx
        rcases List.mem_cons.1 hx with rfl | hx
        · exact ⟨.refl _, .refl _, by rw [h.own]; omega⟩
        · obtain ⟨p1, p2, p3⟩ := h.tl x hx
          exact ⟨p1, p2, by omega⟩
      · intro x hx y hy
        rcases List.mem_cons.1 hx with rfl | hx
        · exact h.sn y hy
        · exact h.edg x hx y hy
      · rcases h.hit with h1 | h1
        · exact absurd h1 hl
        · exact h1
def allF (adj : Nat → List Nat) (self : Nat → Bool) (n : Nat) : List Nat → St → St
  | [], s => s
  | i :: l, s => allF adj self n l (if s.met i = 0 then (visitF adj self n i s).2 else s)
def zeroS : St := ⟨fun _ => 0, 0, [], [], []⟩
def walkF (adj : Nat → List Nat) (self : Nat → Bool) (n : Nat) : St := allF adj self n (List.range n) zeroS
theorem inv_zero : Inv adj n zeroS := by
  refine ⟨fun v hv => (by cases hv), fun v => .inl rfl, ?_, fun v hv => absurd hv.symm big_pos, fun v => ⟨fun h => (by cases h), fun h => absurd h.symm big_pos⟩, fun v => ⟨fun h => (by cases h), fun h => absurd h.1.symm big_pos⟩, fun l1 v l2 h => ?_, fun v h => absurd rfl h⟩
  · show 0 + left n _ ≤ n
    unfold left
    have := List.length_filter_le (fun v => (zeroS.met v == 0)) (List.range n)
    rw [List.length_range] at this
    omega
  · exact absurd h (by show [] ≠ _; simp)
theorem all_is (hn : n < big) (hadj : ∀ v, ∀ u ∈ adj v, u < n) (hself : ∀ v, self v = true ↔ v ∈ adj v) : ∀ (l : List Nat) (s : St), (∀ i ∈ l, i < n) → Inv adj n s → s.opn = [] → Inv adj n (allF adj self n l s) ∧ (allF adj self n l s).opn = [] ∧ (∀ v, s.met v ≠ 0 → (allF adj self n l s).met v = s.met v) ∧ ∀ i ∈ l, (allF adj self n l s).met i ≠ 0
  | [], s, _, hS, ho => ⟨hS, ho, fun _ _ => rfl, fun i hi => by cases hi⟩
  | i :: l, s, hl, hS, ho => by
    rw [allF]
    by_cases h0 : s.met i = 0
    · rw [if_pos h0]
      obtain ⟨tail, V⟩ := visit_is hn hadj hself n i s hS h0 (hl i (by simp)) (fun v hv => by rw [ho] at hv; cases hv) (by have := hS.cnt; omega)
      have ht : tail = [] := by
        cases tail with
        | nil => rfl
        | cons x l2 =>
          obtain ⟨u, hu, _⟩ := V.hit (by simp)
          rw [ho] at hu
          cases hu
      obtain ⟨r1, r2, r3, r4⟩ := all_is hn hadj hself l _ (fun j hj => hl j (by simp [hj])) V.inv (by rw [V.opn, ho, ht]; rfl)
      refine ⟨r1, r2, fun v hv => ?_, fun j hj => ?_⟩
      · rw [r3 v (by rw [V.old v hv]; exact hv), V.old v hv]
      · rcases List.mem_cons.1 hj with rfl | hj
        · rw [r3 j V.mt]; exact V.mt
        · exact r4 j hj
    · rw [if_neg h0]
      obtain ⟨r1, r2, r3, r4⟩ := all_is hn hadj hself l s (fun j hj => hl j (by simp [hj])) hS ho
      refine ⟨r1, r2, r3, fun j hj => ?_⟩
      rcases List.mem_cons.1 hj with rfl | hj
      · rw [r3 j h0]; exact h0
      · exact r4 j hj
theorem walk_is (hn : n < big) (hadj : ∀ v, ∀ u ∈ adj v, u < n) (hself : ∀ v, self v = true ↔ v ∈ adj v) : (∀ v, v ∈ (walkF adj self n).order ↔ v < n) ∧ (∀ v, v ∈ (walkF adj self n).back ↔ v < n ∧ Cyc adj v) ∧ ∀ l1 v l2, (walkF adj self n).order = l1 ++ v :: l2 → (∀ u ∈ adj v, u ∈ l1) ∨ Cyc adj v := by
  obtain ⟨h1, h2, h3, h4⟩ := all_is (self := self) hn hadj hself (List.range n) zeroS (fun i hi => List.mem_range.1 hi) inv_zero rfl
  have hb : ∀ v, (walkF adj self n).met v = big ↔ v < n := fun v => by
    constructor
    · intro h
      exact h1.low v (by show (walkF adj self n).met v ≠ 0; rw [h]; exact big_pos)
    · intro h
      rcases h1.tri v with h5 | h5 | h5
      · exact absurd h5 (h4 v (List.mem_range.2 h))
      · exact h5
      · rw [h2] at h5; cases h5
  exact ⟨fun v => (h1.ord v).trans (hb v), fun v => (h1.bck v).trans (and_congr_left fun _ => hb v), h1.top⟩
end
end Go.Proofs.Ytebbbefknfldoaa.Ta
/- expr.Of, Named, Times. -/
namespace Go.Proofs.Ytebbbefknfldoaa
open Go.ChangeShapes Go.WideShapes Go.ChangeAt Go.RowKit
set_option linter.unusedVariables false
set_option maxRecDepth 100000
structure TSt (w : World) (ts : List Tm) (n k : Int) (i : Nat) (v : Value) (wr : World) : Prop where
  le : i ≤ ts.length
  res : Two wr (w.heap.size + 1) 29 (.slice none 0 0) (.int .u32 0)
  out : Two wr (w.heap.size + 1 + 1) 29 v (.int .u32 (k * n % 4294967296))
  own : wr.ownsRow (w.heap.size + 1 + 1 + 1) 49 2 v (timesT (ts.take i) n).length (rowT (timesT (ts.take i) n))
  bel : Below w.heap.size w wr
  size : w.heap.size + 1 + 1 + 1 ≤ wr.heap.size
theorem take_at {α : Type} (ts : List α) (i : Nat) (t : α) (h : ts[i]? = some t) : ts.take (i + 1) = ts.take i ++ [t] := by
  obtain ⟨hi, he⟩ := List.getElem?_eq_some_iff.1 h
  rw [List.take_add_one, h]
  rfl
theorem times_next {w : World} {ts : List Tm} {n k : Int} {i L c1 : Nat} {a1 : Option Addr} {wr : World} (h : TSt w ts n k i (.slice a1 L c1) wr) (t : Tm) (ht : ts[i]? = some t) :
    (t.coef * n % 4294967296 = 0 → ∀ o, TSt w ts n k (i + 1) (.slice a1 L c1) (wr.alloc o)) ∧
    (t.coef * n % 4294967296 ≠ 0 → ∀ o o2 v2 w3 w4, w3.ownsRow (w.heap.size + 1 + 1 + 1) 49 2 v2 (L + 1) (rowT (timesT (ts.take i) n) ++ [.string (str t.name), .int .u32 (t.coef * n % 4294967296)]) → ((wr.alloc o).alloc o2).grownBy w3 (Value.slice a1 L c1).ownBlock → w4 = w3.setCell ⟨w.heap.size + 1 + 1, 0, none⟩ v2 → TSt w ts n k (i + 1) v2 w4) := by
  have hi := (List.getElem?_eq_some_iff.1 ht).1
  have hsz := h.size
  have htk : timesT (ts.take (i + 1)) n = timesT (ts.take i) n ++ emit t.name (t.coef * n % 4294967296) [] := by
    rw [take_at ts i t ht, timesT_append, timesT_cons, timesT_nil]
  constructor
  · intro hz o
    refine ⟨by omega, h.res.alloc o, h.out.alloc o, ?_, h.bel.alloc (by omega) o, by simp; omega⟩
    rw [htk, emit, if_pos hz, List.append_nil]
    exact h.own.alloc o
  · intro hz o o2 v2 w3 w4 hown hg hw4
    subst hw4
    have hnb : (Value.slice a1 L c1).ownBlock ≠ some (w.heap.size + 1) := fun e => by have := (h.own.lt _ e).1; omega
    have hnb2 : (Value.slice a1 L c1).ownBlock ≠ some (w.heap.size + 1 + 1) := fun e => by have := (h.own.lt _ e).1; omega
    have hr := ((h.res.alloc o).alloc o2).grown hg hnb
    have ho := ((h.out.alloc o).alloc o2).grown hg hnb2
    obtain ⟨s1, s2⟩ := two_put ho v2
    have hs3 := hg.size
    simp at hs3
    refine ⟨by omega, hr.grown s2 (by simp), s1, ?_, ?_, ?_⟩
    · rw [htk, emit, if_neg hz, rowT_push, List.length_append]
      refine own_low ?_ s2 (by omega)
      have hL : (timesT (ts.take i) n).length = L := by
        have h1 := h.own.1
        have h2 := own_slice h.own
        obtain ⟨a', c', h2⟩ := h2
        injection h2 with _ h2 _
        exact h2.symm
      rw [hL]
      exact hown
    · refine Below.grown ?_ s2 (by omega) (fun j hj => by cases hj; omega)
      exact ((h.bel.alloc (by omega) o).alloc (by simp; omega) o2).grown hg (by simp; omega) (fun j hj => by have := (h.own.lt _ hj).1; omega)
    · have := s2.size
      omega
set_option maxHeartbeats 2000000 in
theorem times_any (a : Option Addr) (c : Nat) (ts : List Tm) (k n : Int) (hl : ts.length ≤ 4400000) (w : World) (hT : TmLies w a ts) :
    Calls Try.prog 46 #[linV (.slice a ts.length c) k, .int .u32 n] w fun e w' => Below w.heap.size w w' ∧ ∃ v, e = .returned (linV v (k * n % 4294967296)) ∧ w'.ownsRow w.heap.size 49 2 v (timesT ts n).length (rowT (timesT ts n)) := by
  obtain ⟨n0, hn0⟩ : ∃ n0, n0 = ts.length := ⟨_, rfl⟩
  rw [← hn0] at hl ⊢
  have hTH := Hid.intro hT
  have hnH := Hid.intro hn0
  clear hT hn0
  obtain ⟨i0, hi, hz0, hz1, hz2⟩ := info_parts Try.info56
  go_enter Try.func46, Try.ntmps46
  go_wp2
  go_loopw [16] (fun vi wr => ∃ (i : Nat) (v : Value), vi = .int .i64 (i : Int) ∧ Hid (TSt w ts n k i v wr)) (fun vi _ => n0 - (intOf vi).toNat)
  case atStart =>
    refine ⟨0, .slice none 0 0, rfl, ⟨Nat.zero_le _, ?_, ?_, World.ownsRow_nil _ _ _ _, ?_, by simp⟩⟩
    · have := (two_new (w.alloc (.cells #[.slice a n0 c, .int .u32 k] 29)) 29 (.slice none 0 0) (.int .u32 0)).alloc (.cells #[.slice none 0 0, .int .u32 (k * n % 4294967296)] 29)
      simpa using this
    · have := two_new ((w.alloc (.cells #[.slice a n0 c, .int .u32 k] 29)).alloc (.cells #[.slice none 0 0, .int .u32 0] 29)) 29 (.slice none 0 0) (.int .u32 (k * n % 4294967296))
      simpa using this
    · exact (((below_alloc w _).alloc (by simp) _).alloc (by simp; omega) _)
  case round =>
    obtain ⟨i, v, rfl, hS⟩ := hrel
    have hle := hS.out.le
    rw [← hnH.out] at hle
    obtain ⟨a1, c1, rfl⟩ := own_slice hS.out.own
    obtain ⟨L, hL⟩ : ∃ L, L = (timesT (ts.take i) n).length := ⟨_, rfl⟩
    have hown := hS.out.own
    rw [← hL] at hown hS
    have hLl : L ≤ 4400000 := by
      rw [hL]
      have := times_len (ts.take i) n
      rw [List.length_take] at this
      omega
    have hownH := Hid.intro hown
    have hLH := Hid.intro hL
    clear hown hL
    have hsz := hS.out.size
    by_cases hlt : i < n0
    · obtain ⟨t, ht⟩ : ∃ t, ts[i]? = some t := ⟨ts[i]'(by rw [← hnH.out]; exact hlt), List.getElem?_eq_getElem _⟩
      have htH := Hid.intro ht
      clear ht
      rcases hTH.out with hx | ⟨g, o, rfl, hg, hT⟩
      · rw [hx] at hnH; have := hnH.out; simp at this; omega
      have hgr : g < wr.heap.size := Nat.lt_of_lt_of_le hg hS.out.bel.size
      obtain ⟨q0, q1⟩ := (hT i t htH.out).below hS.out.bel hg
      clear hT
      have hnext := Hid.intro (times_next hS.out t htH.out)
      obtain ⟨oh, o0, o1, of0, of1⟩ := hS.out.out
      have ho := Hid.intro (two_of oh)
      have oa0 := ho.out.a0
      have ob0 := ho.out.b0
      clear oh
      by_cases hz : t.coef * n % 4294967296 = 0
      · have hz' : (t.coef * n % 4294967296 != 0) = false := by simp [hz]
        go_wp2
        all_goals first | omega | skip
        go_roundw
        case rel => exact ⟨i + 1, .slice a1 L c1, by go_num, Hid.intro (hnext.out.1 hz _)⟩
        case measure => simp [intOf]; omega
      · have hz' : (t.coef * n % 4294967296 != 0) = true := by simp [hz]
        go_wp2_with (at_builtin; go_must (refine wpList_append_own_wide _ rfl (.tmp 29) (.tmp 31) 26 rfl (w.heap.size + 1 + 1 + 1) 49 i0 (.agg #[.string ⟨#[]⟩, .int .u32 0]) 2 24 Try.underlying26 hi hz0 hz1 hz2 rfl (by decide) (.slice a1 L c1) L _ rfl ((hownH.out.alloc _).alloc _) ⟨wr.heap.size + 1, 0, none⟩ 1 1 [.string (str t.name), .int .u32 (t.coef * n % 4294967296)] rfl rfl (cells_new2 _ _ _ _) (by simp [Value.oneCell']) (by unfold maxLen; omega) (by omega) (by simp; omega) ?_; intro v2 w3 hown3 hgrow3 _; obtain ⟨a2, c2, rfl⟩ := own_slice hown3; obtain ⟨_, p0, p1, pf0, pf1⟩ := (((ho.out.alloc _).alloc _).grown hgrow3 (fun e => by have := (hownH.out.lt _ e).1; omega))))
        all_goals first | omega | skip
        go_roundw
        case rel => exact ⟨i + 1, .slice a2 (L + 1) c2, by go_num, Hid.intro (hnext.out.2 hz _ _ _ w3 _ hown3 hgrow3 rfl)⟩
        case measure => simp [intOf]; omega
    · obtain ⟨oh, o0, o1, of0, of1⟩ := hS.out.out
      obtain ⟨rh, r0, r1, rf0, rf1⟩ := hS.out.res
      have rhH := Hid.intro rh
      clear rh oh
      go_wp2
      all_goals first | omega | skip
      have hin : i = ts.length := by rw [← hnH.out]; omega
      obtain ⟨s1, s2⟩ := two_set rhH.out rfl (.slice a1 L c1) (.int .u32 (k * n % 4294967296))
      have hb2 : Below w.heap.size w ((wr.setCell ⟨w.heap.size + 1, 0, none⟩ (.slice a1 L c1)).setCell ⟨w.heap.size + 1, 1, none⟩ (.int .u32 (k * n % 4294967296))) := hS.out.bel.grown s2 (by omega) (fun j hj => by cases hj; omega)
      generalize ((wr.setCell ⟨w.heap.size + 1, 0, none⟩ (.slice a1 L c1)).setCell ⟨w.heap.size + 1, 1, none⟩ (.int .u32 (k * n % 4294967296))) = w3 at s1 s2 hb2 ⊢
      obtain ⟨_, z0, z1, _, _⟩ := s1
      refine bodyPost_ret (by simp [results, Try.results46, go_sem, z0, z1]; try rfl) rfl ?_
      refine ⟨hb2, _, rfl, ?_⟩
      have hown := own_weaken (own_low hS.out.own s2 (by omega)) (B := w.heap.size) (by omega)
      rw [hin, List.take_length] at hown
      exact hown
end Go.Proofs.Ytebbbefknfldoaa
namespace Go.Proofs.Ytebbbefknfldoaa
open Go.ChangeShapes Go.WideShapes Go.ChangeAt Go.RowKit
set_option linter.unusedVariables false
set_option linter.unusedSimpArgs false
set_option maxRecDepth 100000
theorem str_beq (s t : List UInt8) : ((str s).toList == (str t).toList) = decide (s = t) := by
  rw [str_toList, str_toList]
  by_cases h : s = t
  · subst h; simp
  · rw [decide_eq_false h]
    exact beq_eq_false_iff_ne.2 h
theorem lead1 (s nm : List UInt8) (k : Int) (b : Nat) (w : World) (hb : b < w.heap.size) (hc : w.cell? ⟨b, 0, none⟩ = some (.string (str nm))) : Calls Try.prog 55 #[.agg #[.string (str s), .int .u32 k], .pointer (some ⟨b, 0, none⟩)] w fun e w' => e = .returned (.bool (decide (s = nm))) ∧ Below w.heap.size w w' := by
  have hB := below_alloc w (.cells #[.string (str s), .int .u32 k] 49)
  have hc2 : (w.alloc (.cells #[.string (str s), .int .u32 k] 49)).cell? ⟨b, 0, none⟩ = some (.string (str nm)) := (hB.cell (p := ⟨b, 0, none⟩) hb).trans hc
  have hB' := Hid.intro hB
  have hne : ¬ b = w.heap.size := by omega
  have hbe := str_beq s nm
  go_enter Try.func55, Try.ntmps55
  go_wp2
  all_goals first | omega | skip
  go_ret
  exact ⟨by first | rw [hbe] | rfl | (simp [hbe]), hB'.out⟩
def inT (nm : List UInt8) (ts : List Tm) : Bool := ts.any fun t => decide (t.name = nm)
theorem inT_take (nm : List UInt8) (l : List Tm) (i : Nat) (x : Tm) (hx : l[i]? = some x) : inT nm (l.take (i + 1)) = (inT nm (l.take i) || decide (x.name = nm)) := by
  unfold inT
  rw [List.take_add_one, hx]
  simp
set_option maxHeartbeats 4000000 in
theorem lead2 (nm : List UInt8) (b : Nat) (a : Option Addr) (c : Nat) (l : List Tm) (hl : l.length ≤ 4400000) (w : World) (hb : b < w.heap.size) (hc : w.cell? ⟨b, 0, none⟩ = some (.string (str nm))) (hI : TmLies w a l) : Calls Try.prog 68 #[.slice a l.length c, .func (.func 55) #[] #[.pointer (some ⟨b, 0, none⟩)]] w fun e w' => (∃ j : Int, e = .returned (.int .i64 j) ∧ decide (0 ≤ j) = inT nm l) ∧ Below w.heap.size w w' := by
  have hget : Hid (∀ wr i, Below w.heap.size w wr → i < l.length → ∃ x, l[i]? = some x ∧ ∃ g o, a = some ⟨g, o, none⟩ ∧ TmAt wr g (o + i * 2) x) := fun wr i hb i1 => by
    obtain ⟨x, hx⟩ : ∃ x, l[i]? = some x := ⟨_, List.getElem?_eq_getElem i1⟩
    refine ⟨x, hx, ?_⟩
    rcases hI with rfl | ⟨g, o, ha, hg, hI⟩
    · cases hx
    · exact ⟨g, o, ha, (hI i x hx).below hb hg⟩
  have h55 := Hid.intro (fun (wr : World) (s : List UInt8) (k : Int) (hB : Below w.heap.size w wr) => lead1 s nm k b wr (Nat.lt_of_lt_of_le hb hB.size) ((hB.cell (p := ⟨b, 0, none⟩) hb).trans hc))
  have hnx : Hid (∀ (i : Nat) (x : Tm), l[i]? = some x → inT nm (l.take i) = false → decide (x.name = nm) = false → inT nm (l.take (i + 1)) = false) := fun i x hx h1 h2 => by rw [inT_take nm l i x hx, h1, h2]; rfl
  have hyes : Hid (∀ (i : Nat) (x : Tm), l[i]? = some x → decide (x.name = nm) = true → inT nm l = true) := fun i x hx h1 => List.any_eq_true.2 ⟨x, List.mem_of_getElem? hx, h1⟩
  have hno : Hid (∀ i, i = l.length → inT nm (l.take i) = false → inT nm l = false) := fun i hi h1 => by rw [hi, List.take_length] at h1; exact h1
  generalize hA : inT nm l = AA at *
  obtain ⟨n0, hn0⟩ : ∃ n0, n0 = l.length := ⟨_, rfl⟩
  rw [← hn0] at hl hget hno ⊢
  clear hn0 hI hA hc
  go_enter Try.func68, Try.ntmps68
  go_wp2
  all_goals first | omega | skip
  go_loopw [8] (fun v8 wr => ∃ (i : Nat), i ≤ n0 ∧ v8 = .int .i64 (i : Int) ∧ Hid (Below w.heap.size w wr) ∧ Hid (inT nm (l.take i) = false)) (fun v8 _ => n0 - (intOf v8).toNat)
  case atStart => exact ⟨0, by omega, rfl, Below.refl _ _, rfl⟩
  case round =>
    obtain ⟨i, hi, rfl, hb, hn⟩ := hrel
    by_cases hin : i < n0
    · obtain ⟨x, hx, g, o, ha, ⟨d0, d1⟩⟩ := hget.out wr i hb.out hin
      have hx2 := Hid.intro hx
      have hm := Hid.intro (h55.out wr x.name x.coef hb.out)
      clear hx
      subst ha
      cases hq : decide (x.name = nm)
      · rw [hq] at hm
        have hnn := Hid.intro (hnx.out i x hx2.out hn.out hq)
        clear hq
        go_wp2_with (go_at_call 55; (with_reducible refine (hm.out).mono ?_); rintro e w2 ⟨rfl, hb2⟩; have hb3 := Hid.intro (hb.out.trans (hb2.mono hb.out.size)); clear hb2)
        all_goals first | omega | skip
        go_roundw
        case rel => exact ⟨i + 1, by omega, by go_num, hb3, hnn⟩
        case measure => simp [intOf]; omega
      · rw [hq] at hm
        have hyy := Hid.intro (hyes.out i x hx2.out hq)
        clear hq
        go_wp2_with (go_at_call 55; (with_reducible refine (hm.out).mono ?_); rintro e w2 ⟨rfl, hb2⟩; have hb3 := Hid.intro (hb.out.trans (hb2.mono hb.out.size)); clear hb2)
        all_goals first | omega | skip
        go_ret
        exact ⟨⟨_, rfl, by rw [hyy.out]; simp⟩, hb3.out⟩
    · obtain rfl : i = n0 := by omega
      have hnn := Hid.intro (hno.out i rfl hn.out)
      go_wp2_with fail
      all_goals first | omega | skip
      go_ret
      exact ⟨⟨_, rfl, by rw [hnn.out]; simp⟩, hb.out⟩
set_option maxHeartbeats 4000000 in
theorem lead3 (nm : List UInt8) (b : Nat) (a : Option Addr) (c : Nat) (l : List Tm) (hl : l.length ≤ 4400000) (w : World) (hb : b < w.heap.size) (hc : w.cell? ⟨b, 0, none⟩ = some (.string (str nm))) (hI : TmLies w a l) : Calls Try.prog 54 #[.slice a l.length c, .func (.func 55) #[] #[.pointer (some ⟨b, 0, none⟩)]] w fun e w' => e = .returned (.bool (inT nm l)) ∧ Below w.heap.size w w' := by
  have hh := Hid.intro (lead2 nm b a c l hl w hb hc hI)
  generalize inT nm l = AA at *
  generalize l.length = n0 at *
  clear hI hc
  go_enter Try.func54, Try.ntmps54
  go_wp2_with (go_at_call 68; (with_reducible refine (hh.out).mono ?_); rintro e w2 ⟨⟨j, rfl, hj⟩, hb2⟩; replace hj := Hid.intro hj; replace hb2 := Hid.intro hb2)
  all_goals first | omega | skip
  go_ret
  refine ⟨?_, hb2.out⟩
  rw [← hj.out]
  rfl
set_option maxHeartbeats 4000000 in
theorem leads_any (nm : List UInt8) (k : Int) (a : Option Addr) (c : Nat) (l : List Tm) (hl : l.length ≤ 4400000) (w : World) (hI : TmLies w a l) : Calls Try.prog 43 #[.agg #[.string (str nm), .slice a l.length c, .int .u32 k]] w fun e w' => e = .returned (.bool (inT nm l)) ∧ Below w.heap.size w w' := by
  have hB := below_alloc w (.cells #[.string (str nm), .slice a l.length c, .int .u32 k] 31)
  have h0 := heap_alloc_new w (.cells #[.string (str nm), .slice a l.length c, .int .u32 k] 31)
  have hc0 : (w.alloc (.cells #[.string (str nm), .slice a l.length c, .int .u32 k] 31)).cell? ⟨w.heap.size, 0, none⟩ = some (.string (str nm)) := (Joins.cell_of_block h0 0).trans rfl
  have hh := Hid.intro (lead3 nm w.heap.size a c l hl _ (by simp) hc0 (hI.below hB (Nat.le_refl _)))
  have hB' := Hid.intro hB
  generalize inT nm l = AA at *
  generalize l.length = n0 at *
  clear hI hc0 h0 hB
  go_enter Try.func43, Try.ntmps43
  go_wp2_with (go_at_call 54; (with_reducible refine (hh.out).mono ?_); rintro e w2 ⟨rfl, hb2⟩; replace hb2 := Hid.intro hb2)
  all_goals first | omega | skip
  go_ret
  exact ⟨rfl, hB'.out.trans (hb2.out.mono hB'.out.size)⟩
end Go.Proofs.Ytebbbefknfldoaa

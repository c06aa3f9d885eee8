/- The tokens in memory, as a reader meets them; few. -/
import Derived.Test.YtebbbefknfldoaaProg
import Derived.Deep.RegionHeld3
import Derived.Shelf.SlGeneric
import Derived.Shelf.SlSortCmp.WholeK
import Derived.Shelf.SlicesQ.Equal
import Derived.Shelf.Slices.Turned
import Derived.Test.YtebbbefknfldoaaRows
import Derived.WalkKit
import Derived.ProofKit
import Derived.OpenShut
import Derived.ShutString
import Derived.ChangeOld
import Derived.Below
import Derived.WalkMore
import Derived.ScopeJumps
import Derived.Lib.Bytealg
import Derived.Lib.IndexAny
import Derived.Lib.Strings
import Derived.Lib.Walk
import Derived.Lib.BufferWrite
import Derived.Lib.UnsafeStr
import Derived.Lib.Hide
import Derived.Laws.MakeOwn
import Derived.Deep.DeepAppendWide
import Derived.Deep.DeepMust
import Derived.Laws.Strings3
/- A region that draws its order and whose last operation, a store, waits for all others: the loads among them are taken first under a condition that the store itself ends. -/
namespace Go.Proofs.Ytebbbefknfldoaa
set_option linter.unusedVariables false
def onsOf (ops : Array Oper) (j : Nat) : List Nat := ((ops[j]?).map fun o => (o.after.toList.filter fun e => Region.binds .any e).map (·.on)).getD []
def markF (ops : Array Oper) : Nat → List Nat → List Nat
  | 0, s => s
  | j + 1, s => markF ops j (if s.contains j then onsOf ops j ++ s else s)
def lastB (ops : Array Oper) (L : Nat) : Bool := (List.range ops.size).all fun j => (markF ops ops.size [L]).contains j && (onsOf ops j).all fun i => decide (i < j)
def ClosedL (ops : Array Oper) (listed : Array Bool) : Prop := ∀ j oj, ops[j]? = some oj → listed.getD j false = true → ∀ e ∈ oj.after, Region.binds .any e = true → listed.getD e.on false = true
theorem mem_ons {ops : Array Oper} {j i : Nat} : i ∈ onsOf ops j ↔ ∃ o, ops[j]? = some o ∧ ∃ e ∈ o.after, Region.binds .any e = true ∧ e.on = i := by
  unfold onsOf
  cases h : ops[j]? with
  | none => simp
  | some o => simp [and_assoc]
theorem mark_listed {ops : Array Oper} {listed : Array Bool} (hc : ClosedL ops listed) {L : Nat} (hL : L ∈ Region.ready .any ops listed) : ∀ (n : Nat) (s : List Nat), (∀ j ∈ s, j = L ∨ listed.getD j false = true) → ∀ j ∈ markF ops n s, j = L ∨ listed.getD j false = true := by
  intro n
  induction n with
  | zero => intro s h; exact h
  | succ n ih =>
    intro s h
    refine ih _ ?_
    by_cases hn : s.contains n = true
    · rw [if_pos hn]
      intro j hj
      rcases List.mem_append.1 hj with hj | hj
      · obtain ⟨o, ho, e, he, hb, rfl⟩ := mem_ons.1 hj
        right
        rcases h n (by simpa using hn) with rfl | hl
        · obtain ⟨_, o', ho', hall⟩ := mem_ready.1 hL
          rw [ho] at ho'
          cases ho'
          exact hall e he hb
        · exact hc n o ho hl e he hb
      · exact h j hj
    · rw [if_neg hn]
      exact h
theorem last_all {ops : Array Oper} {listed : Array Bool} (hc : ClosedL ops listed) {L : Nat} (hL : L ∈ Region.ready .any ops listed) (hb : lastB ops L = true) {j : Nat} (hj : j < ops.size) (hne : j ≠ L) : listed.getD j false = true := by
  have h := List.all_eq_true.1 hb j (List.mem_range.2 hj)
  simp only [Bool.and_eq_true] at h
  rcases mark_listed hc hL ops.size [L] (fun i hi => .inl (by simpa using hi)) j (by simpa using h.1) with h1 | h1
  · exact absurd h1 hne
  · exact h1
theorem some_ready {ops : Array Oper} {listed : Array Bool} {L : Nat} (hb : lastB ops L = true) (hs : listed.size = ops.size) : ∀ (n : Nat), n < ops.size → listed.getD n true = false → Region.ready .any ops listed ≠ [] := by
  intro n
  induction n using Nat.strongRecOn with
  | _ n ih =>
    intro hn hl h0
    by_cases hr : n ∈ Region.ready .any ops listed
    · rw [h0] at hr; cases hr
    · have h := List.all_eq_true.1 hb n (List.mem_range.2 hn)
      simp only [Bool.and_eq_true, List.all_eq_true, decide_eq_true_eq] at h
      apply hr
      refine mem_ready.2 ⟨hl, ops[n], Array.getElem?_eq_getElem hn, fun e he hbd => ?_⟩
      have hlt := h.2 e.on (mem_ons.2 ⟨_, Array.getElem?_eq_getElem hn, e, he, hbd, rfl⟩)
      cases hd : listed.getD e.on false with
      | true => rfl
      | false =>
        exfalso
        refine ih e.on hlt (by omega) ?_ h0
        have : e.on < listed.size := by omega
        simp [this] at hd ⊢
        exact hd
def noOp (o : Oper) : Oper := { o with op := .move (.const (.int .i64 0)), dst := none }
def lastQ (P : Program) (oL : Oper) (Q : Exit → Act → World → Prop) : Exit → Act → World → Prop := fun e a w => match e with
  | .normal => oL.wp P a w (fun a' w' => Q .normal a' w') Q
  | e => Q e a w
section
variable {P : Program} {ops : Array Oper} {Q : Exit → Act → World → Prop} {L : Nat} {oL : Oper}
theorem ready_swap (hL : ops[L]? = some oL) (listed : Array Bool) : Region.ready .any (ops.setIfInBounds L (noOp oL)) listed = Region.ready .any ops listed := by
  unfold Region.ready
  rw [Array.size_setIfInBounds]
  congr 1
  funext i
  by_cases h : L = i
  · subst h
    have hlt : L < ops.size := (Array.getElem?_eq_some_iff.1 hL).1
    rw [Array.getElem?_setIfInBounds_self_of_lt hlt, hL]
    rfl
  · rw [Array.getElem?_setIfInBounds_ne h]
theorem yielded_swap (hL : ops[L]? = some oL) (hd : oL.dst = none) (tmps : Array Value) : yielded (ops.setIfInBounds L (noOp oL)) tmps = yielded ops tmps := by
  funext i
  unfold yielded
  by_cases h : L = i
  · subst h
    have hlt : L < ops.size := (Array.getElem?_eq_some_iff.1 hL).1
    rw [Array.getElem?_setIfInBounds_self_of_lt hlt, hL]
    simp [noOp, hd]
  · rw [Array.getElem?_setIfInBounds_ne h]
theorem wpO_post {o : Oper} {a : Act} {w : World} {K : Act → World → Prop} {Q Q2 : Exit → Act → World → Prop} (hp : ∀ c a w, Q2 (.panic c) a w → Q (.panic c) a w) (ho : LetsOut Q2 → LetsOut Q) (h : o.wp P a w K Q2) : o.wp P a w K Q := by
  unfold Oper.wp at *
  generalize (execOp a.eval o).run P w = r at *
  cases r with
  | ok n w' =>
    cases n <;> simp only [Oper.upon] at h ⊢ <;>
      first
        | exact h
        | exact Calls.mono h (fun e w'' he => by cases e <;> first | exact he | exact hp _ _ _ he | exact ho he)
  | halt x w' => cases x <;> simp only [Oper.upon] at h ⊢ <;> exact hp _ _ _ h
theorem lets_last (h : LetsOut (lastQ P oL Q)) : LetsOut Q := h
theorem any_swap (hL : ops[L]? = some oL) (hd : oL.dst = none) (hg : oL.guard = none) (hb : lastB ops L = true) :
    ∀ (fuel : Nat) (listed : Array Bool) (a : Act) (w : World), ClosedL ops listed → listed.size = ops.size → listed.getD L true = false → wpAny P .any (ops.setIfInBounds L (noOp oL)) (lastQ P oL Q) fuel listed a w → wpAny P .any ops Q fuel listed a w := by
  have hlt : L < ops.size := (Array.getElem?_eq_some_iff.1 hL).1
  intro fuel
  induction fuel with
  | zero =>
    intro listed a w hc hs hu h
    exact absurd (by rw [← ready_swap hL]; exact h.1) (some_ready hb hs L hlt hu)
  | succ fuel ih =>
    intro listed a w hc hs hu h
    refine ⟨fun h0 => absurd h0 (some_ready hb hs L hlt hu), fun i hi => ?_⟩
    have h1 := h.2 i (by rw [ready_swap hL]; exact hi)
    by_cases e : L = i
    · subst e
      have hr0 : Region.ready .any ops (listed.setIfInBounds L true) = [] := by
        apply List.eq_nil_iff_forall_not_mem.2
        intro j hj
        obtain ⟨hj0, o, ho, _⟩ := mem_ready.1 hj
        have hjs : j < ops.size := (Array.getElem?_eq_some_iff.1 ho).1
        by_cases ej : L = j
        · subst ej
          have : L < listed.size := by omega
          simp [this] at hj0
        · rw [getD_set_ne true ej] at hj0
          have := last_all hc hi hb hjs (Ne.symm ej)
          have hl : j < listed.size := by omega
          simp [hl] at this hj0
          rw [this] at hj0
          cases hj0
      have h2 : wpAny P .any (ops.setIfInBounds L (noOp oL)) (lastQ P oL Q) fuel (listed.setIfInBounds L true) a w := by
        unfold wpOp at h1
        rw [Array.getElem?_setIfInBounds_self_of_lt hlt] at h1
        have hw : Region.wanted (noOp oL) (yielded (ops.setIfInBounds L (noOp oL)) a.tmps) = true := by simp [Region.wanted, noOp, hg]
        simp only [hw, if_true] at h1
        rcases h1 with h1 | h1
        · unfold Oper.wp at h1
          simpa [execOp, noOp, Oper.upon, Act.put] using h1
        · obtain ⟨h1, _⟩ := h1
          have h2 : noRoomEvent ∈ (((pure (.value (a.eval (.const (.int .i64 0)))) : Sem Next)).runT P w #[]).2 := h1.1
          have h3 : (((pure (.value (a.eval (.const (.int .i64 0)))) : Sem Next)).runT P w #[]).2 = #[] := rfl
          rw [h3] at h2
          simp at h2
      have h3 : lastQ P oL Q .normal a w := by
        cases fuel with
        | zero => exact h2.2
        | succ f => exact h2.1 (by rw [ready_swap hL]; exact hr0)
      unfold wpOp
      rw [hL]
      have hw : Region.wanted oL (yielded ops a.tmps) = true := by simp [Region.wanted, hg]
      simp only [hw, if_true]
      exact .inl (Oper.wp_mono (fun a' w' hq => wpAny_done hr0 hq fuel) h3)
    · have hu' : (listed.setIfInBounds i true).getD L true = false := by rw [getD_set_ne true (Ne.symm e)]; exact hu
      have hc' : ClosedL ops (listed.setIfInBounds i true) := by
        intro j oj hj hl ed he hbd
        by_cases ej : i = j
        · subst ej
          obtain ⟨_, o, ho, hall⟩ := mem_ready.1 hi
          rw [hj] at ho
          cases ho
          exact getD_set_true (hall ed he hbd)
        · rw [getD_set_ne false ej] at hl
          exact getD_set_true (hc j oj hj hl ed he hbd)
      have h2 := wpOp_mono (fun a' w' h => ih (listed.setIfInBounds i true) a' w' hc' (by simpa using hs) hu' h) h1
      unfold wpOp at h2 ⊢
      rw [Array.getElem?_setIfInBounds_ne e] at h2
      cases ho : ops[i]? with
      | none => simpa [ho] using h2
      | some o =>
        simp only [ho, yielded_swap hL hd] at h2 ⊢
        split
        · rename_i hw
          simp only [hw, if_true] at h2
          rcases h2 with h2 | ⟨h2, h3⟩
          · exact .inl (wpO_post (fun c a w h => h) (lets_last (P := P) (oL := oL)) h2)
          · exact .inr ⟨h2, lets_last (P := P) (oL := oL) h3⟩
        · rename_i hw
          simpa [hw] using h2
theorem wp_region_last {id : Nat} {a : Act} {w : World} (hm : P.follows .mixedOrders = true) (L : Nat) (oL : Oper) (hL : ops[L]? = some oL) (hd : oL.dst = none) (hg : oL.guard = none) (hb : lastB ops L = true) (S : World → Prop) (hS : S w.drew)
    (h : S w.drew → wpAnyH P .any (ops.setIfInBounds L (noOp oL)) (lastQ P oL Q) S ops.size (Array.replicate ops.size false) a w.drew) : (Code.region id ops true).wp P Q a w := by
  have hlt : L < ops.size := (Array.getElem?_eq_some_iff.1 hL).1
  refine wp_region_any hm (any_swap hL hd hg hb ops.size _ a _ ?_ (by simp) (by simp [hlt]) (wpAny_of_held _ _ _ _ (h hS)))
  intro j oj hj hl
  have hj' : j < ops.size := (Array.getElem?_eq_some_iff.1 hj).1
  simp [hj'] at hl
end
end Go.Proofs.Ytebbbefknfldoaa
/- The library's slices.SortFunc and slices.Equal at terms, slices.Contains at texts: the shelf's layings at this program's numbers. -/
namespace Go.Proofs
open Go.Shelf
def Try.laysSort_ren : Go.Shelf.Ren := ⟨fun | 6 => 77 | 15 => 49 | 14 => 82 | 28 => 66 | 29 => 67 | 20 => 84 | 21 => 85 | 22 => 86 | 23 => 87 | 24 => 88 | 25 => 89 | 26 => 90 | 27 => 91 | 46 => 93 | 47 => 72 | 48 => 73 | 49 => 94 | 50 => 95 | 57 => 96 | n => n, fun | 22 => 26 | 24 => 49 | 25 => 127 | 3 => 3 | 39 => 82 | 0 => 0 | 53 => 27 | 55 => 114 | 4 => 4 | 46 => 106 | 45 => 105 | 50 => 86 | 5 => 5 | 9 => 9 | 66 => 119 | 70 => 123 | 76 => 129 | 77 => 130 | n => n, fun | n => n⟩
theorem Try.laysSort : Go.Proofs.SlLaysF0.n6 Try.prog Try.laysSort_ren := {
  mixed := by kernel_rfl
  f6 := ⟨Try.f77.name, by decide, Try.func77.trans (congrArg some (by kernel_rfl))⟩
  f14 := ⟨Try.f82.name, by decide, Try.func82.trans (congrArg some (by kernel_rfl))⟩
  f15 := Try.func49.trans (congrArg some (by kernel_rfl))
  f20 := ⟨Try.f84.name, by decide, Try.func84.trans (congrArg some (by kernel_rfl))⟩
  f21 := ⟨Try.f85.name, by decide, Try.func85.trans (congrArg some (by kernel_rfl))⟩
  f22 := ⟨Try.f86.name, by decide, Try.func86.trans (congrArg some (by kernel_rfl))⟩
  f23 := ⟨Try.f87.name, by decide, Try.func87.trans (congrArg some (by kernel_rfl))⟩
  f24 := ⟨Try.f88.name, by decide, Try.func88.trans (congrArg some (by kernel_rfl))⟩
  f25 := ⟨Try.f89.name, by decide, Try.func89.trans (congrArg some (by kernel_rfl))⟩
  f26 := ⟨Try.f90.name, by decide, Try.func90.trans (congrArg some (by kernel_rfl))⟩
  f27 := ⟨Try.f91.name, by decide, Try.func91.trans (congrArg some (by kernel_rfl))⟩
  f28 := Try.func66.trans (congrArg some (by kernel_rfl))
  f29 := Try.func67.trans (congrArg some (by kernel_rfl))
  f46 := ⟨Try.f93.name, by decide, Try.func93.trans (congrArg some (by kernel_rfl))⟩
  f47 := Try.func72.trans (congrArg some (by kernel_rfl))
  f48 := Try.func73.trans (congrArg some (by kernel_rfl))
  f49 := ⟨Try.f94.name, by decide, Try.func94.trans (congrArg some (by kernel_rfl))⟩
  f50 := ⟨Try.f95.name, by decide, Try.func95.trans (congrArg some (by kernel_rfl))⟩
  f57 := ⟨Try.f96.name, by decide, Try.func96.trans (congrArg some (by kernel_rfl))⟩
  t0 := Try.underlying0
  a0 := Try.isAgg0
  z0 := Try.sizeOf0
  v0 := Try.zeroValue0
  t3 := Try.underlying3
  a3 := Try.isAgg3
  z3 := Try.sizeOf3
  v3 := Try.zeroValue3
  t4 := Try.underlying4
  a4 := Try.isAgg4
  z4 := Try.sizeOf4
  v4 := Try.zeroValue4
  t5 := Try.underlying5
  a5 := Try.isAgg5
  z5 := Try.sizeOf5
  v5 := Try.zeroValue5
  t9 := Try.underlying9
  a9 := Try.isAgg9
  z9 := Try.sizeOf9
  v9 := Try.zeroValue9
  t22 := Try.underlying26
  a22 := Try.isAgg26
  z22 := Try.sizeOf26
  v22 := Try.zeroValue26
  t25 := Try.underlying127
  a25 := Try.isAgg127
  z25 := Try.sizeOf127
  v25 := Try.zeroValue127
  t39 := Try.underlying82
  a39 := Try.isAgg82
  z39 := Try.sizeOf82
  v39 := Try.zeroValue82
  t45 := Try.underlying105
  a45 := Try.isAgg105
  z45 := Try.sizeOf105
  v45 := Try.zeroValue105
  t46 := Try.underlying106
  a46 := Try.isAgg106
  z46 := Try.sizeOf106
  v46 := Try.zeroValue106
  t50 := Try.underlying86
  a50 := Try.isAgg86
  z50 := Try.sizeOf86
  v50 := Try.zeroValue86
  t53 := Try.underlying27
  a53 := Try.isAgg27
  z53 := Try.sizeOf27
  v53 := Try.zeroValue27
  t55 := Try.underlying114
  a55 := Try.isAgg114
  z55 := Try.sizeOf114
  v55 := Try.zeroValue114
  t66 := Try.underlying119
  a66 := Try.isAgg119
  z66 := Try.sizeOf119
  v66 := Try.zeroValue119
  t70 := Try.underlying123
  a70 := Try.isAgg123
  z70 := Try.sizeOf123
  v70 := Try.zeroValue123
  t76 := Try.underlying129
  a76 := Try.isAgg129
  z76 := Try.sizeOf129
  v76 := Try.zeroValue129
  t77 := Try.underlying130
  a77 := Try.isAgg130
  z77 := Try.sizeOf130
  v77 := Try.zeroValue130 }
end Go.Proofs
/- A scope whose run jumps among many labels: what it is to go on from a label ('Lands'), one law a jump, one for the scope; proofs by plain induction. -/
namespace Go.Proofs.Ytebbbefknfldoaa
open Go.ChangeShapes Go.WideShapes Go.ChangeAt Go.RowKit
set_option linter.unusedVariables false
set_option maxRecDepth 100000
def Lands (P : Program) (c : Code) (Q : Exit → Act → World → Prop) (l : Nat) (a : Act) (w : World) : Prop :=
  ∃ rest, findLabel c l = some rest ∧ ∀ (b : Frame) (k : List Item) (cs : List Frame),
    ∃ e a' w', Q e a' w' ∧ Arrives P (lone (b.at a (.code rest :: .inScope c :: k)) cs w) b k cs e a' w'
def jumps (J : Nat → Act → World → Prop) (Q : Exit → Act → World → Prop) : Exit → Act → World → Prop
  | .goto l, a, w => J l a w
  | e, a, w => Q e a w
section
variable {P : Program} {Q : Exit → Act → World → Prop} {a : Act} {w : World} {J : Nat → Act → World → Prop}
theorem arrives_scope {c rest : Code} (h : rest.wp P (jumps (Lands P c Q) Q) a w) (b : Frame) (k : List Item) (cs : List Frame) :
    ∃ e a' w', Q e a' w' ∧ Arrives P (lone (b.at a (.code rest :: .inScope c :: k)) cs w) b k cs e a' w' := by
  obtain ⟨e, a₁, w₁, hq, harr⟩ := h b (.inScope c :: k) cs
  cases e with
  | normal => exact ⟨.normal, a₁, w₁, hq, Steps.trans harr (.one step_inScope)⟩
  | exit id => exact ⟨.exit id, a₁, w₁, hq, fun k' hk => harr k' (by simp [exitTo, hk])⟩
  | goto l =>
    obtain ⟨rest', hf, hrest⟩ := hq
    obtain ⟨e₂, a₂, w₂, hq₂, harr₂⟩ := hrest b k cs
    have hg : gotoIn l (.inScope c :: k) = some (.code rest' :: .inScope c :: k) := by simp [gotoIn, hf]
    exact ⟨e₂, a₂, w₂, hq₂, .of_steps (harr _ hg) harr₂⟩
  | ret => exact ⟨_, a₁, w₁, hq, harr⟩
  | panic ch => exact ⟨_, a₁, w₁, hq, harr⟩
  | outgrown => exact ⟨_, a₁, w₁, hq, harr⟩
theorem Lands.of {c rest : Code} {l : Nat} (hf : findLabel c l = some rest) (h : rest.wp P (jumps (Lands P c Q) Q) a w) : Lands P c Q l a w :=
  ⟨rest, hf, fun b k cs => arrives_scope h b k cs⟩
end
end Go.Proofs.Ytebbbefknfldoaa
/- Contracts of lex's small functions that only compute, and of the document's: kinds of bytes, a digit's number, the byte at a place. -/
namespace Go.Proofs.Ytebbbefknfldoaa
open Go.ChangeShapes Go.WideShapes Go.ChangeAt Go.RowKit
set_option linter.unusedVariables false
set_option maxRecDepth 100000
def isBl (c : Int) : Bool := c == 9 || c == 13 || c == 32
def isLet (c : Int) : Bool := decide (97 ≤ c ∧ c ≤ 122) || decide (65 ≤ c ∧ c ≤ 90) || c == 95
def isDig (c : Int) : Bool := decide (48 ≤ c ∧ c ≤ 57)
def inW (c : Int) : Bool := isLet c || isDig c
def isHex (c : Int) : Bool := isDig c || decide (97 ≤ c ∧ c ≤ 102)
def isQuo (c : Int) : Bool := decide (32 ≤ c ∧ c ≤ 126) && c != 39
def isSg (c : Int) : Bool := c == 58 || c == 44 || c == 40 || c == 41 || c == 43 || c == 45 || c == 42 || c == 61
def digI (c : Int) : Int := if 48 ≤ c ∧ c ≤ 57 then c - 48 else c - 97 + 10
def bs (s : ByteArray) : List UInt8 := s.data.toList
def atI (l : List UInt8) (k : Nat) : Int := ((l.getD k 0).toNat : Int)
theorem bs_length (s : ByteArray) : (bs s).length = s.size := (Lib.size_eq s).symm
theorem atI_lo (l : List UInt8) (k : Nat) : 0 ≤ atI l k := by unfold atI; omega
theorem atI_hi (l : List UInt8) (k : Nat) : atI l k ≤ 255 := by
  unfold atI
  have := UInt8.toNat_lt (l.getD k 0)
  omega
theorem atI_get (s : ByteArray) (k : Nat) (h : k < s.size) : ((s[k].toNat : Nat) : Int) = atI (bs s) k := by
  unfold atI bs
  have : s.data.toList.getD k 0 = s[k] := by
    rw [List.getD_eq_getElem?_getD]
    have h' : k < s.data.toList.length := by rw [← Lib.size_eq]; exact h
    rw [List.getElem?_eq_getElem h']
    rfl
  rw [this]
theorem ret_bool {x y : Bool} {w : World} (h : x = y) : Ending.returned (.bool x) = Ending.returned (.bool y) ∧ w = w := ⟨by rw [h], rfl⟩
theorem refLetter_any (c : Int) (w : World) :
    Calls Try.prog 50 #[.int .u8 c] w fun e w' => e = .returned (.bool (isLet c)) ∧ w' = w := by
  go_enter Try.func50, Try.ntmps50
  go_wp2
  all_goals
    go_ret
    refine ret_bool ?_
    first
      | rfl
      | (rw [Bool.eq_iff_iff]; simp [isLet]; try omega)
theorem refDigit_any (c : Int) (w : World) :
    Calls Try.prog 51 #[.int .u8 c] w fun e w' => e = .returned (.bool (isDig c)) ∧ w' = w := by
  go_enter Try.func51, Try.ntmps51
  go_wp2
  all_goals
    go_ret
    refine ret_bool ?_
    first
      | rfl
      | (rw [Bool.eq_iff_iff]; simp [isDig]; try omega)
end Go.Proofs.Ytebbbefknfldoaa
/- What a number, a token and the tokens of a text are, as functions on its bytes. -/
namespace Go.Proofs.Ytebbbefknfldoaa
set_option linter.unusedVariables false
set_option maxRecDepth 100000
def lenW (p : Int → Bool) (r : List UInt8) : Nat := (r.takeWhile fun b => p (b.toNat : Int)).length
theorem atI_zero_cons (b : UInt8) (r : List UInt8) : atI (b :: r) 0 = (b.toNat : Int) := rfl
theorem atI_succ_cons (b : UInt8) (r : List UInt8) (k : Nat) : atI (b :: r) (k + 1) = atI r k := by simp [atI]
theorem atI_nil (k : Nat) : atI [] k = 0 := by simp [atI]
theorem lenW_stop (p : Int → Bool) (r : List UInt8) (h : p (atI r 0) = false) : lenW p r = 0 := by
  cases r with
  | nil => rfl
  | cons b r => simp [lenW, List.takeWhile, atI_zero_cons] at h ⊢; simp [h]
theorem lenW_more (p : Int → Bool) (hp : p 0 = false) (r : List UInt8) (h : p (atI r 0) = true) : lenW p r = lenW p (r.drop 1) + 1 ∧ 0 < r.length := by
  cases r with
  | nil => rw [atI_nil, hp] at h; cases h
  | cons b r => simp [lenW, List.takeWhile, atI_zero_cons] at h ⊢; simp [h]
theorem lenW_le (p : Int → Bool) (r : List UInt8) : lenW p r ≤ r.length := by
  unfold lenW
  exact (List.takeWhile_sublist _).length_le
theorem lenW_end (p : Int → Bool) (hp : p 0 = false) (r : List UInt8) : p (atI r (lenW p r)) = false := by
  induction r with
  | nil => simpa [atI_nil] using hp
  | cons b r ih =>
    cases h : p (b.toNat : Int)
    · rw [lenW_stop p _ (by rw [atI_zero_cons]; exact h), atI_zero_cons]; exact h
    · have := (lenW_more p hp (b :: r) (by rw [atI_zero_cons]; exact h)).1
      rw [this, List.drop_one, List.tail_cons, atI_succ_cons]
      exact ih
theorem lenW_in (p : Int → Bool) (r : List UInt8) (k : Nat) (h : k < lenW p r) : p (atI r k) = true := by
  induction r generalizing k with
  | nil => simp [lenW] at h
  | cons b r ih =>
    cases hb : p (b.toNat : Int)
    · rw [lenW_stop p _ (by rw [atI_zero_cons]; exact hb)] at h; omega
    · cases k with
      | zero => rw [atI_zero_cons]; exact hb
      | succ k =>
        rw [atI_succ_cons]
        apply ih
        simp [lenW, List.takeWhile, hb] at h ⊢
        exact h
theorem inW_zero : inW 0 = false := rfl
def val (base : Int) (n : Int) (ds : List UInt8) : Int := ds.foldl (fun n b => base * n + digI (b.toNat : Int)) n
def hexLen (k : Nat) (r : List UInt8) : Nat := min k (lenW isHex r)
def numAt (r : List UInt8) : Option (Int × Nat) :=
  if atI r 0 = 39 then (if isQuo (atI r 1) = true ∧ atI r 2 = 39 then some (atI r 1, 3) else none)
  else if atI r 0 = 48 ∧ atI r 1 = 120 then
    (if hexLen 8 (r.drop 2) = 0 ∨ inW (atI r (2 + hexLen 8 (r.drop 2))) = true then none else some (val 16 0 ((r.drop 2).take (hexLen 8 (r.drop 2))), 2 + hexLen 8 (r.drop 2)))
  else if atI r 0 = 48 then (if inW (atI r 1) = true then none else some (0, 1))
  else (if 4294967295 < val 10 0 (r.take (lenW isDig r)) ∨ inW (atI r (lenW isDig r)) = true then none else some (val 10 0 (r.take (lenW isDig r)), lenW isDig r))
def numN (r : List UInt8) : Int := match numAt r with | some (n, _) => n | none => 0
def numL (r : List UInt8) : Nat := match numAt r with | some (_, k) => k | none => 0
def Res (N T : Int) (at_ : Nat) (bad : Prop) (v : Int) (k : Nat) : Prop := (bad → N = 0 ∧ T = (at_ : Int)) ∧ (¬ bad → N = v ∧ T = (k : Int))
theorem Res.bad {N T : Int} {at_ : Nat} {bad : Prop} {v : Int} {k : Nat} (h : Res N T at_ bad v k) (hb : bad) : N = 0 ∧ T = (at_ : Int) := h.1 hb
theorem Res.good {N T : Int} {at_ : Nat} {bad : Prop} {v : Int} {k : Nat} (h : Res N T at_ bad v k) (hb : ¬ bad) : N = v ∧ T = (k : Int) := h.2 hb
theorem Res.turn {N T : Int} {at_ : Nat} {bad bad' : Prop} {v v' : Int} {k k' : Nat} (h : Res N T at_ bad v k) (hb : bad' ↔ bad) (hv : v' = v) (hk : k' = k) : Res N T at_ bad' v' k' := by
  subst hv hk
  exact ⟨fun x => h.1 (hb.1 x), fun x => h.2 fun y => x (hb.2 y)⟩
structure Tok where
  kind : Int
  text : List UInt8
  num : Int
  place : Nat
def tokAt (r : List UInt8) : Option (Int × Int × Nat) :=
  if isLet (atI r 0) = true then (if lenW inW r ≤ 32 then some (1, 0, lenW inW r) else none)
  else if isDig (atI r 0) = true ∨ atI r 0 = 39 then
    (if numL r = 0 then none else some (2, numN r, numL r))
  else if isSg (atI r 0) = true then some (3, 0, 1)
  else none
def scan (r : List UInt8) (at_ : Nat) : Except Nat (List Tok) :=
  match r with
  | [] => .ok []
  | b :: r' =>
    if (b.toNat : Int) = 59 then .ok []
    else if isBl (b.toNat : Int) = true then scan r' (at_ + 1)
    else match tokAt (b :: r') with
      | none => .error at_
      | some (kind, n, k) =>
        match scan (r'.drop (k - 1)) (at_ + k) with
        | .ok ts => .ok ({ kind := kind, text := (b :: r').take k, num := n, place := at_ } :: ts)
        | .error p => .error p
  termination_by r.length
  decreasing_by all_goals simp; try omega
end Go.Proofs.Ytebbbefknfldoaa
/- lex.numberAt: the number at a place, and the place behind it. -/
namespace Go.Proofs.Ytebbbefknfldoaa
open Go.ChangeShapes Go.WideShapes Go.ChangeAt Go.RowKit
set_option linter.unusedVariables false
set_option maxRecDepth 100000
theorem Hid.intro {p : Prop} (h : p) : Hid p := h
end Go.Proofs.Ytebbbefknfldoaa
/- strings.Clone: the same bytes, in new memory. -/
namespace Go.Proofs.Ytebbbefknfldoaa
open Go.ChangeShapes Go.WideShapes Go.ChangeAt Go.RowKit
set_option linter.unusedVariables false
theorem Try.info5 : (Try.prog.info? 5).map (fun i => (i.zero, i.size, i.bytes)) = some (some (.int .u8 0), 1, 1) := by kernel_rfl
set_option maxHeartbeats 4000000 in
set_option maxRecDepth 100000 in
theorem liteClone_any (s : ByteArray) (w : World) (hlim : s.size ≤ 281474976710656) :
    Calls Try.prog 45 #[.string s] w fun e w' => e = .returned (.string s) ∧ Below w.heap.size w w' := by
  by_cases h0 : s.size = 0
  · have hs : s = ⟨#[]⟩ := by
      apply ByteArray.ext
      exact Array.eq_empty_of_size_eq_zero h0
    subst hs
    go_enter Try.func45, Try.ntmps45
    go_wp2
    go_ret
    exact ⟨rfl, Below.refl _ _⟩
  · obtain ⟨i0, hi, hz0, hz1, hz2⟩ := info_parts Try.info5
    have hinfo : (Try.prog.info? 5).map (·.size) = some 1 := by rw [hi]; simp [hz1]
    have hco : Try.prog.cellsOf 5 = 1 := by simp [Program.cellsOf, hi, hz1]
    obtain ⟨M, hM⟩ : ∃ M, M = madeCells (Value.int .u8 0).cells (((s.size : Nat) : Int).toNat * i0.size) := ⟨_, rfl⟩
    have hMs : M.size = s.size := by rw [hM, size_madeCells, hz1]; simp
    have hmk : ∀ W : World, (Instr.makeSlice 102 (.int .i64 (s.size : Int)) (.int .i64 (s.size : Int))).run Try.prog W = .ok (.slice (some ⟨W.heap.size, 0, none⟩) s.size s.size) (W.alloc (.cells M 5)) := fun W => by
      have h := run_make (P := Try.prog) W 102 5 i0 (.int .u8 0) Try.underlying102 hi hz0 .i64 .i64 (s.size : Int) (s.size : Int) (by omega) (by omega) (by rw [hz2]; omega) (by omega)
      rw [← hM] at h
      simpa using h
    clear hM
    have hcp := Lib.run_copy_row_string (P := Try.prog) (w.alloc (.cells M 5)) 102 9 3 5 w.heap.size 0 s.size s.size s M 5 Try.underlying102 hinfo (heap_alloc_new w _) (Nat.le_refl _) (by omega)
    obtain ⟨Y, hY⟩ : ∃ Y, Y = (M.toList.take 0 ++ Lib.byteCells s.data.toList ++ M.toList.drop (0 + s.size)).toArray := ⟨_, rfl⟩
    rw [← hY] at hcp
    have hYl : Y.toList = Lib.byteCells s.data.toList := by
      rw [hY, List.toList_toArray, List.take_zero, List.nil_append, List.drop_of_length_le (by rw [Array.length_toList]; omega), List.append_nil]
    have hYs : Y.size = s.size := by rw [← Array.length_toList, hYl, Lib.byteCells_length, ← Lib.size_eq]
    have hgY : ((w.alloc (.cells M 5)).setRow w.heap.size Y).heap[w.heap.size]? = some (.cells Y 5 (0, 0)) := setRow_heap _ _ M _ 5 (0, 0) (heap_alloc_new w _)
    have hne : s.data.toList ≠ [] := fun e => h0 (by rw [Lib.size_eq, e]; rfl)
    have hUS := Lib.run_unsafeString_row (P := Try.prog) ((w.alloc (.cells M 5)).setRow w.heap.size Y) 103 3 9 5 Try.underlying103 hco w.heap.size Y.size (by unfold World.shape?; rw [hgY]) s.data.toList hne (by rw [← Lib.size_eq]; omega) (by rw [← Lib.size_eq]; omega)
      (fun j x hx => Lib.cells_of_row hgY Y.size j _ (by rw [List.take_of_length_le (by rw [Array.length_toList]; exact Nat.le_refl _), hYl]; simp [Lib.byteCells, hx]))
    rw [← Lib.size_eq] at hUS
    clear hY
    go_enter Try.func45, Try.ntmps45
    go_wp2
    go_ret
    have hb1 : Below w.heap.size w (w.alloc (.cells M 5)) := (Below.refl _ w).alloc (Nat.le_refl _) _
    have hb2 : Below w.heap.size (w.alloc (.cells M 5)) ((w.alloc (.cells M 5)).setRow w.heap.size Y) := ⟨rfl, rfl, rfl, by simp, fun k hk => setRow_other _ _ _ _ (by omega)⟩
    exact ⟨rfl, Lib.below_freeze (hb1.trans hb2) (p := ⟨w.heap.size, 0, none⟩) (Nat.le_refl _) _⟩
theorem clone_any (s : ByteArray) (w : World) (hlim : s.size ≤ 281474976710656) :
    Calls Try.prog 29 #[.string s] w fun e w' => e = .returned (.string s) ∧ Below w.heap.size w w' := by
  go_enter Try.func29, Try.ntmps29
  go_wp2_with (go_at_call 45; refine (liteClone_any _ _ hlim).mono ?_; rintro e w' ⟨rfl, hb⟩)
  go_ret
  exact ⟨rfl, hb⟩
end Go.Proofs.Ytebbbefknfldoaa
/- lex.Tokens: the tokens of a text. -/
namespace Go.Proofs.Ytebbbefknfldoaa
open Go.ChangeShapes Go.WideShapes Go.ChangeAt Go.RowKit
set_option linter.unusedVariables false
set_option maxRecDepth 100000
def str (l : List UInt8) : ByteArray := ⟨l.toArray⟩
def Tok.cells (t : Tok) : List Value := [.int .i64 t.kind, .string (str t.text), .int .u32 t.num, .int .i64 (t.place : Int)]
theorem cells_new (w : World) (cs : Array Value) (T : TypeId) : ∀ j u, cs.toList[j]? = some u → (w.alloc (.cells cs T)).cell? ((⟨w.heap.size, 0, none⟩ : Addr).add j) = some u := by
  intro j u h
  refine Lib.cells_of_row (heap_alloc_new w _) cs.size j u ?_
  rw [List.take_of_length_le (by simp)]
  exact h
end Go.Proofs.Ytebbbefknfldoaa
/- The scan of a text, place by place. -/
namespace Go.Proofs.Ytebbbefknfldoaa
set_option linter.unusedVariables false
set_option maxRecDepth 100000
theorem inW_of_let (c : Int) (h : isLet c = true) : inW c = true := by simp [inW, h]
def ext (acc : List Tok) : Except Nat (List Tok) → Except Nat (List Tok)
  | .ok ts => .ok (acc ++ ts)
  | .error p => .error p
end Go.Proofs.Ytebbbefknfldoaa
/- lex.Tokens: the tokens of a text: the contract. -/
namespace Go.Proofs.Ytebbbefknfldoaa
open Go.ChangeShapes Go.WideShapes Go.ChangeAt Go.RowKit
set_option linter.unusedVariables false
set_option maxRecDepth 100000
theorem Lands.tail {P : Program} {c : Code} {l : Nat} {X : Code} {Q : Exit → Act → World → Prop} {a : Act} {w : World} (hX : findLabel c l = some (.seq .skip X)) (h : X.wp P (jumps (Lands P c Q) Q) a w) : Lands P c Q l a w :=
  Lands.of hX (wp_seq (wp_skip h))
end Go.Proofs.Ytebbbefknfldoaa
namespace Go.Proofs.Ytebbbefknfldoaa
open Go.ChangeShapes Go.WideShapes Go.ChangeAt Go.RowKit
set_option linter.unusedVariables false
set_option maxRecDepth 100000
structure TokAt (w : World) (g i : Nat) (t : Tok) : Prop where
  kind : w.cell? ⟨g, i * 4, none⟩ = some (.int .i64 t.kind)
  text : w.cell? ⟨g, i * 4 + 1, none⟩ = some (.string (str t.text))
  num : w.cell? ⟨g, i * 4 + 2, none⟩ = some (.int .u32 t.num)
  place : w.cell? ⟨g, i * 4 + 3, none⟩ = some (.int .i64 (t.place : Int))
theorem TokAt.below {w w' : World} {g i : Nat} {t : Tok} {B : Nat} (h : TokAt w g i t) (hb : Below B w w') (hg : g < B) : TokAt w' g i t :=
  ⟨by rw [hb.cell (p := ⟨g, i * 4, none⟩) hg]; exact h.kind, by rw [hb.cell (p := ⟨g, i * 4 + 1, none⟩) hg]; exact h.text, by rw [hb.cell (p := ⟨g, i * 4 + 2, none⟩) hg]; exact h.num, by rw [hb.cell (p := ⟨g, i * 4 + 3, none⟩) hg]; exact h.place⟩
theorem str_toList (l : List UInt8) : (str l).toList = l := by
  rw [Lib.toList_data]
  rfl
end Go.Proofs.Ytebbbefknfldoaa

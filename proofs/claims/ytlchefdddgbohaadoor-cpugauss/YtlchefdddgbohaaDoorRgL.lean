/- A region that draws its order and whose last operation, a store, waits for all others: the loads among them are taken first under a condition that the store itself ends. -/
import Derived.Test.YtlchefdddgbohaaDoorProg
import Derived.Deep.RegionHeld3
namespace Go.Proofs.YtlchefdddgbohaaDoor
set_option linter.unusedVariables false

/-- what an operation waits for -/
def onsOf (ops : Array Oper) (j : Nat) : List Nat := ((ops[j]?).map fun o => (o.after.toList.filter fun e => Region.binds .any e).map (·.on)).getD []
def markF (ops : Array Oper) : Nat → List Nat → List Nat
  | 0, s => s
  | j + 1, s => markF ops j (if s.contains j then onsOf ops j ++ s else s)
/-- all wait behind L, and each waits for elder ones alone -/
def lastB (ops : Array Oper) (L : Nat) : Bool := (List.range ops.size).all fun j => (markF ops ops.size [L]).contains j && (onsOf ops j).all fun i => decide (i < j)

def ClosedL (ops : Array Oper) (listed : Array Bool) : Prop := ∀ j oj, ops[j]? = some oj → listed.getD j false = true → ∀ e ∈ oj.after, Region.binds .any e = true → listed.getD e.on false = true

theorem mem_ons {ops : Array Oper} {j i : Nat} : i ∈ onsOf ops j ↔ ∃ o, ops[j]? = some o ∧ ∃ e ∈ o.after, Region.binds .any e = true ∧ e.on = i := by
  unfold onsOf
  cases h : ops[j]? with
  | none => simp
  | some o => simp [and_assoc]

theorem mark_listed {ops : Array Oper} {listed : Array Bool} (hc : ClosedL ops listed) {L : Nat} (hL : L ∈ Region.ready .any ops listed) : ∀ (n : Nat) (s : List Nat), (∀ j ∈ s, j = L ∨ listed.getD j false = true) → ∀ j ∈ markF ops n s, j = L ∨ listed.getD j false = true := by
  intro n
  induction n with
  | zero => intro s h; exact h
  | succ n ih =>
    intro s h
    refine ih _ ?_
    by_cases hn : s.contains n = true
    · rw [if_pos hn]
      intro j hj
      rcases List.mem_append.1 hj with hj | hj
      · obtain ⟨o, ho, e, he, hb, rfl⟩ := mem_ons.1 hj
        right
        rcases h n (by simpa using hn) with rfl | hl
        · obtain ⟨_, o', ho', hall⟩ := mem_ready.1 hL
          rw [ho] at ho'
          cases ho'
          exact hall e he hb
        · exact hc n o ho hl e he hb
      · exact h j hj
    · rw [if_neg hn]
      exact h

theorem last_all {ops : Array Oper} {listed : Array Bool} (hc : ClosedL ops listed) {L : Nat} (hL : L ∈ Region.ready .any ops listed) (hb : lastB ops L = true) {j : Nat} (hj : j < ops.size) (hne : j ≠ L) : listed.getD j false = true := by
  have h := List.all_eq_true.1 hb j (List.mem_range.2 hj)
  simp only [Bool.and_eq_true] at h
  rcases mark_listed hc hL ops.size [L] (fun i hi => .inl (by simpa using hi)) j (by simpa using h.1) with h1 | h1
  · exact absurd h1 hne
  · exact h1

theorem some_ready {ops : Array Oper} {listed : Array Bool} {L : Nat} (hb : lastB ops L = true) (hs : listed.size = ops.size) : ∀ (n : Nat), n < ops.size → listed.getD n true = false → Region.ready .any ops listed ≠ [] := by
  intro n
  induction n using Nat.strongRecOn with
  | _ n ih =>
    intro hn hl h0
    by_cases hr : n ∈ Region.ready .any ops listed
    · rw [h0] at hr; cases hr
    · have h := List.all_eq_true.1 hb n (List.mem_range.2 hn)
      simp only [Bool.and_eq_true, List.all_eq_true, decide_eq_true_eq] at h
      apply hr
      refine mem_ready.2 ⟨hl, ops[n], Array.getElem?_eq_getElem hn, fun e he hbd => ?_⟩
      have hlt := h.2 e.on (mem_ons.2 ⟨_, Array.getElem?_eq_getElem hn, e, he, hbd, rfl⟩)
      cases hd : listed.getD e.on false with
      | true => rfl
      | false =>
        exfalso
        refine ih e.on hlt (by omega) ?_ h0
        have : e.on < listed.size := by omega
        simp [this] at hd ⊢
        exact hd

/-- in the last one's place -/
def noOp (o : Oper) : Oper := { o with op := .move (.const (.int .i64 0)), dst := none }
def lastQ (P : Program) (oL : Oper) (Q : Exit → Act → World → Prop) : Exit → Act → World → Prop := fun e a w => match e with
  | .normal => oL.wp P a w (fun a' w' => Q .normal a' w') Q
  | e => Q e a w

section
variable {P : Program} {ops : Array Oper} {Q : Exit → Act → World → Prop} {L : Nat} {oL : Oper}

theorem ready_swap (hL : ops[L]? = some oL) (listed : Array Bool) : Region.ready .any (ops.setIfInBounds L (noOp oL)) listed = Region.ready .any ops listed := by
  unfold Region.ready
  rw [Array.size_setIfInBounds]
  congr 1
  funext i
  by_cases h : L = i
  · subst h
    have hlt : L < ops.size := (Array.getElem?_eq_some_iff.1 hL).1
    rw [Array.getElem?_setIfInBounds_self_of_lt hlt, hL]
    rfl
  · rw [Array.getElem?_setIfInBounds_ne h]

theorem yielded_swap (hL : ops[L]? = some oL) (hd : oL.dst = none) (tmps : Array Value) : yielded (ops.setIfInBounds L (noOp oL)) tmps = yielded ops tmps := by
  funext i
  unfold yielded
  by_cases h : L = i
  · subst h
    have hlt : L < ops.size := (Array.getElem?_eq_some_iff.1 hL).1
    rw [Array.getElem?_setIfInBounds_self_of_lt hlt, hL]
    simp [noOp, hd]
  · rw [Array.getElem?_setIfInBounds_ne h]

theorem wpO_post {o : Oper} {a : Act} {w : World} {K : Act → World → Prop} {Q Q2 : Exit → Act → World → Prop} (hp : ∀ c a w, Q2 (.panic c) a w → Q (.panic c) a w) (ho : LetsOut Q2 → LetsOut Q) (h : o.wp P a w K Q2) : o.wp P a w K Q := by
  unfold Oper.wp at *
  generalize (execOp a.eval o).run P w = r at *
  cases r with
  | ok n w' =>
    cases n <;> simp only [Oper.upon] at h ⊢ <;>
      first
        | exact h
        | exact Calls.mono h (fun e w'' he => by cases e <;> first | exact he | exact hp _ _ _ he | exact ho he)
  | halt x w' => cases x <;> simp only [Oper.upon] at h ⊢ <;> exact hp _ _ _ h

theorem lets_last (h : LetsOut (lastQ P oL Q)) : LetsOut Q := h

theorem any_swap (hL : ops[L]? = some oL) (hd : oL.dst = none) (hg : oL.guard = none) (hb : lastB ops L = true) :
    ∀ (fuel : Nat) (listed : Array Bool) (a : Act) (w : World), ClosedL ops listed → listed.size = ops.size → listed.getD L true = false → wpAny P .any (ops.setIfInBounds L (noOp oL)) (lastQ P oL Q) fuel listed a w → wpAny P .any ops Q fuel listed a w := by
  have hlt : L < ops.size := (Array.getElem?_eq_some_iff.1 hL).1
  intro fuel
  induction fuel with
  | zero =>
    intro listed a w hc hs hu h
    exact absurd (by rw [← ready_swap hL]; exact h.1) (some_ready hb hs L hlt hu)
  | succ fuel ih =>
    intro listed a w hc hs hu h
    refine ⟨fun h0 => absurd h0 (some_ready hb hs L hlt hu), fun i hi => ?_⟩
    have h1 := h.2 i (by rw [ready_swap hL]; exact hi)
    by_cases e : L = i
    · subst e
      have hr0 : Region.ready .any ops (listed.setIfInBounds L true) = [] := by
        apply List.eq_nil_iff_forall_not_mem.2
        intro j hj
        obtain ⟨hj0, o, ho, _⟩ := mem_ready.1 hj
        have hjs : j < ops.size := (Array.getElem?_eq_some_iff.1 ho).1
        by_cases ej : L = j
        · subst ej
          have : L < listed.size := by omega
          simp [this] at hj0
        · rw [getD_set_ne true ej] at hj0
          have := last_all hc hi hb hjs (Ne.symm ej)
          have hl : j < listed.size := by omega
          simp [hl] at this hj0
          rw [this] at hj0
          cases hj0
      have h2 : wpAny P .any (ops.setIfInBounds L (noOp oL)) (lastQ P oL Q) fuel (listed.setIfInBounds L true) a w := by
        unfold wpOp at h1
        rw [Array.getElem?_setIfInBounds_self_of_lt hlt] at h1
        have hw : Region.wanted (noOp oL) (yielded (ops.setIfInBounds L (noOp oL)) a.tmps) = true := by simp [Region.wanted, noOp, hg]
        simp only [hw, if_true] at h1
        rcases h1 with h1 | h1
        · unfold Oper.wp at h1
          simpa [execOp, noOp, Oper.upon, Act.put] using h1
        · obtain ⟨h1, _⟩ := h1
          have h2 : noRoomEvent ∈ (((pure (.value (a.eval (.const (.int .i64 0)))) : Sem Next)).runT P w #[]).2 := h1.1
          have h3 : (((pure (.value (a.eval (.const (.int .i64 0)))) : Sem Next)).runT P w #[]).2 = #[] := rfl
          rw [h3] at h2
          simp at h2
      have h3 : lastQ P oL Q .normal a w := by
        cases fuel with
        | zero => exact h2.2
        | succ f => exact h2.1 (by rw [ready_swap hL]; exact hr0)
      unfold wpOp
      rw [hL]
      have hw : Region.wanted oL (yielded ops a.tmps) = true := by simp [Region.wanted, hg]
      simp only [hw, if_true]
      exact .inl (Oper.wp_mono (fun a' w' hq => wpAny_done hr0 hq fuel) h3)
    · have hu' : (listed.setIfInBounds i true).getD L true = false := by rw [getD_set_ne true (Ne.symm e)]; exact hu
      have hc' : ClosedL ops (listed.setIfInBounds i true) := by
        intro j oj hj hl ed he hbd
        by_cases ej : i = j
        · subst ej
          obtain ⟨_, o, ho, hall⟩ := mem_ready.1 hi
          rw [hj] at ho
          cases ho
          exact getD_set_true (hall ed he hbd)
        · rw [getD_set_ne false ej] at hl
          exact getD_set_true (hc j oj hj hl ed he hbd)
      have h2 := wpOp_mono (fun a' w' h => ih (listed.setIfInBounds i true) a' w' hc' (by simpa using hs) hu' h) h1
      unfold wpOp at h2 ⊢
      rw [Array.getElem?_setIfInBounds_ne e] at h2
      cases ho : ops[i]? with
      | none => simpa [ho] using h2
      | some o =>
        simp only [ho, yielded_swap hL hd] at h2 ⊢
        split
        · rename_i hw
          simp only [hw, if_true] at h2
          rcases h2 with h2 | ⟨h2, h3⟩
          · exact .inl (wpO_post (fun c a w h => h) (lets_last (P := P) (oL := oL)) h2)
          · exact .inr ⟨h2, lets_last (P := P) (oL := oL) h3⟩
        · rename_i hw
          simpa [hw] using h2

/-- the beginning -/
theorem wp_region_last {id : Nat} {a : Act} {w : World} (hm : P.follows .mixedOrders = true) (L : Nat) (oL : Oper) (hL : ops[L]? = some oL) (hd : oL.dst = none) (hg : oL.guard = none) (hb : lastB ops L = true) (S : World → Prop) (hS : S w.drew)
    (h : S w.drew → wpAnyH P .any (ops.setIfInBounds L (noOp oL)) (lastQ P oL Q) S ops.size (Array.replicate ops.size false) a w.drew) : (Code.region id ops true).wp P Q a w := by
  have hlt : L < ops.size := (Array.getElem?_eq_some_iff.1 hL).1
  refine wp_region_any hm (any_swap hL hd hg hb ops.size _ a _ ?_ (by simp) (by simp [hlt]) (wpAny_of_held _ _ _ _ (h hS)))
  intro j oj hj hl
  have hj' : j < ops.size := (Array.getElem?_eq_some_iff.1 hj).1
  simp [hj'] at hl
end
end Go.Proofs.YtlchefdddgbohaaDoor

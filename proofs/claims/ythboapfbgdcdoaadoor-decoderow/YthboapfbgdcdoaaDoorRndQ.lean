/- A region that draws its order and only reads, inside a round of a range over a function: walked once. -/
import Derived.Test.YthboapfbgdcdoaaDoorRng
import Derived.Sort.QuietThIn
import Derived.Sort.QuietTacIn
import Derived.Sort.QuietIn
namespace Go.Proofs.YthboapfbgdcdoaaDoor
open Go.ChangeShapes Go.WideShapes Go.ChangeAt Go.RowKit Go.Shelf
set_option linter.unusedVariables false
set_option maxRecDepth 100000

/-- no deferred call -/
def notDefer (o : Oper) : Bool := match o.op with
  | .defer _ => false
  | _ => true

theorem op_round {n r : Nat} {P : Program} {o : Oper} {a : Act} {w : World} {K : Act → World → Prop} {Q : Exit → Act → World → Prop} (hd : notDefer o = true) (h : o.wpIn Fence.wide n P a w K Q) : o.wpIn (Fence.wide.inRound r) n P a w K Q := by
  have hs : Oper.semAt (some r) a.eval o = execOp a.eval o := Oper.semAt_some r _ o (fun c hc => by simp [notDefer, hc] at hd)
  unfold Oper.wpIn at h ⊢
  refine ⟨h.1, ?_⟩
  have h2 := h.2
  change o.uponIn Fence.wide n P a K Q ((o.semAt none a.eval).run P w) at h2
  rw [Oper.semAt_none] at h2
  show o.uponIn (Fence.wide.inRound r) n P a K Q ((o.semAt (some r) a.eval).run P w)
  rw [hs]
  exact h2

theorem any_round {n r : Nat} {P : Program} {md : Region.Mode} {ops : Array Oper} {Q : Exit → Act → World → Prop} (hd : ∀ (i : Nat) (o : Oper), ops[i]? = some o → notDefer o = true) :
    ∀ (fuel : Nat) (listed : Array Bool) (a : Act) (w : World), wpAnyIn Fence.wide n P md ops Q fuel listed a w → wpAnyIn (Fence.wide.inRound r) n P md ops Q fuel listed a w
  | 0, _, _, _, h => h
  | fuel + 1, _, _, _, h => ⟨h.1, fun i hi => by
      have h2 := wpOpIn_mono (fun a w => any_round (r := r) hd fuel _ a w) (h.2 i hi)
      unfold wpOpIn at h2 ⊢
      split
      · rename_i e
        simp only [e] at h2
        exact h2
      · rename_i o e
        simp only [e] at h2
        split
        · rename_i hw
          simp only [hw, if_true] at h2
          exact op_round (hd i o e) h2
        · rename_i hw
          simp only [hw] at h2
          exact h2⟩

theorem region_quiet_round {n r id : Nat} {P : Program} {Q : Exit → Act → World → Prop} {a : Act} {w : World} {l : List Oper} (hm : P.follows .mixedOrders = true) (hB : Region.lexB .any l.toArray = true) (hd : l.all notDefer = true)
    (h : wpQuietIn Fence.wide n P l.toArray (fun w' => ∃ n, w' = w.drewN n) (fun a' => ∀ w', (∃ n, w' = w.drewN n) → Q .normal a' w') l a) : (Code.region id l.toArray true).wpIn (Fence.wide.inRound r) n P Q a w := by
  simp only [Region.lexB, Bool.and_eq_true] at hB
  refine wpIn_region_any hm (any_round (fun i o ho => ?_) _ _ _ _ (wpAnyIn_of_quiet (F := Fence.wide) (C := fun w' => ∃ n, w' = w.drewN n) (Q := fun a' => ∀ w', (∃ n, w' = w.drewN n) → Q .normal a' w') rfl (fun _ w' hw' h => h w' hw') _ _ _ _ ⟨1, rfl⟩ ?_))
  · rw [List.all_eq_true] at hd
    exact hd o (List.mem_of_getElem? (by simpa using ho))
  · have := wpAnyQIn_lex (F := Fence.wide) (n := n) (C := fun w' => ∃ n, w' = w.drewN n) (md := .any) hB.1 l 0 (Array.replicate l.toArray.size false) a (by simp) (by simpa using hB.2) h
    simpa using this
end Go.Proofs.YthboapfbgdcdoaaDoor

/- The lines of a source, as a function on its bytes. -/
import Derived.Test.YtdmhdhmclcogoaaTok
import Derived.Lib.IndexLaws
namespace Go.Proofs.Ytdmhdhmclcogoaa
set_option linter.unusedVariables false

/-- how many bytes stand ahead of the first byte 10 -/
def nlLen : List UInt8 → Nat
  | [] => 0
  | b :: l => if b = 10 then 0 else nlLen l + 1

theorem nlLen_le (l : List UInt8) : nlLen l ≤ l.length := by
  induction l with
  | nil => simp [nlLen]
  | cons b l ih => unfold nlLen; split <;> simp; omega

def linesOf (l : List UInt8) : List (List UInt8) :=
  match l with
  | [] => []
  | b :: r => (b :: r).take (nlLen (b :: r)) :: linesOf ((b :: r).drop (nlLen (b :: r) + 1))
  termination_by l.length
  decreasing_by simp; omega

theorem linesOf_nil : linesOf [] = [] := by rw [linesOf]
theorem linesOf_more (l : List UInt8) (h : l ≠ []) : linesOf l = l.take (nlLen l) :: linesOf (l.drop (nlLen l + 1)) := by
  cases l with
  | nil => exact absurd rfl h
  | cons b r => rw [linesOf]

theorem idx_nl (l : List UInt8) : Lib.indexByte l 10 = if nlLen l < l.length then (nlLen l : Int) else -1 := by
  induction l with
  | nil => simp [nlLen, Lib.indexByte]
  | cons b l ih =>
    unfold nlLen Lib.indexByte
    by_cases h : b = 10
    · rw [if_pos (by simp [h]), if_pos h, if_pos (by simp)]
      rfl
    · rw [if_neg (by simp [h]), if_neg h, ih]
      by_cases h2 : nlLen l < l.length
      · rw [if_pos h2, if_neg (by simp), if_pos (by simp; omega)]
        push_cast
        rfl
      · rw [if_neg h2, if_pos (by decide), if_neg (by simp; omega)]

theorem nlLen_no (l : List UInt8) (k : Nat) (hk : k < nlLen l) : l[k]? ≠ some 10 := by
  induction l generalizing k with
  | nil => simp
  | cons b l ih =>
    unfold nlLen at hk
    split at hk
    · omega
    · rename_i h
      cases k with
      | zero => simpa using h
      | succ k => simpa using ih k (by omega)

theorem nlLen_at (l : List UInt8) (k : Nat) (h1 : ∀ j, j < k → l[j]? ≠ some 10) (h2 : l[k]? = some 10) : nlLen l = k := by
  induction l generalizing k with
  | nil => simp at h2
  | cons b l ih =>
    unfold nlLen
    cases k with
    | zero => simp at h2; rw [if_pos h2]
    | succ k =>
      have h0 := h1 0 (by omega)
      simp at h0
      rw [if_neg h0, ih k (fun j hj => by have := h1 (j + 1) (by omega); simpa using this) (by simpa using h2)]

theorem nlLen_end (l : List UInt8) (h1 : ∀ j, j < l.length → l[j]? ≠ some 10) : nlLen l = l.length := by
  induction l with
  | nil => rfl
  | cons b l ih =>
    unfold nlLen
    have h0 := h1 0 (by simp)
    simp at h0
    rw [if_neg h0, ih (fun j hj => by have := h1 (j + 1) (by simp; omega); simpa using this)]
    rfl

theorem linesOf_len (l : List UInt8) : (linesOf l).length ≤ l.length := by
  induction hn : l.length using Nat.strongRecOn generalizing l with
  | _ n ih =>
    subst hn
    by_cases h : l = []
    · subst h; rw [linesOf_nil]; simp
    · rw [linesOf_more l h, List.length_cons]
      have hl : 0 < l.length := by cases l <;> simp_all
      have := ih (l.drop (nlLen l + 1)).length (by simp; omega) (l.drop (nlLen l + 1)) rfl
      rw [List.length_drop] at this
      omega

theorem linesOf_size (l : List UInt8) : ∀ x ∈ linesOf l, x.length ≤ l.length := by
  induction hn : l.length using Nat.strongRecOn generalizing l with
  | _ n ih =>
    subst hn
    by_cases h : l = []
    · subst h; rw [linesOf_nil]; intro x hx; cases hx
    · rw [linesOf_more l h]
      have hl : 0 < l.length := by cases l <;> simp_all
      intro x hx
      rcases List.mem_cons.1 hx with rfl | hx
      · rw [List.length_take]; omega
      · have := ih (l.drop (nlLen l + 1)).length (by simp; omega) (l.drop (nlLen l + 1)) rfl x hx
        rw [List.length_drop] at this
        omega
end Go.Proofs.Ytdmhdhmclcogoaa

/- object's reader: what an item in the making wants. -/
import Derived.Test.YtmndccbeddaphaaGreatDoorOrd8
import Derived.Test.YtmndccbeddaphaaGreatDoorIt9
namespace Go.Proofs.YtmndccbeddaphaaGreatDoor
open Go.ChangeShapes Go.WideShapes Go.ChangeAt Go.RowKit
set_option linter.unusedVariables false
set_option linter.unusedSimpArgs false
set_option maxRecDepth 100000
theorem rowT_get (ts : List Tm) (i f : Nat) (t : Tm) (hi : ts[i]? = some t) (hf : f < 2) : (rowT ts)[i * 2 + f]? = t.cells[f]? := by
  induction ts generalizing i with
  | nil => simp at hi
  | cons u us ih =>
    have hu : u.cells.length = 2 := rfl
    cases i with
    | zero =>
      simp at hi
      subst hi
      rw [rowT, List.flatMap_cons, Nat.zero_mul, Nat.zero_add, List.getElem?_append_left (by omega)]
    | succ j =>
      simp at hi
      rw [rowT, List.flatMap_cons, List.getElem?_append_right (by omega), hu, show (j + 1) * 2 + f - 2 = j * 2 + f by omega]
      exact ih j hi
theorem own_tmLies {w : World} {B : Nat} {a : Option Addr} {c : Nat} {ts : List Tm} (h : w.ownsRow B 107 2 (.slice a ts.length c) ts.length (rowT ts)) : TmLies w a ts := by
  have h' := h
  obtain ⟨hl, ⟨hv, h0⟩ | ⟨g, cap, cur, hv, hbg, hg, r⟩⟩ := h
  · exact .inl (List.eq_nil_of_length_eq_zero h0)
  · injection hv with hv _ hv3
    subst hv
    refine .inr ⟨g, 0, rfl, (Array.getElem?_eq_some_iff.1 hg).1, fun i t hi => ?_⟩
    have hlt := (List.getElem?_eq_some_iff.1 hi).1
    have key : ∀ f, f < 2 → w.cell? ⟨g, i * 2 + f, none⟩ = t.cells[f]? := fun f hf => by rw [h'.cellAt _ (by omega), rowT_get ts i f t hi hf]
    rw [Nat.zero_add]
    exact ⟨key 0 (by omega), key 1 (by omega)⟩
theorem SetIs.blk {w w' : World} {b n : Nat} {g : List (List UInt8)} (h : SetIs w b n g) (e : w'.heap[b]? = w.heap[b]?) : SetIs w' b n g := by
  obtain ⟨D, ⟨es, ck, h1, h2⟩, h3⟩ := h
  exact ⟨D, ⟨es, ck, e.trans h1, h2⟩, h3⟩
theorem SetIs.obj {w : World} {b n : Nat} {g : List (List UInt8)} (h : SetIs w b n g) {xs : Array Value} {T : TypeId} {m : Nat × Nat} (e : w.heap[b]? = some (.cells xs T m)) : False := by
  obtain ⟨D, ⟨es, ck, h1, h2⟩, h3⟩ := h
  rw [e] at h1
  cases h1
theorem txL_le {zs : List Int} (hz : O.AreBytes zs) (p : Nat) : (txS zs p).size ≤ 65535 := by
  unfold txS O.getTS
  split
  · have := getN_bd hz (p : Int)
    simp [strOfNums, ByteArray.size]
    omega
  · simp
theorem rdLoop_le {zs : List Int} (hz : O.AreBytes zs) : (k : Nat) → (acc : List Tm) → (p : Nat) → (b : Option (Int × Int)) → (∀ t ∈ acc, t.name.length ≤ 65535) → (rdLoop zs k acc p b).1.length ≤ acc.length + k ∧ ∀ t ∈ (rdLoop zs k acc p b).1, t.name.length ≤ 65535
  | 0, acc, p, b, h => by rw [rdLoop]; exact ⟨Nat.le_refl _, h⟩
  | k + 1, acc, p, b, h => by
    rw [rdLoop]
    split
    · exact ⟨by simp, by simp⟩
    · have hh := rdLoop_le hz k (acc ++ [tmAt zs p]) (tmP zs p) (tmB zs p b) (fun t ht => by
        rcases List.mem_append.1 ht with h1 | h1
        · exact h t h1
        · rw [List.mem_singleton] at h1
          subst h1
          have := txL_le hz p
          unfold tmAt txL
          rw [ByteArray.size, ← Array.length_toList] at this
          exact this)
      rw [List.length_append, List.length_singleton] at hh
      exact ⟨by omega, hh.2⟩
theorem liL_le {zs : List Int} (hz : O.AreBytes zs) (p : Nat) (b : Option (Int × Int)) : (liL zs p b).length ≤ 65535 ∧ ∀ t ∈ liL zs p b, t.name.length ≤ 65535 := by
  have h := rdLoop_le hz (rdV zs p 2).toNat [] (rdP zs p 2) (rdB zs p 2 b) (by simp)
  have hb := rdV_bd hz p
  refine ⟨?_, h.2⟩
  have := h.1
  show (rdLoop zs (rdV zs p 2).toNat [] (rdP zs p 2) (rdB zs p 2 b)).1.length ≤ _
  simp at this
  omega
theorem cdL_le {zs : List Int} (hz : O.AreBytes zs) (p : Nat) (b : Option (Int × Int)) : (cdL zs p b).length ≤ 65535 ∧ ∀ t ∈ cdL zs p b, t.name.length ≤ 65535 := by
  unfold cdL
  split
  · exact liL_le hz _ _
  · simp
abbrev put10 (w : World) (g : Nat) (v0 v1 v2 v3 v4 v5 v6 v7 v8 v9 : Value) : World := (((((((((w.setCell ⟨g, 0, none⟩ v0).setCell ⟨g, 1, none⟩ v1).setCell ⟨g, 2, none⟩ v2).setCell ⟨g, 3, none⟩ v3).setCell ⟨g, 4, none⟩ v4).setCell ⟨g, 5, none⟩ v5).setCell ⟨g, 6, none⟩ v6).setCell ⟨g, 7, none⟩ v7).setCell ⟨g, 8, none⟩ v8).setCell ⟨g, 9, none⟩ v9
set_option maxHeartbeats 4000000 in
theorem put10_is {w : World} {g : Nat} {z0 z1 z2 z3 z4 z5 z6 z7 z8 z9 : Value} (h : w.heap[g]? = some (.cells #[z0, z1, z2, z3, z4, z5, z6, z7, z8, z9] 86 (0, 0))) (v0 v1 v2 v3 v4 v5 v6 v7 v8 v9 : Value) :
    (put10 w g v0 v1 v2 v3 v4 v5 v6 v7 v8 v9).heap[g]? = some (.cells #[v0, v1, v2, v3, v4, v5, v6, v7, v8, v9] 86 (0, 0)) ∧ w.grownBy (put10 w g v0 v1 v2 v3 v4 v5 v6 v7 v8 v9) (some g) := by
  have k0 := (row_set h 0 v0).2
  have s0 := (row_set h 0 v0).1
  simp only [List.setIfInBounds_toArray, List.set_cons_zero, List.set_cons_succ] at s0
  have k1 := (row_set s0 1 v1).2
  have s1 := (row_set s0 1 v1).1
  simp only [List.setIfInBounds_toArray, List.set_cons_zero, List.set_cons_succ] at s1
  have k2 := (row_set s1 2 v2).2
  have s2 := (row_set s1 2 v2).1
  simp only [List.setIfInBounds_toArray, List.set_cons_zero, List.set_cons_succ] at s2
  have k3 := (row_set s2 3 v3).2
  have s3 := (row_set s2 3 v3).1
  simp only [List.setIfInBounds_toArray, List.set_cons_zero, List.set_cons_succ] at s3
  have k4 := (row_set s3 4 v4).2
  have s4 := (row_set s3 4 v4).1
  simp only [List.setIfInBounds_toArray, List.set_cons_zero, List.set_cons_succ] at s4
  have k5 := (row_set s4 5 v5).2
  have s5 := (row_set s4 5 v5).1
  simp only [List.setIfInBounds_toArray, List.set_cons_zero, List.set_cons_succ] at s5
  have k6 := (row_set s5 6 v6).2
  have s6 := (row_set s5 6 v6).1
  simp only [List.setIfInBounds_toArray, List.set_cons_zero, List.set_cons_succ] at s6
  have k7 := (row_set s6 7 v7).2
  have s7 := (row_set s6 7 v7).1
  simp only [List.setIfInBounds_toArray, List.set_cons_zero, List.set_cons_succ] at s7
  have k8 := (row_set s7 8 v8).2
  have s8 := (row_set s7 8 v8).1
  simp only [List.setIfInBounds_toArray, List.set_cons_zero, List.set_cons_succ] at s8
  have k9 := (row_set s8 9 v9).2
  have s9 := (row_set s8 9 v9).1
  simp only [List.setIfInBounds_toArray, List.set_cons_zero, List.set_cons_succ] at s9
  exact ⟨s9, grown_trans k0 (grown_trans k1 (grown_trans k2 (grown_trans k3 (grown_trans k4 (grown_trans k5 (grown_trans k6 (grown_trans k7 (grown_trans k8 k9))))))))⟩
section
variable {w w' : World} {r : Nat} {a : Option Addr} {c : Nat} {zs : List Int} {p : Nat} {bad : Option (Int × Int)} {rp : Option Nat} {mv : Value} {last : List UInt8}
theorem RS.map {b n : Nat} {g : List (List UInt8)} (h : RS w r a c zs p bad rp mv last) (hS : SetIs w b n g) (ha : ∀ x, a = some x → x.block ≠ b) (hg : w.grownBy w' (some b)) : RS w' r a c zs p bad rp mv last := by
  refine ⟨(hg.block r (blk_lt h.blk) (fun e => ?_)).trans h.blk, lies_grown h.lies (fun z hz => ⟨Nat.lt_trans (h.old z hz) (blk_lt h.blk), fun e => ?_⟩) hg, h.old, h.cap, h.few, h.at_, h.rf.grown (fun q' hq' e => ?_) hg⟩
  · rw [← Option.some.inj e] at hS; exact hS.obj h.blk
  · exact ha z hz (Option.some.inj e).symm
  · have e' := Option.some.inj e
    subst e'
    have h5 := h.rf
    cases hbb : bad with
    | none => rw [hbb] at h5; rw [hq'] at h5; cases h5
    | some f =>
      rw [hbb] at h5
      obtain ⟨q', h6, h7⟩ := h5
      rw [hq'] at h6
      cases h6
      exact hS.obj h7
end
end Go.Proofs.YtmndccbeddaphaaGreatDoor

/- ObjectBack's walk. -/
import Derived.Test.YtmndccbeddaphaaGreatDoorMb2
import Derived.Test.YtmndccbeddaphaaGreatDoorObn2
import Derived.Test.YtmndccbeddaphaaGreatDoorCp
/- object, plain facts: a unit that was written is read; what is read was written. -/
namespace Go.Proofs.YtmndccbeddaphaaGreatDoor
open Go.ChangeShapes Go.WideShapes Go.ChangeAt Go.RowKit
set_option linter.unusedVariables false
set_option linter.unusedSimpArgs false
set_option maxRecDepth 100000

section
variable {zs : List Int} {p : Nat} {b : Rfu}

theorem labN_cons (x : Itm) (l : List Itm) : labN (x :: l) = (if x.kind = 1 then [x.name] else []) ++ labN l := by
  unfold labN
  by_cases h : x.kind = 1
  · simp [h]
  · simp [h]
theorem itG_eq {x : Itm} {sec : Int} {g : INm} (ho : okI x sec = true) (hn : (g ++ (if x.kind = 1 then [x.name] else [])).Nodup) : itG x sec g = g ++ (if x.kind = 1 then [x.name] else []) := by
  have ho' : itOk x sec = true := ho
  unfold itG
  by_cases h : x.kind = 1
  · rw [if_pos ⟨ho', h⟩]
    simp only [h, if_true] at hn ⊢
    have : x.name ∉ g := fun hm => (List.nodup_append.1 hn).2.2 _ hm _ (by simp) rfl
    rw [givN, if_neg this]
  · rw [if_neg (fun hh => h hh.2)]
    simp [h]
theorem itB_eq {x : Itm} {sec : Int} {g : INm} (ho : okI x sec = true) (hn : (g ++ (if x.kind = 1 then [x.name] else [])).Nodup) : itB x sec g p none = none := by
  have ho' : itOk x sec = true := ho
  have hne : ¬ (x.kind = 1 ∧ x.name ∈ g) := fun hh => by
    simp only [hh.1, if_true] at hn
    exact (List.nodup_append.1 hn).2.2 _ hh.2 _ (by simp) rfl
  unfold itB
  rw [if_pos ⟨ho', hne⟩]

theorem itLoop_fwd (sec : Int) : ∀ (l acc : List Itm) (g : INm) (p : Nat), At zs p (l.flatMap sItem) → (∀ x ∈ l, okI x sec = true ∧ Fine x) → (g ++ labN l).Nodup → rdItLoop zs sec l.length acc g p none = (acc ++ l, g ++ labN l, p + (l.flatMap sItem).length, none)
  | [], acc, g, p, h, _, _ => by simp [rdItLoop, labN]
  | x :: r, acc, g, p, h, ho, hn => by
    rw [List.flatMap_cons] at h
    rw [labN_cons, ← List.append_assoc] at hn
    have hx := ho x (List.mem_cons_self ..)
    have h1 := item_fwd h.left hx.1 hx.2
    have hn1 : (g ++ (if x.kind = 1 then [x.name] else [])).Nodup := (List.nodup_append.1 hn).1
    rw [List.length_cons, rdItLoop, h1]
    simp only [Option.isSome_none, Bool.false_eq_true, if_false]
    rw [itB_eq hx.1 hn1, itG_eq hx.1 hn1, itLoop_fwd sec r (acc ++ [x]) _ _ h.right (fun y hy => ho y (List.mem_cons_of_mem _ hy)) hn, labN_cons, List.flatMap_cons, List.length_append]
    simp
    omega

theorem itLoop_some {sec : Int} {k : Nat} {acc : List Itm} {g : INm} {p : Nat} {f : Int × Int} : (rdItLoop zs sec k acc g p (some f)).2.2.2 ≠ none := by
  cases k <;> simp [rdItLoop]
theorem itB_none {x : Itm} {sec : Int} {g : INm} (h : itB x sec g p b = none) : b = none ∧ okI x sec = true ∧ ¬ (x.kind = 1 ∧ x.name ∈ g) := by
  unfold itB at h
  split at h
  · rename_i hh
    exact ⟨h, hh⟩
  · exact absurd h firstR_some
theorem itLoop_bwd (hz : O.AreBytes zs) (sec : Int) : ∀ (k : Nat) (acc : List Itm) (g : INm) (p : Nat) (b : Rfu), p ≤ zs.length → g.Nodup → (rdItLoop zs sec k acc g p b).2.2.2 = none → b = none ∧ ∃ l, (rdItLoop zs sec k acc g p b).1 = acc ++ l ∧ l.length = k ∧ At zs p (l.flatMap sItem) ∧ (rdItLoop zs sec k acc g p b).2.2.1 = p + (l.flatMap sItem).length ∧ (rdItLoop zs sec k acc g p b).2.1 = g ++ labN l ∧ (g ++ labN l).Nodup ∧ ∀ x ∈ l, okI x sec = true ∧ Fine x
  | 0, acc, g, p, b, hp, hg, h => ⟨h, [], by simp [rdItLoop], rfl, At.nil hp, by simp [rdItLoop], by simp [rdItLoop, labN], by simpa [labN] using hg, fun x hx => by cases hx⟩
  | k + 1, acc, g, p, b, hp, hg, h => by
    rw [rdItLoop] at h ⊢
    cases b with
    | some f => simp at h
    | none =>
      simp only [Option.isSome_none, Bool.false_eq_true, if_false] at h ⊢
      have hb : itB (itR zs p none).1 sec g p (itR zs p none).2.2 = none := by
        cases hq : itB (itR zs p none).1 sec g p (itR zs p none).2.2 with
        | none => rfl
        | some f => rw [hq] at h; exact absurd h itLoop_some
      obtain ⟨q1, q2, q3⟩ := itB_none hb
      obtain ⟨_, h2, h3, h4⟩ := item_bwd hz q1
      have h5 : (itR zs p none).2.1 ≤ zs.length := by rw [h3]; exact h2.2
      generalize (itR zs p none).1 = x at *
      have hn1 : (g ++ (if x.kind = 1 then [x.name] else [])).Nodup := by
        by_cases hk : x.kind = 1
        · simp only [hk, if_true]
          refine List.nodup_append.2 ⟨hg, by simp, fun y hy z hz e => ?_⟩
          simp at hz
          subst hz e
          exact q3 ⟨hk, hy⟩
        · simpa [hk] using hg
      rw [itG_eq q2 hn1] at h ⊢
      obtain ⟨_, l, e1, e2, e3, e4, e5, e6, e7⟩ := itLoop_bwd hz sec k (acc ++ [x]) _ _ _ h5 hn1 h
      refine ⟨trivial, x :: l, by rw [e1]; simp, by simp [e2], ?_, ?_, ?_, ?_, fun y hy => ?_⟩
      · rw [List.flatMap_cons]
        rw [h3] at e3
        exact h2.app e3
      · rw [e4, h3, List.flatMap_cons, List.length_append]
        omega
      · rw [e5, labN_cons, List.append_assoc]
      · rw [labN_cons, ← List.append_assoc]
        exact e6
      · rcases List.mem_cons.1 hy with rfl | hy
        · exact ⟨q2, h4⟩
        · exact e7 y hy

theorem len_back {n : Nat} (h : n ≤ 65535) : ((n : Int) % 4294967296).toNat = n ∧ 0 ≤ (n : Int) % 4294967296 ∧ (n : Int) % 4294967296 < 256 ^ 2 ∧ (n : Int) % 4294967296 = n := by omega
theorem items_fwd {sec most : Int} {l : List Itm} {g : INm} (h : At zs p (sL sItem l)) (hm : (l.length : Int) ≤ most) (h6 : l.length ≤ 65535) (ho : ∀ x ∈ l, okI x sec = true ∧ Fine x) (hn : (g ++ labN l).Nodup) : rdItems zs sec most g p none = (l, g ++ labN l, p + (sL sItem l).length, none) := by
  obtain ⟨e1, e2, e3, e4⟩ := len_back h6
  have h1 := num_fwd (b := none) h.left ⟨e2, e3⟩
  have h2 := h.right
  rw [O.leB_length] at h2
  unfold rdItems
  rw [h1.1, h1.2.1, h1.2.2, e1, manyB, if_neg (by omega), itLoop_fwd sec l [] g (p + 2) h2 ho hn]
  unfold sL
  rw [List.length_append, O.leB_length]
  simp
  omega
theorem manyB_none {n most : Int} (h : manyB n most p b = none) : b = none ∧ n ≤ most := by
  unfold manyB at h
  split at h
  · exact absurd h firstR_some
  · exact ⟨h, by omega⟩
theorem num_le (hz : O.AreBytes zs) (h : rdB zs p 2 b = none) : rdP zs p 2 ≤ zs.length := by
  obtain ⟨_, h2, h3⟩ := num_bwd hz h
  rw [h3]
  have := h2.2
  rwa [O.leB_length] at this
theorem itLoop_b {sec : Int} {k : Nat} {acc : List Itm} {g : INm} (h : (rdItLoop zs sec k acc g p b).2.2.2 = none) : b = none := by
  cases b with
  | none => rfl
  | some f => exact absurd h itLoop_some
theorem items_bwd (hz : O.AreBytes zs) {sec most : Int} {g : INm} (hg : g.Nodup) (h : (rdItems zs sec most g p b).2.2.2 = none) : b = none ∧ ∃ l, (rdItems zs sec most g p b).1 = l ∧ (l.length : Int) ≤ most ∧ l.length ≤ 65535 ∧ At zs p (sL sItem l) ∧ (rdItems zs sec most g p b).2.2.1 = p + (sL sItem l).length ∧ (rdItems zs sec most g p b).2.1 = g ++ labN l ∧ (g ++ labN l).Nodup ∧ ∀ x ∈ l, okI x sec = true ∧ Fine x := by
  unfold rdItems at h ⊢
  have hb1 := itLoop_b h
  obtain ⟨hb2, hmo⟩ := manyB_none hb1
  obtain ⟨g1, g2, g3⟩ := num_bwd hz hb2
  have hbd := rdV_bd hz p
  obtain ⟨_, l, e1, e2, e3, e4, e5, e6, e7⟩ := itLoop_bwd hz sec _ _ _ _ _ (num_le hz hb2) hg h
  rw [List.nil_append] at e1
  have hl : (l.length : Int) % 4294967296 = rdV zs p 2 := by omega
  refine ⟨g1, l, e1, by omega, by omega, ?_, ?_, e5, e6, e7⟩
  · unfold sL
    rw [hl]
    refine g2.app ?_
    rw [O.leB_length, ← g3]
    exact e3
  · rw [e4, g3]
    unfold sL
    rw [List.length_append, O.leB_length]
    omega

/-! equs -/
structure FineQ (q : Eqv) : Prop where
  lin : NumL q.2
  few : q.2.terms.length ≤ 65535
theorem equ_fwd {q : Eqv} (h : At zs p (sEqu q)) (ho : okE q = true) (hf : FineQ q) : eqR zs p none = (q, p + (sEqu q).length, none) := by
  have hQ := okE_okQ ho hf.lin (by have := hf.few; omega)
  have h1 := text_fwd (b := none) h.left (by have := hQ.name; omega)
  have h2 := h.right
  rw [← h1.2.1] at h2
  have h3 := lin_fwd h2 hQ.lin hf.few
  unfold eqR
  rw [h1.2.2, h1.1, h3.1, h3.2.1, h3.2.2.1, h3.2.2.2, h1.2.1]
  unfold sEqu
  rw [List.length_append, Nat.add_assoc]
theorem equ_bwd (hz : O.AreBytes zs) (h : (eqR zs p b).2.2 = none) : b = none ∧ At zs p (sEqu (eqR zs p b).1) ∧ (eqR zs p b).2.1 = p + (sEqu (eqR zs p b).1).length ∧ FineQ (eqR zs p b).1 := by
  unfold eqR at h ⊢
  obtain ⟨h1, h2, h3, h4, h5⟩ := lin_bwd hz h
  obtain ⟨g1, g2, g3, g4⟩ := text_bwd hz h1
  dsimp only
  refine ⟨g1, ?_, ?_, h5, h4⟩
  · refine g2.app ?_
    rw [← g3]
    exact h2
  · rw [h3]
    unfold sEqu
    rw [List.length_append]
    dsimp only
    omega
theorem eqLoop_fwd : ∀ (l acc : List Eqv) (g : INm) (p : Nat), At zs p (l.flatMap sEqu) → (∀ q ∈ l, okE q = true ∧ FineQ q) → (g ++ l.map (·.1)).Nodup → rdEqLoop zs l.length acc g p none = (acc ++ l, g ++ l.map (·.1), p + (l.flatMap sEqu).length, none)
  | [], acc, g, p, h, _, _ => by simp [rdEqLoop]
  | x :: r, acc, g, p, h, ho, hn => by
    rw [List.flatMap_cons] at h
    have hx := ho x (List.mem_cons_self ..)
    have h1 := equ_fwd h.left hx.1 hx.2
    have hn' : (g ++ [x.1] ++ r.map (·.1)).Nodup := by simpa using hn
    have hni : x.1 ∉ g := fun hm => (List.nodup_append.1 hn).2.2 _ hm _ (by simp) rfl
    rw [List.length_cons, rdEqLoop, h1]
    simp only [Option.isSome_none, Bool.false_eq_true, if_false]
    rw [show eqB x g p none = none by rw [eqB, if_pos ⟨hx.1, hni⟩], show eqG x g = g ++ [x.1] by rw [eqG, if_pos hx.1, givN, if_neg hni], eqLoop_fwd r (acc ++ [x]) _ _ h.right (fun y hy => ho y (List.mem_cons_of_mem _ hy)) hn', List.flatMap_cons, List.length_append]
    simp
    omega
theorem eqLoop_some {k : Nat} {acc : List Eqv} {g : INm} {p : Nat} {f : Int × Int} : (rdEqLoop zs k acc g p (some f)).2.2.2 ≠ none := by
  cases k <;> simp [rdEqLoop]
theorem eqLoop_bwd (hz : O.AreBytes zs) : ∀ (k : Nat) (acc : List Eqv) (g : INm) (p : Nat) (b : Rfu), p ≤ zs.length → g.Nodup → (rdEqLoop zs k acc g p b).2.2.2 = none → b = none ∧ ∃ l, (rdEqLoop zs k acc g p b).1 = acc ++ l ∧ l.length = k ∧ At zs p (l.flatMap sEqu) ∧ (rdEqLoop zs k acc g p b).2.2.1 = p + (l.flatMap sEqu).length ∧ (rdEqLoop zs k acc g p b).2.1 = g ++ l.map (·.1) ∧ (g ++ l.map (·.1)).Nodup ∧ ∀ q ∈ l, okE q = true ∧ FineQ q
  | 0, acc, g, p, b, hp, hg, h => ⟨h, [], by simp [rdEqLoop], rfl, At.nil hp, by simp [rdEqLoop], by simp [rdEqLoop], by simpa using hg, fun x hx => by cases hx⟩
  | k + 1, acc, g, p, b, hp, hg, h => by
    rw [rdEqLoop] at h ⊢
    cases b with
    | some f => simp at h
    | none =>
      simp only [Option.isSome_none, Bool.false_eq_true, if_false] at h ⊢
      have hb : eqB (eqR zs p none).1 g p (eqR zs p none).2.2 = none := by
        cases hq : eqB (eqR zs p none).1 g p (eqR zs p none).2.2 with
        | none => rfl
        | some f => rw [hq] at h; exact absurd h eqLoop_some
      have hb' := hb
      unfold eqB at hb'
      split at hb'
      · rename_i hh
        obtain ⟨_, h2, h3, h4⟩ := equ_bwd hz hb'
        have h5 : (eqR zs p none).2.1 ≤ zs.length := by rw [h3]; exact h2.2
        generalize (eqR zs p none).1 = x at *
        have hn1 : (g ++ [x.1]).Nodup := by
          refine List.nodup_append.2 ⟨hg, by simp, fun y hy z hz e => ?_⟩
          simp at hz
          subst hz e
          exact hh.2 hy
        have hG : eqG x g = g ++ [x.1] := by rw [eqG, if_pos hh.1, givN, if_neg hh.2]
        rw [hG] at h ⊢
        obtain ⟨_, l, e1, e2, e3, e4, e5, e6, e7⟩ := eqLoop_bwd hz k (acc ++ [x]) _ _ _ h5 hn1 h
        refine ⟨trivial, x :: l, by rw [e1]; simp, by simp [e2], ?_, ?_, ?_, ?_, fun y hy => ?_⟩
        · rw [List.flatMap_cons]
          rw [h3] at e3
          exact h2.app e3
        · rw [e4, h3, List.flatMap_cons, List.length_append]
          omega
        · rw [e5]; simp
        · simpa using e6
        · rcases List.mem_cons.1 hy with rfl | hy
          · exact ⟨hh.1, h4⟩
          · exact e7 y hy
      · exact absurd hb' firstR_some
theorem equs_fwd {most : Int} {l : List Eqv} {g : INm} (h : At zs p (sL sEqu l)) (hm : (l.length : Int) ≤ most) (h6 : l.length ≤ 65535) (ho : ∀ q ∈ l, okE q = true ∧ FineQ q) (hn : (g ++ l.map (·.1)).Nodup) : rdEqus zs most g p none = (l, g ++ l.map (·.1), p + (sL sEqu l).length, none) := by
  obtain ⟨e1, e2, e3, e4⟩ := len_back h6
  have h1 := num_fwd (b := none) h.left ⟨e2, e3⟩
  have h2 := h.right
  rw [O.leB_length] at h2
  unfold rdEqus
  rw [h1.1, h1.2.1, h1.2.2, e1, manyB, if_neg (by omega), eqLoop_fwd l [] g (p + 2) h2 ho hn]
  unfold sL
  rw [List.length_append, O.leB_length]
  simp
  omega
theorem equs_bwd (hz : O.AreBytes zs) {most : Int} {g : INm} (hg : g.Nodup) (h : (rdEqus zs most g p b).2.2.2 = none) : b = none ∧ ∃ l, (rdEqus zs most g p b).1 = l ∧ (l.length : Int) ≤ most ∧ l.length ≤ 65535 ∧ At zs p (sL sEqu l) ∧ (rdEqus zs most g p b).2.2.1 = p + (sL sEqu l).length ∧ (rdEqus zs most g p b).2.1 = g ++ l.map (·.1) ∧ (g ++ l.map (·.1)).Nodup ∧ ∀ q ∈ l, okE q = true ∧ FineQ q := by
  unfold rdEqus at h ⊢
  have hb1 : manyB (rdV zs p 2) most p (rdB zs p 2 b) = none := by
    cases hq : manyB (rdV zs p 2) most p (rdB zs p 2 b) with
    | none => rfl
    | some f => rw [hq] at h; exact absurd h eqLoop_some
  obtain ⟨hb2, hmo⟩ := manyB_none hb1
  obtain ⟨g1, g2, g3⟩ := num_bwd hz hb2
  have hbd := rdV_bd hz p
  obtain ⟨_, l, e1, e2, e3, e4, e5, e6, e7⟩ := eqLoop_bwd hz _ _ _ _ _ (num_le hz hb2) hg h
  rw [List.nil_append] at e1
  have hl : (l.length : Int) % 4294967296 = rdV zs p 2 := by omega
  refine ⟨g1, l, e1, by omega, by omega, ?_, ?_, e5, e6, e7⟩
  · unfold sL
    rw [hl]
    refine g2.app ?_
    rw [O.leB_length, ← g3]
    exact e3
  · rw [e4, g3]
    unfold sL
    rw [List.length_append, O.leB_length]
    omega

/-! globals -/
/-- names that rise, behind la -/
def Asc (la : List UInt8) : INm → Prop
  | [] => True
  | s :: r => nlt la s = true ∧ Asc s r
def lastOf (la : List UInt8) : INm → List UInt8
  | [] => la
  | s :: r => lastOf s r
theorem glLoop_fwd (g : INm) : ∀ (l acc : INm) (la : List UInt8) (p : Nat), At zs p (l.flatMap sTx) → (∀ s ∈ l, s.length ≤ 65535 ∧ s ∈ g) → Asc la l → rdGlLoop zs g l.length acc la p none = (acc ++ l, lastOf la l, p + (l.flatMap sTx).length, none)
  | [], acc, la, p, h, _, _ => by simp [rdGlLoop, lastOf]
  | s :: r, acc, la, p, h, ho, hn => by
    rw [List.flatMap_cons] at h
    have hs := ho s (List.mem_cons_self ..)
    have h1 := text_fwd (b := none) h.left hs.1
    rw [List.length_cons, rdGlLoop, h1.1, h1.2.1, h1.2.2]
    simp only [Option.isSome_none, Bool.false_eq_true, if_false]
    rw [show glB s la g p none = none by rw [glB, if_pos ⟨hs.2, hn.1⟩], glLoop_fwd g r (acc ++ [s]) s _ h.right (fun y hy => ho y (List.mem_cons_of_mem _ hy)) hn.2, List.flatMap_cons, List.length_append]
    simp [lastOf]
    omega
theorem glLoop_some {g : INm} {k : Nat} {acc : INm} {la : List UInt8} {p : Nat} {f : Int × Int} : (rdGlLoop zs g k acc la p (some f)).2.2.2 ≠ none := by
  cases k <;> simp [rdGlLoop]
theorem glLoop_bwd (hz : O.AreBytes zs) (g : INm) : ∀ (k : Nat) (acc : INm) (la : List UInt8) (p : Nat) (b : Rfu), p ≤ zs.length → (rdGlLoop zs g k acc la p b).2.2.2 = none → b = none ∧ ∃ l, (rdGlLoop zs g k acc la p b).1 = acc ++ l ∧ l.length = k ∧ At zs p (l.flatMap sTx) ∧ (rdGlLoop zs g k acc la p b).2.2.1 = p + (l.flatMap sTx).length ∧ Asc la l ∧ ∀ s ∈ l, s ∈ g
  | 0, acc, la, p, b, hp, h => ⟨h, [], by simp [rdGlLoop], rfl, At.nil hp, by simp [rdGlLoop], trivial, fun x hx => by cases hx⟩
  | k + 1, acc, la, p, b, hp, h => by
    rw [rdGlLoop] at h ⊢
    cases b with
    | some f => simp at h
    | none =>
      simp only [Option.isSome_none, Bool.false_eq_true, if_false] at h ⊢
      have hb : glB (txL zs p) la g p (txB zs p none) = none := by
        cases hq : glB (txL zs p) la g p (txB zs p none) with
        | none => rfl
        | some f => rw [hq] at h; exact absurd h glLoop_some
      have hb' := hb
      unfold glB at hb'
      split at hb'
      · rename_i hh
        obtain ⟨_, h2, h3, h4⟩ := text_bwd hz hb'
        have h5 : txP zs p ≤ zs.length := by rw [h3]; exact h2.2
        generalize txL zs p = x at *
        obtain ⟨_, l, e1, e2, e3, e4, e5, e6⟩ := glLoop_bwd hz g k (acc ++ [x]) x _ _ h5 h
        refine ⟨trivial, x :: l, by rw [e1]; simp, by simp [e2], ?_, ?_, ⟨hh.2, e5⟩, fun y hy => ?_⟩
        · rw [List.flatMap_cons]
          rw [h3] at e3
          exact h2.app e3
        · rw [e4, h3, List.flatMap_cons, List.length_append]
          omega
        · rcases List.mem_cons.1 hy with rfl | hy
          · exact hh.1
          · exact e6 y hy
      · exact absurd hb' firstR_some
theorem globs_fwd {l g : INm} {la : List UInt8} (h : At zs p (sL sTx l)) (h6 : l.length ≤ 65535) (ho : ∀ s ∈ l, s.length ≤ 65535 ∧ s ∈ g) (hn : Asc la l) : rdGlobs zs g la p none = (l, lastOf la l, p + (sL sTx l).length, none) := by
  obtain ⟨e1, e2, e3, e4⟩ := len_back h6
  have h1 := num_fwd (b := none) h.left ⟨e2, e3⟩
  have h2 := h.right
  rw [O.leB_length] at h2
  unfold rdGlobs
  rw [h1.1, h1.2.1, h1.2.2, e1, glLoop_fwd g l [] la (p + 2) h2 ho hn]
  unfold sL
  rw [List.length_append, O.leB_length]
  simp
  omega
theorem globs_bwd (hz : O.AreBytes zs) {g : INm} {la : List UInt8} (h : (rdGlobs zs g la p b).2.2.2 = none) : b = none ∧ ∃ l, (rdGlobs zs g la p b).1 = l ∧ l.length ≤ 65535 ∧ At zs p (sL sTx l) ∧ (rdGlobs zs g la p b).2.2.1 = p + (sL sTx l).length ∧ Asc la l ∧ ∀ s ∈ l, s ∈ g := by
  unfold rdGlobs at h ⊢
  have hb2 : rdB zs p 2 b = none := by
    cases hq : rdB zs p 2 b with
    | none => rfl
    | some f => rw [hq] at h; exact absurd h glLoop_some
  obtain ⟨g1, g2, g3⟩ := num_bwd hz hb2
  have hbd := rdV_bd hz p
  obtain ⟨_, l, e1, e2, e3, e4, e5, e6⟩ := glLoop_bwd hz g _ _ _ _ _ (num_le hz hb2) h
  rw [List.nil_append] at e1
  have hl : (l.length : Int) % 4294967296 = rdV zs p 2 := by omega
  refine ⟨g1, l, e1, by omega, ?_, ?_, e5, e6⟩
  · unfold sL
    rw [hl]
    refine g2.app ?_
    rw [O.leB_length, ← g3]
    exact e3
  · rw [e4, g3]
    unfold sL
    rw [List.length_append, O.leB_length]
    omega
end
end Go.Proofs.YtmndccbeddaphaaGreatDoor
/- object, plain facts: a unit that was written is read, whatever stands behind it; what is read was written. -/
namespace Go.Proofs.YtmndccbeddaphaaGreatDoor
open Go.ChangeShapes Go.WideShapes Go.ChangeAt Go.RowKit
set_option linter.unusedVariables false
set_option linter.unusedSimpArgs false
set_option maxRecDepth 100000

theorem sortS_perm (l : List (List UInt8)) : (sortS l).Perm l := List.mergeSort_perm l _
theorem once_twice {l : List (List UInt8)} (h : l.Nodup) : ¬ Twice l := by
  rintro ⟨i, s, h1, h2⟩
  obtain ⟨hi, e1⟩ := List.getElem?_eq_some_iff.1 h1
  obtain ⟨hj, e2⟩ := List.getElem?_eq_some_iff.1 h2
  have := (List.nodup_iff_pairwise_ne.1 h)
  exact (List.pairwise_iff_getElem.1 this) i (i + 1) hi hj (by omega) (e1.trans e2.symm)
def UpN (l : List (List UInt8)) : Prop := l.Pairwise fun x y => nlt x y = true
theorem rise_up {l : List (List UInt8)} (h : Rise l) (ht : ¬ Twice l) : UpN l := by
  refine List.pairwise_iff_getElem.2 fun i j hi hj hij => ?_
  have hadj : ∀ k (hk : k + 1 < l.length), nlt (l[k]'(by omega)) l[k + 1] = true := fun k hk => by
    have h1 : nlt l[k + 1] (l[k]'(by omega)) = false := (List.pairwise_iff_getElem.1 h) k (k + 1) (by omega) hk (by omega)
    rcases nlt_tri (l[k]'(by omega)) l[k + 1] with h2 | h2 | h2
    · exact h2
    · exact absurd ⟨k, l[k]'(by omega), List.getElem?_eq_getElem _, by rw [List.getElem?_eq_getElem hk, h2]⟩ ht
    · rw [h2] at h1; cases h1
  induction j with
  | zero => omega
  | succ j ih =>
    rcases Nat.lt_or_ge i j with h1 | h1
    · exact nlt_trans (ih (by omega) h1 hadj) (hadj j hj)
    · obtain rfl : i = j := by omega
      exact hadj i hj
theorem up_nodup {l : List (List UInt8)} (hu : UpN l) : l.Nodup := List.nodup_iff_pairwise_ne.2 (hu.imp fun {a b} hab e => by subst e; rw [nlt_irrefl] at hab; cases hab)
theorem twice_iff (l : List (List UInt8)) : ¬ Twice (sortS l) ↔ l.Nodup := by
  constructor
  · intro h
    exact (sortS_perm l).nodup_iff.1 (up_nodup (rise_up (sortS_rise l) h))
  · intro h
    exact once_twice ((sortS_perm l).nodup_iff.2 h)
theorem mem_sortS {s : List UInt8} {l : List (List UInt8)} : s ∈ sortS l ↔ s ∈ l := (sortS_perm l).mem_iff
theorem nodup_le {α : Type} [DecidableEq α] : ∀ (l m : List α), l.Nodup → (∀ x ∈ l, x ∈ m) → l.length ≤ m.length
  | [], m, _, _ => Nat.zero_le _
  | a :: l, m, h, hs => by
    have ha := hs a (List.mem_cons_self ..)
    have hn := List.nodup_cons.1 h
    have := nodup_le l (m.erase a) hn.2 (fun x hx => (List.mem_erase_of_ne (fun e => hn.1 (by rw [← e]; exact hx))).2 (hs x (List.mem_cons_of_mem _ hx)))
    rw [List.length_erase_of_mem ha] at this
    have : 0 < m.length := List.length_pos_of_mem ha
    rw [List.length_cons]
    omega

/-- names that rise one by one -/
theorem asc_of {l : INm} {la : List UInt8} (h : ∀ i p g, l[i]? = some p → l[i + 1]? = some g → nlt p g = true) (h0 : ∀ s, l[0]? = some s → nlt la s = true) : Asc la l := by
  induction l generalizing la with
  | nil => trivial
  | cons s r ih =>
    refine ⟨h0 s rfl, ih (fun i p g h1 h2 => h (i + 1) p g (by simpa using h1) (by simpa using h2)) (fun t ht => h 0 s t rfl (by simpa using ht))⟩
theorem asc_step : ∀ {l : INm} {la : List UInt8}, Asc la l → ∀ i p g, l[i]? = some p → l[i + 1]? = some g → nlt p g = true
  | [], la, _, i, p, g, h1, _ => by simp at h1
  | s :: r, la, h, 0, p, g, h1, h2 => by
    cases h1
    match r, h.2, h2 with
    | [], _, h2 => simp at h2
    | t :: r, h3, h2 => cases h2; exact h3.1
  | s :: r, la, h, i + 1, p, g, h1, h2 => asc_step h.2 i p g (by simpa using h1) (by simpa using h2)
theorem asc_up : ∀ {l : INm} {la : List UInt8}, Asc la l → (∀ s ∈ l, nlt la s = true) ∧ UpN l
  | [], la, _ => ⟨fun s hs => (by cases hs), List.Pairwise.nil⟩
  | s :: r, la, h => by
    obtain ⟨h1, h2⟩ := asc_up h.2
    refine ⟨fun t ht => ?_, List.Pairwise.cons h1 h2⟩
    rcases List.mem_cons.1 ht with rfl | ht
    · exact h.1
    · exact nlt_trans h.1 (h1 t ht)
theorem nlt_nil_of {s : List UInt8} (h : s ≠ []) : nlt [] s = true := by
  rcases nlt_tri [] s with h1 | h1 | h1
  · exact h1
  · exact absurd h1.symm h
  · rw [nlt_nil] at h1; cases h1

/-- what can be written, and is read again -/
structure WOk (u : UVal) : Prop where
  text : ∀ x ∈ u.text, okI x 0 = true ∧ Fine x
  data : ∀ x ∈ u.data, okI x 1 = true ∧ Fine x
  equs : ∀ q ∈ u.equs, okE q = true ∧ FineQ q
  few : u.text.length + u.data.length ≤ 8192
  fewE : u.equs.length ≤ 8192
  once : u.names.Nodup
  asc : Asc [] u.globs
  given : ∀ s ∈ u.globs, s ∈ u.names

theorem legB_ne {s : List UInt8} (h : legB (str s) = true) : s ≠ [] := by
  rintro rfl
  revert h
  decide +kernel
theorem labN_mem {l : List Itm} {s : List UInt8} (h : s ∈ labN l) : ∃ x ∈ l, x.kind = 1 ∧ x.name = s := by
  unfold labN at h
  obtain ⟨x, hx, rfl⟩ := List.mem_map.1 h
  obtain ⟨h1, h2⟩ := List.mem_filter.1 hx
  exact ⟨x, h1, by simpa using h2, rfl⟩
theorem okI_leg {x : Itm} {sec : Int} (h : okI x sec = true) (hk : x.kind = 1) : legB (str x.name) = true := by
  unfold okI okB at h
  simp only [Bool.and_eq_true] at h
  have h1 := h.2.1
  unfold nameB at h1
  rwa [if_pos hk] at h1
theorem WOk.leg {u : UVal} (h : WOk u) {s : List UInt8} (hs : s ∈ u.names) : legB (str s) = true := by
  unfold UVal.names at hs
  rcases List.mem_append.1 hs with hs | hs
  · rcases List.mem_append.1 hs with hs | hs
    · obtain ⟨x, hx, hk, rfl⟩ := labN_mem hs
      exact okI_leg (h.text x hx).1 hk
    · obtain ⟨x, hx, hk, rfl⟩ := labN_mem hs
      exact okI_leg (h.data x hx).1 hk
  · obtain ⟨q, hq, rfl⟩ := List.mem_map.1 hs
    have := (h.equs q hq).1
    unfold okE at this
    rw [Bool.and_eq_true] at this
    exact this.1
theorem WOk.right {u : UVal} (h : WOk u) : RightU u :=
  ⟨List.all_eq_true.2 fun x hx => (h.text x hx).1, List.all_eq_true.2 fun x hx => (h.data x hx).1, List.all_eq_true.2 fun x hx => (h.equs x hx).1, (twice_iff _).2 h.once, asc_step h.asc, fun g hg => mem_sortS.2 (h.given g hg)⟩
theorem WOk.rightN {u : UVal} (h : WOk u) : RightN u 0 := .inr ⟨by have := h.few; have := h.fewE; omega, .inl ⟨h.right, rfl⟩⟩
theorem WOk.many {u : UVal} (h : WOk u) : manyU u = false := by
  unfold manyU
  rw [Bool.or_eq_false_iff, Bool.or_eq_false_iff]
  refine ⟨?_, ?_, ?_⟩
  · rw [List.any_eq_false]
    intro x hx
    have := (h.text x hx).2.few
    simp [manyT]
    omega
  · rw [List.any_eq_false]
    intro x hx
    have := (h.data x hx).2.few
    simp [manyT]
    omega
  · rw [List.any_eq_false]
    intro x hx
    have := (h.equs x hx).2.few
    simp [manyQ]
    omega
theorem WOk.num {u : UVal} (h : WOk u) : NumU u := ⟨fun x hx => (h.text x hx).2.lin, fun x hx => (h.data x hx).2.lin, fun x hx => (h.equs x hx).2.lin⟩
theorem WOk.globs {u : UVal} (h : WOk u) : u.globs.length ≤ 65535 := by
  have h1 := nodup_le u.globs u.names (up_nodup (asc_up h.asc).2) h.given
  have h2 : u.names.length ≤ u.text.length + u.data.length + u.equs.length := by
    unfold UVal.names
    rw [List.length_append, List.length_append, List.length_map]
    have := labN_len u.text
    have := labN_len u.data
    omega
  have := h.few
  have := h.fewE
  omega
theorem WOk.held {u : UVal} (h : WOk u) : HeldU u := by
  have hi : ∀ sec x, okI x sec = true ∧ Fine x → HeldI x := fun sec x hx => by
    have hJ := okI_okJ hx.1 hx.2.lin (by have := hx.2.few; omega)
    exact ⟨by have := hJ.name; omega, hx.2.m, hx.2.n, by have := hx.2.few; omega, fun t ht => by have := (hJ.lin.each t ht).1; omega⟩
  refine ⟨⟨by have := h.few; omega, fun x hx => hi 0 x (h.text x hx)⟩, ⟨by have := h.few; omega, fun x hx => hi 1 x (h.data x hx)⟩, ⟨by have := h.fewE; omega, fun q hq => ?_⟩, by have := h.globs; omega⟩
  have hQ := okE_okQ (h.equs q hq).1 (h.equs q hq).2.lin (by have := (h.equs q hq).2.few; omega)
  exact ⟨by have := hQ.name; omega, by have := (h.equs q hq).2.few; omega, fun t ht => by have := (hQ.lin.each t ht).1; omega⟩
theorem WOk.wr {u : UVal} (h : WOk u) (hl : (sUnit u).length ≤ 1048576) : WrN u 0 := ⟨0, h.rightN, .inr (.inr (.inr ⟨rfl, h.many, hl, rfl⟩))⟩
theorem wok_of {u : UVal} (hu : HeldU u) (hN : NumU u) (hW : WrN u 0) : WOk u ∧ (sUnit u).length ≤ 1048576 := by
  obtain ⟨m, hm, h⟩ := hW
  have h' : m = 0 ∧ manyU u = false ∧ (sUnit u).length ≤ 1048576 := by
    rcases h with h | h | h | h
    · exact absurd h.2 (by decide)
    · exact absurd h.2.2 (by decide)
    · exact absurd h.2.2.2 (by decide)
    · exact ⟨h.1, h.2.1, h.2.2.1⟩
  obtain ⟨rfl, hmu, hl⟩ := h'
  refine ⟨?_, hl⟩
  rcases hm with ⟨_, hm⟩ | ⟨h8, ⟨hR, _⟩ | ⟨_, hm⟩⟩
  · cases hm
  · unfold manyU at hmu
    rw [Bool.or_eq_false_iff, Bool.or_eq_false_iff, List.any_eq_false, List.any_eq_false, List.any_eq_false] at hmu
    obtain ⟨m1, m2, m3⟩ := hmu
    have ht := List.all_eq_true.1 hR.text
    have hd := List.all_eq_true.1 hR.data
    have he := List.all_eq_true.1 hR.equs
    have hT : ∀ x ∈ u.text, okI x 0 = true ∧ Fine x := fun x hx => ⟨ht x hx, hN.text x hx, by have := m1 x hx; simp [manyT] at this; omega, (hu.text.2 x hx).m, (hu.text.2 x hx).n⟩
    have hD : ∀ x ∈ u.data, okI x 1 = true ∧ Fine x := fun x hx => ⟨hd x hx, hN.data x hx, by have := m2 x hx; simp [manyT] at this; omega, (hu.data.2 x hx).m, (hu.data.2 x hx).n⟩
    have hE : ∀ q ∈ u.equs, okE q = true ∧ FineQ q := fun q hq => ⟨he q hq, hN.equs q hq, by have := m3 q hq; simp [manyQ] at this; omega⟩
    have hgiv : ∀ s ∈ u.globs, s ∈ u.names := fun s hs => mem_sortS.1 (hR.globs.2 s hs)
    have hleg : ∀ s ∈ u.names, legB (str s) = true := fun s hs => by
      unfold UVal.names at hs
      rcases List.mem_append.1 hs with hs | hs
      · rcases List.mem_append.1 hs with hs | hs
        · obtain ⟨x, hx, hk, rfl⟩ := labN_mem hs
          exact okI_leg (hT x hx).1 hk
        · obtain ⟨x, hx, hk, rfl⟩ := labN_mem hs
          exact okI_leg (hD x hx).1 hk
      · obtain ⟨q, hq, rfl⟩ := List.mem_map.1 hs
        have := (hE q hq).1
        unfold okE at this
        rw [Bool.and_eq_true] at this
        exact this.1
    exact ⟨hT, hD, hE, by omega, by omega, (twice_iff _).1 hR.once, asc_of hR.globs.1 (fun s hs => nlt_nil_of (legB_ne (hleg s (hgiv s (List.mem_of_getElem? hs))))), hgiv⟩
  · cases hm

section
variable {zs : List Int}
theorem head_fwd (h : At zs 0 hdL) : headF zs = (5, none) := by
  have ht := h.take
  have hd : hdL.length = 5 := rfl
  rw [List.drop_zero, hd] at ht
  have h5 := hdLoop_to zs 5 5 0 (by omega) (fun j _ hj => hd_at (m := 5) (by rw [ht]; rfl) j (by omega))
  unfold headF
  rw [h5]
  rfl
theorem head_bwd (h : (headF zs).2 = none) : headF zs = (5, none) ∧ At zs 0 hdL := by
  have key : ∀ (k i : Nat), (hdLoop zs k i).2 = none → hdLoop zs k i = (i + k, none) ∧ ∀ j, i ≤ j → j < i + k → zs[j]? = hdL[j]? := by
    intro k
    induction k with
    | zero => intro i _; exact ⟨rfl, fun j h1 h2 => by omega⟩
    | succ k ih =>
      intro i hh
      rw [hdLoop] at hh ⊢
      by_cases hq : zs[i]? = hdL[i]?
      · rw [if_pos hq] at hh ⊢
        obtain ⟨e1, e2⟩ := ih (i + 1) hh
        refine ⟨by rw [e1]; congr 1; omega, fun j h1 h2 => ?_⟩
        by_cases hj : j = i
        · subst hj; exact hq
        · exact e2 j (by omega) (by omega)
      · rw [if_neg hq] at hh
        cases hh
  obtain ⟨e1, e2⟩ := key 5 0 h
  have h4 := e2 4 (by omega) (by omega)
  have hl : 5 ≤ zs.length := by
    have : zs[4]? = some 1 := h4
    have := (List.getElem?_eq_some_iff.1 this).1
    omega
  have ht : zs.take 5 = hdL := by
    apply List.ext_getElem?
    intro j
    by_cases hj : j < 5
    · rw [List.getElem?_take, if_pos hj]
      exact e2 j (by omega) (by omega)
    · rw [List.getElem?_take, if_neg hj, List.getElem?_eq_none (by show 5 ≤ j; omega)]
  refine ⟨e1, ?_⟩
  have := At.of_take (zs := zs) (p := 0) (n := 5) (by omega)
  rw [List.drop_zero, ht] at this
  exact this

theorem unit_fwd {u : UVal} (hu : WOk u) (ys : List Int) : rdU (sUnit u ++ ys) = u ∧ rdBad (sUnit u ++ ys) = if ys = [] then none else some (((sUnit u).length : Int), 14) := by
  have h0 : At (sUnit u ++ ys) 0 (sUnit u) := At.here [] (sUnit u) ys
  generalize hz : sUnit u ++ ys = zs at *
  have hh := h0
  unfold sUnit at hh
  have hd := head_fwd hh.left
  have r1 := hh.right
  rw [show 0 + hdL.length = 5 from rfl] at r1
  have hn := hu.once
  unfold UVal.names at hn
  have hn1 := (List.nodup_append.1 hn).1
  have hn2 := (List.nodup_append.1 hn1).1
  have t1 : rdT zs = (u.text, [] ++ labN u.text, 5 + (sL sItem u.text).length, none) := by
    unfold rdT
    rw [hd]
    exact items_fwd r1.left (by have := hu.few; omega) (by have := hu.few; omega) hu.text (by simpa using hn2)
  have r2 := r1.right
  have t2 : rdD zs = (u.data, [] ++ labN u.text ++ labN u.data, 5 + (sL sItem u.text).length + (sL sItem u.data).length, none) := by
    unfold rdD rD
    rw [t1]
    exact items_fwd r2.left (by have := hu.few; show (u.data.length : Int) ≤ 8192 - (u.text.length : Int); omega) (by have := hu.few; omega) hu.data (by simpa using hn1)
  have r3 := r2.right
  have t3 : rdE zs = (u.equs, [] ++ labN u.text ++ labN u.data ++ u.equs.map (·.1), 5 + (sL sItem u.text).length + (sL sItem u.data).length + (sL sEqu u.equs).length, none) := by
    unfold rdE rE
    rw [t2]
    exact equs_fwd r3.left (by have := hu.fewE; omega) (by have := hu.fewE; omega) hu.equs (by simpa using hn)
  have r4 := r3.right
  have t4 : rdG zs = (u.globs, lastOf [] u.globs, 5 + (sL sItem u.text).length + (sL sItem u.data).length + (sL sEqu u.equs).length + (sL sTx u.globs).length, none) := by
    unfold rdG rG
    rw [t3]
    exact globs_fwd r4 hu.globs (fun s hs => ⟨by have := leg_len (hu.leg (hu.given s hs)); omega, by have := hu.given s hs; unfold UVal.names at this; simpa using this⟩) hu.asc
  have hlen : 5 + (sL sItem u.text).length + (sL sItem u.data).length + (sL sEqu u.equs).length + (sL sTx u.globs).length = (sUnit u).length := by
    unfold sUnit
    simp only [List.length_append]
    show _ = 5 + _
    omega
  have hzl : zs.length = (sUnit u).length + ys.length := by rw [← hz, List.length_append]
  refine ⟨?_, ?_⟩
  · unfold rdU
    rw [t1, t2, t3, t4]
  · unfold rdBad
    rw [t4]
    show tailB zs (5 + (sL sItem u.text).length + (sL sItem u.data).length + (sL sEqu u.equs).length + (sL sTx u.globs).length) none = _
    rw [hlen]
    unfold tailB
    by_cases hy : ys = []
    · rw [if_pos hy, if_neg]
      rw [hy] at hzl
      simp at hzl
      omega
    · have : 0 < ys.length := List.length_pos_iff.2 hy
      rw [if_neg hy, if_pos (by omega)]
      rfl

theorem unit_bwd (hz : O.AreBytes zs) (h : rdBad zs = none) : WOk (rdU zs) ∧ zs = sUnit (rdU zs) := by
  unfold rdBad tailB at h
  have hend : (rdG zs).2.2.2 = none ∧ zs.length ≤ (rdG zs).2.2.1 := by
    split at h
    · exact absurd h firstR_some
    · exact ⟨h, by omega⟩
  have g4 := globs_bwd hz (g := (rdE zs).2.1) (la := []) (p := (rdE zs).2.2.1) (b := (rdE zs).2.2.2) hend.1
  obtain ⟨b3, lg, e41, e42, e43, e44, e45, e46⟩ := g4
  have hT0 : (rdE zs).2.2.2 = none := b3
  have hgT : ([] : INm).Nodup := List.nodup_nil
  -- the refusals ahead
  have hEb : (rdD zs).2.2.2 = none := by
    have : (rdEqus zs 8192 (rdD zs).2.1 (rdD zs).2.2.1 (rdD zs).2.2.2).2.2.2 = none := hT0
    cases hq : (rdD zs).2.2.2 with
    | none => rfl
    | some f =>
      rw [hq] at this
      unfold rdEqus at this
      have hm : manyB (rdV zs (rdD zs).2.2.1 2) 8192 (rdD zs).2.2.1 (rdB zs (rdD zs).2.2.1 2 (some f)) ≠ none := by
        unfold manyB rdB
        split
        · exact firstR_some
        · split
          · simp
          · exact firstR_some
      cases hq2 : manyB (rdV zs (rdD zs).2.2.1 2) 8192 (rdD zs).2.2.1 (rdB zs (rdD zs).2.2.1 2 (some f)) with
      | none => exact absurd hq2 hm
      | some f2 => rw [hq2] at this; exact absurd this eqLoop_some
  have hsm : ∀ (n most : Int) (q : Nat) (f : Int × Int), manyB n most q (rdB zs q 2 (some f)) ≠ none := fun n most q f => by
    unfold manyB rdB
    split
    · exact firstR_some
    · split
      · simp
      · exact firstR_some
  have hDb : (rdT zs).2.2.2 = none := by
    have : (rdItems zs 1 (8192 - ((rdT zs).1.length : Int)) (rdT zs).2.1 (rdT zs).2.2.1 (rdT zs).2.2.2).2.2.2 = none := hEb
    cases hq : (rdT zs).2.2.2 with
    | none => rfl
    | some f =>
      rw [hq] at this
      unfold rdItems at this
      exact absurd (itLoop_b this) (hsm _ _ _ f)
  have hTb : (headF zs).2 = none := by
    have : (rdItems zs 0 8192 [] (headF zs).1 (headF zs).2).2.2.2 = none := hDb
    cases hq : (headF zs).2 with
    | none => rfl
    | some f =>
      rw [hq] at this
      unfold rdItems at this
      exact absurd (itLoop_b this) (hsm _ _ _ f)
  obtain ⟨hd1, hd2⟩ := head_bwd hTb
  -- the parts
  have p1 := items_bwd hz (sec := 0) (most := 8192) (p := (headF zs).1) (b := (headF zs).2) hgT hDb
  obtain ⟨_, lt, a1, a2, a3, a4, a5, a6, a7, a8⟩ := p1
  have p2 := items_bwd hz (sec := 1) (most := 8192 - ((rdT zs).1.length : Int)) (g := (rdT zs).2.1) (p := (rdT zs).2.2.1) (b := (rdT zs).2.2.2) (by rw [show (rdT zs).2.1 = [] ++ labN lt from a6]; exact a7) hEb
  obtain ⟨_, ld, b1, b2, b3', b4, b5, b6, b7, b8⟩ := p2
  have p3 := equs_bwd hz (most := 8192) (g := (rdD zs).2.1) (p := (rdD zs).2.2.1) (b := (rdD zs).2.2.2) (by rw [show (rdD zs).2.1 = (rdT zs).2.1 ++ labN ld from b6]; exact b7) hT0
  obtain ⟨_, le, c1, c2, c3, c4, c5, c6, c7, c8⟩ := p3
  have eT : (rdU zs).text = lt := a1
  have eD : (rdU zs).data = ld := b1
  have eE : (rdU zs).equs = le := c1
  have eG : (rdU zs).globs = lg := e41
  have nT : (rdT zs).2.1 = labN lt := by rw [show (rdT zs).2.1 = [] ++ labN lt from a6]; rfl
  have nD : (rdD zs).2.1 = labN lt ++ labN ld := by rw [show (rdD zs).2.1 = (rdT zs).2.1 ++ labN ld from b6, nT]
  have nE : (rdE zs).2.1 = labN lt ++ labN ld ++ le.map (·.1) := by rw [show (rdE zs).2.1 = (rdD zs).2.1 ++ le.map (·.1) from c6, nD]
  have nm : (rdU zs).names = labN lt ++ labN ld ++ le.map (·.1) := by unfold UVal.names; rw [eT, eD, eE]
  have hW : WOk (rdU zs) := by
    refine ⟨by rw [eT]; exact a8, by rw [eD]; exact b8, by rw [eE]; exact c8, ?_, by rw [eE]; omega, ?_, by rw [eG]; exact e45, ?_⟩
    · rw [eT, eD]
      have : ((rdT zs).1.length : Int) = (lt.length : Int) := by rw [show (rdT zs).1 = lt from a1]
      omega
    · rw [nm]
      have := c7
      rw [nD] at this
      exact this
    · rw [eG, nm]
      intro s hs
      have := e46 s hs
      rwa [nE] at this
  refine ⟨hW, ?_⟩
  have q1 : (headF zs).1 = 5 := by rw [hd1]
  have q2 : (rdT zs).2.2.1 = 5 + (sL sItem lt).length := by rw [show (rdT zs).2.2.1 = (headF zs).1 + (sL sItem lt).length from a5, q1]
  have q3 : (rdD zs).2.2.1 = 5 + (sL sItem lt).length + (sL sItem ld).length := by rw [show (rdD zs).2.2.1 = (rdT zs).2.2.1 + (sL sItem ld).length from b5, q2]
  have q4 : (rdE zs).2.2.1 = 5 + (sL sItem lt).length + (sL sItem ld).length + (sL sEqu le).length := by rw [show (rdE zs).2.2.1 = (rdD zs).2.2.1 + (sL sEqu le).length from c5, q3]
  have q5 : (rdG zs).2.2.1 = 5 + (sL sItem lt).length + (sL sItem ld).length + (sL sEqu le).length + (sL sTx lg).length := by rw [show (rdG zs).2.2.1 = (rdE zs).2.2.1 + (sL sTx lg).length from e44, q4]
  rw [q1] at a4
  rw [q2] at b4
  rw [q3] at c4
  rw [q4] at e43
  have hA : At zs 0 (hdL ++ (sL sItem lt ++ (sL sItem ld ++ (sL sEqu le ++ sL sTx lg)))) := hd2.app (a4.app (b4.app (c4.app e43)))
  have hS : sUnit (rdU zs) = hdL ++ (sL sItem lt ++ (sL sItem ld ++ (sL sEqu le ++ sL sTx lg))) := by unfold sUnit; rw [eT, eD, eE, eG]
  rw [← hS] at hA
  have hl : (sUnit (rdU zs)).length = (rdG zs).2.2.1 := by
    rw [q5, hS]
    simp only [List.length_append]
    show 5 + _ = _
    omega
  have h1 := hA.1
  rw [List.drop_zero, Nat.zero_add, List.drop_of_length_le (by omega), List.append_nil] at h1
  exact h1
end
end Go.Proofs.YtmndccbeddaphaaGreatDoor
namespace Go.Proofs.YtmndccbeddaphaaGreatDoor
open Go.ChangeShapes Go.WideShapes Go.ChangeAt Go.RowKit
set_option linter.unusedVariables false
set_option linter.unusedSimpArgs false
set_option maxRecDepth 100000

theorem neq_if (a : Addr) (w : World) : (binOp .neq 32 (.iface 66 (.pointer (some a))) .nilIface).run Tryz.prog w = .ok (.bool true) w := by kernel_rfl
theorem neq_nil (w : World) : (binOp .neq 32 .nilIface .nilIface).run Tryz.prog w = .ok (.bool false) w := by kernel_rfl
theorem keepB2 {w w' : World} {g : Nat} {x : Obj} (h : w.heap[g]? = some x) (hb : Below w.heap.size w w') : w'.heap[g]? = some x := (hb.block g (Array.getElem?_eq_some_iff.1 h).1).trans h
theorem bchn {w w1 w2 : World} (h1 : Below w.heap.size w w1) (h2 : Below w1.heap.size w1 w2) : Below w.heap.size w w2 := h1.trans (h2.mono h1.size)
theorem usAt_one (ta : Option Addr) (tc : Nat) (da : Option Addr) (dc : Nat) (ea : Option Addr) (ec : Nat) (ga : Option Addr) (gc : Nat) (u : UVal) (hu : HeldU u) (w : World) : UsAt (w.alloc (.cells (unitV ta tc da dc ea ec ga gc u) 30)) w.heap.size 1 := by
  have e1 := heap_alloc_new w (.cells (unitV ta tc da dc ea ec ga gc u) 30)
  refine ⟨blk_lt e1, fun i hi => ?_⟩
  obtain rfl : i = 0 := by omega
  obtain ⟨d0, d1, d2, d3⟩ := four_read e1
  exact ⟨_, _, _, _, _, _, _, _, _, d0, d1, d2, hu.text.1, hu.data.1, hu.equs.1⟩
theorem usAt_blk (ta : Option Addr) (tc : Nat) (da : Option Addr) (dc : Nat) (ea : Option Addr) (ec : Nat) (ga : Option Addr) (gc : Nat) (u : UVal) (hu : HeldU u) {w : World} {g : Nat} (hb : w.heap[g]? = some (.cells (unitV ta tc da dc ea ec ga gc u) 30 (0, 0))) : UsAt w g 1 := by
  refine ⟨blk_lt hb, fun i hi => ?_⟩
  obtain rfl : i = 0 := by omega
  obtain ⟨d0, d1, d2, d3⟩ := four_read hb
  exact ⟨_, _, _, _, _, _, _, _, _, d0, d1, d2, hu.text.1, hu.data.1, hu.equs.1⟩
theorem sUnit_bytes {u : UVal} (h : WOk u) : O.AreBytes (sUnit u) := by
  have hL : ∀ x : Lin, O.AreBytes (sLin x) := fun x => by
    unfold sLin sTms
    intro z hz
    rcases List.mem_append.1 hz with hz | hz
    · rcases List.mem_append.1 hz with hz | hz
      · exact O.leB_bytes _ _ z hz
      · obtain ⟨t, _, ht⟩ := List.mem_flatMap.1 hz
        unfold sTm at ht
        rcases List.mem_append.1 ht with ht | ht
        · exact O.putT_bytes [] _ (fun z hz => absurd hz (by simp)) z ht
        · exact O.leB_bytes _ _ z ht
    · exact O.leB_bytes _ _ z hz
  have hX : ∀ s, O.AreBytes (sTx s) := fun s => O.putT_bytes [] _ (fun z hz => absurd hz (by simp))
  have hI : ∀ x : Itm, O.AreBytes (sItem x) := fun x => by
    unfold sItem
    intro z hz
    rcases List.mem_append.1 hz with hz | hz
    · exact O.leB_bytes _ _ z hz
    · split at hz
      · exact hX _ z hz
      · split at hz
        · unfold sCode at hz
          simp only [List.mem_append] at hz
          rcases hz with (((hz | hz) | hz) | hz) | hz
          · exact O.leB_bytes _ _ z hz
          · exact O.leB_bytes _ _ z hz
          · exact O.leB_bytes _ _ z hz
          · exact O.leB_bytes _ _ z hz
          · split at hz
            · exact hL _ z hz
            · cases hz
        · split at hz
          · exact O.leB_bytes _ _ z hz
          · split at hz
            · exact hL _ z hz
            · split at hz
              · exact O.leB_bytes _ _ z hz
              · cases hz
  have hS : ∀ {α : Type} (f : α → List Int) (l : List α), (∀ x, O.AreBytes (f x)) → O.AreBytes (sL f l) := fun f l hf z hz => by
    unfold sL at hz
    rcases List.mem_append.1 hz with hz | hz
    · exact O.leB_bytes _ _ z hz
    · obtain ⟨t, _, ht⟩ := List.mem_flatMap.1 hz
      exact hf t z ht
  unfold sUnit
  intro z hz
  simp only [List.mem_append] at hz
  rcases hz with hz | hz | hz | hz | hz
  · unfold hdL at hz; simp at hz; omega
  · exact hS _ _ hI z hz
  · exact hS _ _ hI z hz
  · exact hS _ _ (fun q z hz => by unfold sEqu at hz; rcases List.mem_append.1 hz with hz | hz; exact hX _ z hz; exact hL _ z hz) z hz
  · exact hS _ _ hX z hz

/-- Write, in the two ways that it ends -/
theorem write_two (ta : Option Addr) (tc : Nat) (da : Option Addr) (dc : Nat) (ea : Option Addr) (ec : Nat) (ga : Option Addr) (gc : Nat) (u : UVal) (hu : HeldU u) (hN : NumU u) (w : World) (hE : Env w) (hI : UnitIn w ta da ea ga u) : Calls Tryz.prog 9 #[.agg (unitV ta tc da dc ea ec ga gc u)] w fun e w' => Below w.heap.size w w' ∧ ((∃ n, n ≠ 0 ∧ (n == 0) = false ∧ WrN u n ∧ e = .returned (.tuple #[.slice none 0 0, .int .i64 n])) ∨ (WOk u ∧ (sUnit u).length ≤ 1048576 ∧ ∃ a c, e = .returned (.tuple #[.slice a (sUnit u).length c, .int .i64 0]) ∧ O.Got w' w.heap.size a c (sUnit u))) := by
  refine (write_is ta tc da dc ea ec ga gc u hu hN w hE.tab hI).mono ?_
  rintro e w' ⟨hB, n, hn, ⟨h0, h⟩ | ⟨rfl, a, c, h1, h2⟩⟩
  · exact ⟨hB, .inl ⟨n, h0, by simpa using h0, hn, h⟩⟩
  · obtain ⟨k1, k2⟩ := wok_of hu hN hn
    exact ⟨hB, .inr ⟨k1, k2, a, c, h1, h2⟩⟩
/-- Read of what was written -/
theorem read_back {u : UVal} (hu : WOk u) (hl : (sUnit u).length ≤ 1048576) (w : World) (hE : Env w) {lo : Nat} {a : Option Addr} {c : Nat} (hg : O.Got w lo a c (sUnit u)) : Calls Tryz.prog 10 #[.slice a (sUnit u).length c] w fun e w' => Below w.heap.size w w' ∧ ∃ ta tc da dc ea ec ga gc, e = .returned (.tuple #[.agg (unitV ta tc da dc ea ec ga gc u), .nilIface]) ∧ UnitIn w' ta da ea ga u := by
  obtain ⟨l1, l2, l3⟩ := got_lies hg (sUnit_bytes hu)
  have hf := unit_fwd hu []
  rw [List.append_nil, if_pos rfl] at hf
  refine (read_ok hE l1 l2 hl l3 hf.2).mono ?_
  rintro e w' ⟨hB, ta, tc, da, dc, ea, ec, ga, gc, h1, h2⟩
  rw [hf.1] at h1 h2
  exact ⟨hB, ta, tc, da, dc, ea, ec, ga, gc, h1, h2⟩
/-- Read, in the two ways that it ends -/
theorem read_two {w : World} {a : Option Addr} {c : Nat} {zs : List Int} (hE : Env w) (hl : O.Lies w a zs) (ha : ∀ x, a = some x → x.block < w.heap.size) (hn : zs.length ≤ 1048576) (hc : zs.length ≤ c) : Calls Tryz.prog 10 #[.slice a zs.length c] w fun e w' => Below w.heap.size w w' ∧ ((∃ q, e = .returned (.tuple #[.agg uZ, .iface 66 (.pointer (some ⟨q, 0, none⟩))])) ∨ (WOk (rdU zs) ∧ zs = sUnit (rdU zs) ∧ ∃ ta tc da dc ea ec ga gc, e = .returned (.tuple #[.agg (unitV ta tc da dc ea ec ga gc (rdU zs)), .nilIface]) ∧ UnitIn w' ta da ea ga (rdU zs))) := by
  refine (read_is hl ha hn hc hE.tab).mono ?_
  rintro e w' ⟨hB, ⟨f, q, h1, h2, h3⟩ | ⟨h1, vt, vd, ve, vg, LT, LD, LE, LG, h2, h3, m1, m2, m3, m4⟩⟩
  · exact ⟨hB, .inl ⟨q, h2⟩⟩
  · obtain ⟨ta, tc, da, dc, ea, ec, ga, gc, hv, hI⟩ := h3.unitIn m1 m2 m3 m4
    obtain ⟨k1, k2⟩ := unit_bwd hl.1 h1
    exact ⟨hB, .inr ⟨k1, k2, ta, tc, da, dc, ea, ec, ga, gc, by rw [h2, hv], hI⟩⟩

set_option maxHeartbeats 16000000 in
theorem backW (ta : Option Addr) (tc : Nat) (da : Option Addr) (dc : Nat) (ea : Option Addr) (ec : Nat) (ga : Option Addr) (gc : Nat) (u : UVal) (hu : HeldU u) (hN : NumU u) (ab : Option Addr) (cb : Nat) (zb : List Int) (w : World) (hE : Env w) (hI : UnitIn w ta da ea ga u) (hl : O.Lies w ab zb) (ha : ∀ x, ab = some x → x.block < w.heap.size) (hcb : zb.length ≤ cb) (hbig : zb.length ≤ maxLen) : Calls Tryz.prog 6 #[.agg (unitV ta tc da dc ea ec ga gc u), .slice ab zb.length cb] w fun e w' => e = .returned (.bool true) ∧ Below w.heap.size w w' := by
  obtain ⟨nb, hnz⟩ : ∃ nb, nb = zb.length := ⟨_, rfl⟩
  rw [← hnz] at hbig ⊢
  unfold maxLen at hbig
  replace hnz := Hid.intro hnz
  have n_if := neq_if
  have n_nil := neq_nil
  have e1 := heap_alloc_new w (.cells (unitV ta tc da dc ea ec ga gc u) 30)
  have b1 := Hid.intro (below_alloc w (.cells (unitV ta tc da dc ea ec ga gc u) 30))
  replace hl := Hid.intro hl
  replace ha := Hid.intro ha
  replace hcb := Hid.intro hcb
  replace hE := Hid.intro hE
  have hI1 := Hid.intro (hI.below b1.out)
  have hu2 := Hid.intro hu
  have hN2 := Hid.intro hN
  clear hI hu hN
  obtain ⟨x0, x1, x2, x3⟩ := four_read e1
  have e1h := Hid.intro e1
  have h13 : Hid (∀ w1 g, w1.heap[g]? = some (.cells (unitV ta tc da dc ea ec ga gc u) 30 (0, 0)) → Calls Tryz.prog 13 #[.slice (some ⟨g, 0, none⟩) 1 1] w1 fun r w' => BoolOut r ∧ Below w1.heap.size w1 w') := fun w1 g h1 => large_is g 1 (by decide) w1 (usAt_blk ta tc da dc ea ec ga gc u hu2.out h1)
  have h13a := Hid.intro (h13.out ((w.alloc (.cells (unitV ta tc da dc ea ec ga gc u) 30)).alloc (.cells (unitV ta tc da dc ea ec ga gc u) 30)) (w.heap.size + 1) (by have := heap_alloc_new (w.alloc (.cells (unitV ta tc da dc ea ec ga gc u) 30)) (.cells (unitV ta tc da dc ea ec ga gc u) 30); rw [World.size_alloc] at this; exact this))
  clear h13
  go_enter Tryz.func6, Tryz.ntmps6
  have h12 : Hid (∀ w1, Below w.heap.size w w1 → Calls Tryz.prog 12 #[] w1 fun e w' => e = .returned (.bool true) ∧ Below w.heap.size w w') := fun w1 h1 => (known_is w1 (hE.out.below h1)).mono (fun e w2 h => ⟨h.1, bchn h1 h.2⟩)
  have b2 := Hid.intro (bchn b1.out (below_alloc (w.alloc (.cells (unitV ta tc da dc ea ec ga gc u) 30)) (.cells (unitV ta tc da dc ea ec ga gc u) 30)))
  rcases Nat.lt_or_ge 3000 nb with hnb | hnb
  · have q0 : decide ((nb : Int) > 3000) = true := by simp; omega
    have q1 : decide ((3000 : Int) < (nb : Int)) = true := by simp; omega
    go_wp2_with (first
      | (go_at_call 13; (with_reducible refine (h13a.out).mono ?_); rintro e w3 ⟨⟨bv, rfl⟩, b3⟩; replace b3 := Hid.intro (bchn b2.out b3); cases bv <;> clear h13a)
      | (go_at_call 12; (with_reducible refine (h12.out _ b3.out).mono ?_); rintro e w4 ⟨rfl, b4⟩; replace b4 := Hid.intro b4))
    all_goals first | omega | skip
    all_goals go_ret
    all_goals exact ⟨rfl, b4.out⟩
  · have q0 : decide ((nb : Int) > 3000) = false := by simp; omega
    have q1 : decide ((3000 : Int) < (nb : Int)) = false := by simp; omega
    go_upto_region 3 with (first
      | (go_at_call 13; (with_reducible refine (h13a.out).mono ?_); rintro e w3 ⟨⟨bv, rfl⟩, b3⟩; have b3' := Hid.intro (bchn b1.out (bchn (below_alloc (w.alloc (.cells (unitV ta tc da dc ea ec ga gc u) 30)) (.cells (unitV ta tc da dc ea ec ga gc u) 30)) b3)); have hu3 := Hid.intro (keepB2 e1h.out (bchn (below_alloc (w.alloc (.cells (unitV ta tc da dc ea ec ga gc u) 30)) (.cells (unitV ta tc da dc ea ec ga gc u) 30)) b3)); have hI3 := Hid.intro (hI1.out.below (bchn (below_alloc (w.alloc (.cells (unitV ta tc da dc ea ec ga gc u) 30)) (.cells (unitV ta tc da dc ea ec ga gc u) 30)) b3)); clear b3; cases bv <;> clear h13a)
      | (go_at_call 12; (with_reducible refine (h12.out _ b3'.out).mono ?_); rintro e w4 ⟨rfl, b4⟩; replace b4 := Hid.intro b4))
    all_goals first | omega | skip
    rotate_left
    · go_ret
      exact ⟨rfl, b4.out⟩
    · clear x0 x1 x2 x3 e1
      obtain ⟨x0, x1, x2, x3⟩ := four_read hu3.out
      have hE3 := Hid.intro (hE.out.below b3'.out)
      have h9 := Hid.intro (write_two ta tc da dc ea ec ga gc u hu2.out hN2.out w3 hE3.out hI3.out)
      go_upto_region 4 with (go_at_call 9; (with_reducible refine (h9.out).mono ?_); rintro e w4 ⟨b4, h4⟩; have hu4 := Hid.intro (keepB2 hu3.out b4); have hI4 := Hid.intro (hI3.out.below b4); replace b4 := Hid.intro (bchn b3'.out b4); rcases h4 with ⟨n, hn0, hn1, hn2, rfl⟩ | ⟨k1, k2, xa, xc, rfl, xg⟩ <;> clear h9)
      all_goals first | omega | skip
      · clear hn2
        go_upto_region 8 with fail
        all_goals first | omega | skip
        have b8 := b4
        have hE8 := Hid.intro (hE.out.below b8.out)
        have hL8 := O.Lies.below hl.out b8.out
        have hr8 := Hid.intro (read_two (c := cb) hE8.out hL8 (fun x hx => Nat.lt_of_lt_of_le (ha.out x hx) b8.out.size) (by have := hnz.out; omega) hcb.out)
        rw [← hnz.out] at hr8
        clear hL8
        go_upto_region 9 with (go_at_call 10; (with_reducible refine (hr8.out).mono ?_); rintro e w9 ⟨b9, hx9⟩; replace b9 := Hid.intro (bchn b8.out b9); rcases hx9 with ⟨q9, rfl⟩ | ⟨k9, k10, ra, rc, sa, sc, xa, xc, ya, yc, rfl, hI9⟩ <;> first | (replace k10 := Hid.intro k10; clear hr8) | clear hr8)
        all_goals first | omega | skip
        · have b10 := Hid.intro (bchn b9.out (below_alloc w9 (.cells uZ 30)))
          have hu9 := heap_alloc_new w9 (.cells uZ 30)
          generalize w9.alloc (.cells uZ 30) = w10 at *
          obtain ⟨y0, y1, y2, y3⟩ := four_read hu9
          have h18 := Hid.intro (same_E w10 none 0 none 0 none 0 none 0)
          have h12 : Hid (∀ w1, Below w10.heap.size w10 w1 → _) := fun w1 (h1 : Below w10.heap.size w10 w1) => known_is w1 (hE.out.below (bchn b10.out h1))
          go_wp2_with (first
            | (go_at_call 18; (with_reducible refine (h18.out).mono ?_); rintro e w11 ⟨rfl, b11⟩; replace b11 := Hid.intro b11)
            | (go_at_call 12; (with_reducible refine (h12.out _ b11.out).mono ?_); rintro e w12 ⟨rfl, b12⟩; replace b12 := Hid.intro b12))
          all_goals first | omega | skip
          go_ret
          exact ⟨rfl, bchn b10.out (bchn b11.out b12.out)⟩
        · obtain ⟨v, hv⟩ : ∃ v, v = rdU zb := ⟨_, rfl⟩
          rw [← hv] at k9 k10 hI9 ⊢
          have b10 := Hid.intro (bchn b9.out (below_alloc w9 (.cells (unitV ra rc sa sc xa xc ya yc v) 30)))
          have hu9 := heap_alloc_new w9 (.cells (unitV ra rc sa sc xa xc ya yc v) 30)
          have hI10 := Hid.intro (hI9.below (below_alloc w9 (.cells (unitV ra rc sa sc xa xc ya yc v) 30)))
          clear hI9 hv
          generalize w9.alloc (.cells (unitV ra rc sa sc xa xc ya yc v) 30) = w10 at *
          obtain ⟨y0, y1, y2, y3⟩ := four_read hu9
          have hE10 := Hid.intro (hE.out.below b10.out)
          have h9 : Hid (Calls Tryz.prog 9 #[.agg (unitV ra rc sa sc xa xc ya yc v)] w10 fun e w' => Below w10.heap.size w10 w' ∧ ∃ a c, e = .returned (.tuple #[.slice a nb c, .int .i64 0]) ∧ O.Got w' w10.heap.size a c zb) := by
            refine (write_two ra rc sa sc xa xc ya yc v k9.held k9.num w10 hE10.out hI10.out).mono ?_
            rintro e w11 ⟨hB, ⟨n, h0, _, hn, _⟩ | ⟨_, _, a, c, h1, h2⟩⟩
            · exact absurd (wrN_one hn (k9.wr (by rw [← k10.out, ← hnz.out]; omega))) h0
            · rw [← k10.out] at h1 h2
              rw [← hnz.out] at h1
              exact ⟨hB, a, c, h1, h2⟩
          have h15 : Hid (∀ w1 lo a c, Below w10.heap.size w10 w1 → O.Got w1 lo a c zb → Calls Tryz.prog 15 #[.slice a nb c, .slice ab nb cb] w1 fun e w' => e = .returned (.bool true) ∧ Below w1.heap.size w1 w') := fun w1 lo a c h1 h2 => by
            have hl1 := O.Lies.below hl.out (bchn b10.out h1)
            have := O.same_eq a ab c cb zb w1 (got_lies h2 hl.out.1).1 hl1 (by rw [← hnz.out]; unfold maxLen; omega)
            rw [← hnz.out] at this
            refine this.mono ?_
            rintro e w2 ⟨rfl, k, rfl⟩
            exact ⟨rfl, below_drewN (Below.refl _ _) k⟩
          have h12 : Hid (∀ w1, Below w10.heap.size w10 w1 → _) := fun w1 (h1 : Below w10.heap.size w10 w1) => known_is w1 (hE10.out.below h1)
          clear k9 k10 hI10
          go_wp2_with (first
            | (go_at_call 9; (with_reducible refine (h9.out).mono ?_); rintro e w11 ⟨b11, a11, c11, rfl, g11⟩; replace b11 := Hid.intro b11; replace g11 := Hid.intro g11; clear h9)
            | (go_at_call 15; (with_reducible refine (h15.out _ _ _ _ b11.out g11.out).mono ?_); rintro e w12 ⟨rfl, b12⟩; replace b12 := Hid.intro (bchn b11.out b12))
            | (go_at_call 12; (with_reducible refine (h12.out _ b12.out).mono ?_); rintro e w13 ⟨rfl, b13⟩; replace b13 := Hid.intro b13))
          all_goals first | omega | skip
          go_ret
          exact ⟨rfl, bchn b10.out (bchn b12.out b13.out)⟩
      · have hE4 := Hid.intro (hE.out.below b4.out)
        have hrb := Hid.intro (read_back k1 k2 w4 hE4.out xg)
        generalize (sUnit u).length = nx at *
        clear k1 k2 xg
        go_upto_region 6 with (go_at_call 10; (with_reducible refine (hrb.out).mono ?_); rintro e w5 ⟨b5, pa, pc, oa, oc, qa, qc, ga5, gc5, rfl, hI5⟩; have hI6 := Hid.intro (hI5.below (below_alloc w5 (.cells (unitV pa pc oa oc qa qc ga5 gc5 u) 30))); have hu6 := Hid.intro (keepB2 (keepB2 hu4.out b5) (below_alloc w5 (.cells (unitV pa pc oa oc qa qc ga5 gc5 u) 30))); have hI4b := Hid.intro ((hI4.out.below b5).below (below_alloc w5 (.cells (unitV pa pc oa oc qa qc ga5 gc5 u) 30))); have hv6 := Hid.intro (heap_alloc_new w5 (.cells (unitV pa pc oa oc qa qc ga5 gc5 u) 30)); have b6 := Hid.intro (bchn b4.out (bchn b5 (below_alloc w5 (.cells (unitV pa pc oa oc qa qc ga5 gc5 u) 30)))); clear hrb hI5 b5)
        all_goals first | omega | skip
        generalize w5.alloc (.cells (unitV pa pc oa oc qa qc ga5 gc5 u) 30) = w6 at *
        clear x0 x1 x2 x3
        obtain ⟨x0, x1, x2, x3⟩ := four_read hu6.out
        obtain ⟨z0, z1, z2, z3⟩ := four_read hv6.out
        have h18 := Hid.intro (sameUnit_any ta da ea ga pa oa qa ga5 tc dc ec gc pc oc qc gc5 u hu2.out w6 hI4b.out hI6.out)
        go_upto_region 8 with (go_at_call 18; (with_reducible refine (h18.out).mono ?_); rintro e w7 ⟨rfl, b7⟩; have b8 := Hid.intro (bchn b6.out b7); clear h18 b7)
        all_goals first | omega | skip
        have hE8 := Hid.intro (hE.out.below b8.out)
        have hL8 := O.Lies.below hl.out b8.out
        have hr8 := Hid.intro (read_two (c := cb) hE8.out hL8 (fun x hx => Nat.lt_of_lt_of_le (ha.out x hx) b8.out.size) (by have := hnz.out; omega) hcb.out)
        rw [← hnz.out] at hr8
        clear hL8
        go_upto_region 9 with (go_at_call 10; (with_reducible refine (hr8.out).mono ?_); rintro e w9 ⟨b9, hx9⟩; replace b9 := Hid.intro (bchn b8.out b9); rcases hx9 with ⟨q9, rfl⟩ | ⟨k9, k10, ra, rc, sa, sc, xa, xc, ya, yc, rfl, hI9⟩ <;> first | (replace k10 := Hid.intro k10; clear hr8) | clear hr8)
        all_goals first | omega | skip
        · have b10 := Hid.intro (bchn b9.out (below_alloc w9 (.cells uZ 30)))
          have hu9 := heap_alloc_new w9 (.cells uZ 30)
          generalize w9.alloc (.cells uZ 30) = w10 at *
          obtain ⟨y0, y1, y2, y3⟩ := four_read hu9
          have h18 := Hid.intro (same_E w10 none 0 none 0 none 0 none 0)
          have h12 : Hid (∀ w1, Below w10.heap.size w10 w1 → _) := fun w1 (h1 : Below w10.heap.size w10 w1) => known_is w1 (hE.out.below (bchn b10.out h1))
          go_wp2_with (first
            | (go_at_call 18; (with_reducible refine (h18.out).mono ?_); rintro e w11 ⟨rfl, b11⟩; replace b11 := Hid.intro b11)
            | (go_at_call 12; (with_reducible refine (h12.out _ b11.out).mono ?_); rintro e w12 ⟨rfl, b12⟩; replace b12 := Hid.intro b12))
          all_goals first | omega | skip
          go_ret
          exact ⟨rfl, bchn b10.out (bchn b11.out b12.out)⟩
        · obtain ⟨v, hv⟩ : ∃ v, v = rdU zb := ⟨_, rfl⟩
          rw [← hv] at k9 k10 hI9 ⊢
          have b10 := Hid.intro (bchn b9.out (below_alloc w9 (.cells (unitV ra rc sa sc xa xc ya yc v) 30)))
          have hu9 := heap_alloc_new w9 (.cells (unitV ra rc sa sc xa xc ya yc v) 30)
          have hI10 := Hid.intro (hI9.below (below_alloc w9 (.cells (unitV ra rc sa sc xa xc ya yc v) 30)))
          clear hI9 hv
          generalize w9.alloc (.cells (unitV ra rc sa sc xa xc ya yc v) 30) = w10 at *
          obtain ⟨y0, y1, y2, y3⟩ := four_read hu9
          have hE10 := Hid.intro (hE.out.below b10.out)
          have h9 : Hid (Calls Tryz.prog 9 #[.agg (unitV ra rc sa sc xa xc ya yc v)] w10 fun e w' => Below w10.heap.size w10 w' ∧ ∃ a c, e = .returned (.tuple #[.slice a nb c, .int .i64 0]) ∧ O.Got w' w10.heap.size a c zb) := by
            refine (write_two ra rc sa sc xa xc ya yc v k9.held k9.num w10 hE10.out hI10.out).mono ?_
            rintro e w11 ⟨hB, ⟨n, h0, _, hn, _⟩ | ⟨_, _, a, c, h1, h2⟩⟩
            · exact absurd (wrN_one hn (k9.wr (by rw [← k10.out, ← hnz.out]; omega))) h0
            · rw [← k10.out] at h1 h2
              rw [← hnz.out] at h1
              exact ⟨hB, a, c, h1, h2⟩
          have h15 : Hid (∀ w1 lo a c, Below w10.heap.size w10 w1 → O.Got w1 lo a c zb → Calls Tryz.prog 15 #[.slice a nb c, .slice ab nb cb] w1 fun e w' => e = .returned (.bool true) ∧ Below w1.heap.size w1 w') := fun w1 lo a c h1 h2 => by
            have hl1 := O.Lies.below hl.out (bchn b10.out h1)
            have := O.same_eq a ab c cb zb w1 (got_lies h2 hl.out.1).1 hl1 (by rw [← hnz.out]; unfold maxLen; omega)
            rw [← hnz.out] at this
            refine this.mono ?_
            rintro e w2 ⟨rfl, k, rfl⟩
            exact ⟨rfl, below_drewN (Below.refl _ _) k⟩
          have h12 : Hid (∀ w1, Below w10.heap.size w10 w1 → _) := fun w1 (h1 : Below w10.heap.size w10 w1) => known_is w1 (hE10.out.below h1)
          clear k9 k10 hI10
          go_wp2_with (first
            | (go_at_call 9; (with_reducible refine (h9.out).mono ?_); rintro e w11 ⟨b11, a11, c11, rfl, g11⟩; replace b11 := Hid.intro b11; replace g11 := Hid.intro g11; clear h9)
            | (go_at_call 15; (with_reducible refine (h15.out _ _ _ _ b11.out g11.out).mono ?_); rintro e w12 ⟨rfl, b12⟩; replace b12 := Hid.intro (bchn b11.out b12))
            | (go_at_call 12; (with_reducible refine (h12.out _ b12.out).mono ?_); rintro e w13 ⟨rfl, b13⟩; replace b13 := Hid.intro b13))
          all_goals first | omega | skip
          go_ret
          exact ⟨rfl, bchn b10.out (bchn b12.out b13.out)⟩

end Go.Proofs.YtmndccbeddaphaaGreatDoor

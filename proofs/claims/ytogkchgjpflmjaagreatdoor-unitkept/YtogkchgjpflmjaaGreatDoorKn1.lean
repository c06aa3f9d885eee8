/- The law's known. -/
import Derived.Test.YtogkchgjpflmjaaGreatDoorAsb1
import Derived.Test.YtogkchgjpflmjaaGreatDoorEnv9
/- What is assembled is right. -/
namespace Go.Proofs.YtogkchgjpflmjaaGreatDoor
open Go.Sort
set_option linter.unusedVariables false
set_option maxRecDepth 100000
theorem readF_items {s : List UInt8} {args : List (List Tok)} {sec : Int} {t : Thg} (h : readF s args sec = .ok t) : ∀ x ∈ t.items, x.kind ≠ 1 := by
  have hsing : ∀ {k m}, k ≠ 1 → singThg k m args sec = .ok t → ∀ x ∈ t.items, x.kind ≠ 1 := fun {k m} hk h => by
    unfold singThg at h
    split at h
    · cases h
    · split at h
      · cases h
      · rename_i x hx
        rw [(standsT_ok h).1]
        intro y hy
        simp at hy
        subst hy
        cases args with
        | nil => cases hx; exact hk
        | cons a r => rw [itOf_kind hx]; exact hk
  have hsev : ∀ {k}, k ≠ 1 → sevThg k args sec = .ok t → ∀ x ∈ t.items, x.kind ≠ 1 := fun {k} hk h => by
    unfold sevThg at h
    split at h
    · cases h
    · split at h
      · cases h
      · rename_i l hx
        rw [(standsT_ok h).1]
        intro y hy
        rw [(itsF_kind hx).2 y hy]
        exact hk
  have hnil : t.items = [] → ∀ x ∈ t.items, x.kind ≠ 1 := fun e x hx => by rw [e] at hx; cases hx
  have hequ : equThg args = .ok t → t.items = [] := fun h => by
    unfold equThg at h
    split at h
    · unfold equF at h
      split at h
      · cases h
      · split at h
        · cases h
        · cases h; rfl
    · cases h
  have hglo : gloThg args = .ok t → t.items = [] := fun h => by
    unfold gloThg at h
    split at h
    · unfold gloF at h
      split at h
      · cases h
      · cases h; rfl
    · cases h
  have hsec : secThg args = .ok t → t.items = [] := fun h => by
    unfold secThg at h
    split at h
    · unfold secF at h
      split at h
      · cases h; rfl
      · split at h
        · cases h; rfl
        · cases h
    · cases h
  have hop : opThg s args sec = .ok t → ∀ x ∈ t.items, x.kind ≠ 1 := fun h => by
    unfold opThg at h
    split at h
    · cases h
    · split at h
      · cases h
      · rename_i x hx
        split at h
        · cases h
          intro y hy
          simp at hy
          subst hy
          rw [opF_kind hx]
          show (2 : Int) ≠ 1
          decide
        · cases h
  unfold readF at h
  repeat' split at h
  all_goals first
    | exact hsing (by decide) h | exact hsev (by decide) h | exact hnil (hequ h) | exact hnil (hglo h) | exact hnil (hsec h) | exact hop h | (cases h; intro x hx; cases hx) | cases h
theorem readF_more {s : List UInt8} {args : List (List Tok)} {sec : Int} {t : Thg} (hf : FewA args) (h : readF s args sec = .ok t) : (t.kind = 3 → okE (t.name, t.e) = true ∧ HeldE (t.name, t.e)) ∧ (t.kind = 5 → t.sec = 0 ∨ t.sec = 1) := by
  have hk : ∀ {k : Int}, t.kind = k → k ≠ 3 → k ≠ 5 → (t.kind = 3 → okE (t.name, t.e) = true ∧ HeldE (t.name, t.e)) ∧ (t.kind = 5 → t.sec = 0 ∨ t.sec = 1) := fun e h3 h5 => ⟨fun h => absurd (e.symm.trans h) h3, fun h => absurd (e.symm.trans h) h5⟩
  have hsing : ∀ {k m}, singThg k m args sec = .ok t → t.kind = 1 := fun {k m} h => by
    unfold singThg at h
    split at h
    · cases h
    · split at h
      · cases h
      · rw [(standsT_ok h).1]
  have hsev : ∀ {k}, sevThg k args sec = .ok t → t.kind = 2 := fun {k} h => by
    unfold sevThg at h
    split at h
    · cases h
    · split at h
      · cases h
      · rw [(standsT_ok h).1]
  have hequ : equThg args = .ok t → okE (t.name, t.e) = true ∧ HeldE (t.name, t.e) ∧ t.kind = 3 := fun h => by
    unfold equThg at h
    split at h
    · rename_i a0 a1
      unfold equF at h
      split at h
      · cases h
      · rename_i nm hn
        split at h
        · cases h
        · rename_i y hy
          cases h
          have hleg := nameF_leg hn
          have hg := (parseF_good hy).2
          have ha := hf _ (List.mem_cons_of_mem _ (List.mem_singleton.2 rfl))
          refine ⟨?_, ⟨by have := leg_short hleg; show nm.length ≤ _; omega, by show y.terms.length ≤ _; omega, fun t ht => by have := leg_short (parseF_leg hy t ht); omega⟩, rfl⟩
          unfold okE
          rw [hleg, parseF_right hy]
          rfl
    · cases h
  have hglo : gloThg args = .ok t → t.kind = 4 := fun h => by
    unfold gloThg at h
    split at h
    · unfold gloF at h
      split at h
      · cases h
      · cases h; rfl
    · cases h
  have hsec : secThg args = .ok t → t.kind = 5 ∧ (t.sec = 0 ∨ t.sec = 1) := fun h => by
    unfold secThg at h
    split at h
    · unfold secF at h
      split at h
      · cases h; exact ⟨rfl, .inl rfl⟩
      · split at h
        · cases h; exact ⟨rfl, .inr rfl⟩
        · cases h
    · cases h
  have hop : opThg s args sec = .ok t → t.kind = 1 := fun h => by
    unfold opThg at h
    split at h
    · cases h
    · split at h
      · cases h
      · split at h
        · cases h; rfl
        · cases h
  unfold readF at h
  repeat' split at h
  all_goals first
    | exact hk (hsing h) (by decide) (by decide)
    | exact hk (hsev h) (by decide) (by decide)
    | exact ⟨fun _ => ⟨(hequ h).1, (hequ h).2.1⟩, fun e => absurd ((hequ h).2.2.symm.trans e) (by decide)⟩
    | exact hk (hglo h) (by decide) (by decide)
    | exact ⟨fun e => absurd ((hsec h).1.symm.trans e) (by decide), fun _ => (hsec h).2⟩
    | exact hk (hop h) (by decide) (by decide)
    | (cases h; exact hk (k := 0) rfl (by decide) (by decide))
    | cases h
theorem lineU_more {s : List UInt8} {sec : Int} {lb : List UInt8} {x : Thg} (hs : s.length ≤ 65536) (h : lineU s sec = .ok (lb, x)) : (∀ y ∈ x.items, y.kind ≠ 1) ∧ (x.kind = 3 → okE (x.name, x.e) = true ∧ HeldE (x.name, x.e)) ∧ (x.kind = 5 → x.sec = 0 ∨ x.sec = 1) := by
  unfold lineU at h
  cases hp : parseL s with
  | error q => rw [hp] at h; cases h
  | ok L =>
    rw [hp] at h
    simp only at h
    split at h
    · cases h
    · cases hr : readF L.op L.args sec with
      | error q => rw [hr] at h; cases h
      | ok y =>
        rw [hr] at h
        cases h
        exact ⟨readF_items hr, readF_more (parseL_smallP hs hp).2.2 hr⟩
def AsmNames (A : Asm) : List (List UInt8) := labN A.text ++ labN A.data ++ A.equs.map (·.1)
structure AsmG (A : Asm) : Prop where
  text : ∀ x ∈ A.text, okI x 0 = true ∧ FineI x
  data : ∀ x ∈ A.data, okI x 1 = true ∧ FineI x
  equs : ∀ q ∈ A.equs, okE q = true ∧ HeldE q
  names : ∀ s, (AsmNames A).count s = A.given.count s
  once : A.given.Nodup
  sec : A.sec = 0 ∨ A.sec = 1
theorem asmE_G : AsmG asmE := ⟨fun x h => (by cases h), fun x h => (by cases h), fun x h => (by cases h), fun s => rfl, List.nodup_nil, .inl rfl⟩
theorem lab_ok {lb : List UInt8} (h : legB (str lb) = true) (sec : Int) : okI (labI lb) sec = true ∧ FineI (labI lb) := by
  have := leg_short h
  refine ⟨?_, ⟨by simp [labI, itmE], by simp [labI, itmE], by show lb.length ≤ _; omega, by simp [labI, itmE, linE], fun t ht => by cases ht⟩⟩
  unfold okI okB labI
  show (standsB 1 sec && (nameB 1 (str lb) && (instB 1 0 0 0 0 0 && (exprB (hasEB 1 0) [] 0 && numOfB 1 0)))) = true
  have h1 : standsB 1 sec = true := by unfold standsB; rw [if_pos (.inl rfl)]
  have h2 : nameB 1 (str lb) = true := by unfold nameB; rw [if_pos rfl]; exact h
  rw [h1, h2]
  rfl
theorem labN_append (a b : List Itm) : labN (a ++ b) = labN a ++ labN b := by unfold labN; simp
theorem labN_none {l : List Itm} (h : ∀ y ∈ l, y.kind ≠ 1) : labN l = [] := by
  unfold labN
  rw [List.filter_eq_nil_iff.2 (fun y hy => by simpa using h y hy)]
  rfl
theorem labN_labF (lb : List UInt8) : labN (labF lb) = if lb = [] then [] else [lb] := by
  unfold labF
  split
  · rfl
  · rfl
theorem nameU_some {g g' : List (List UInt8)} {s : List UInt8} (h : nameU g s = some g') : g' = g ++ (if s = [] then [] else [s]) := by
  unfold nameU at h
  split at h
  · rename_i h0; cases h; rw [if_pos h0]; simp
  · rename_i h0
    split at h
    · cases h
    · cases h; rw [if_neg h0]
theorem takeF_G {A B : Asm} {n : Nat} {s : List UInt8} (hs : s.length ≤ 65536) (hA : AsmG A) (h : takeF A n s = .ok B) : AsmG B := by
  obtain ⟨lb, x, g1, g2, hl, h1, h2, hc, rfl⟩ := takeF_ok h
  obtain ⟨hf, hlb⟩ := lineU_fine hs hl
  obtain ⟨hm1, hm2, hm3⟩ := lineU_more hs hl
  have hits : ∀ y ∈ labF lb ++ x.items, okI y A.sec = true ∧ FineI y := fun y hy => by
    rcases List.mem_append.1 hy with hy | hy
    · unfold labF at hy
      split at hy
      · cases hy
      · rename_i h0
        simp at hy
        subst hy
        exact lab_ok (hlb.resolve_left h0) A.sec
    · exact hf.items y hy
  have hlab : labN (labF lb ++ x.items) = if lb = [] then [] else [lb] := by rw [labN_append, labN_labF, labN_none hm1, List.append_nil]
  have e1 := nameU_some h1
  have n1 := nameU_nodup h1 hA.once
  have hne : x.kind = 3 → x.name ≠ [] := fun hk => leg_ne (by have := (hm2 hk).1; unfold okE at this; exact (Bool.and_eq_true_iff.1 this).1)
  have hgiven : g2 = A.given ++ (if lb = [] then [] else [lb]) ++ (if x.kind = 3 then [x.name] else []) := by
    by_cases hk : x.kind = 3
    · rw [if_pos hk] at h2 ⊢
      rw [nameU_some h2, if_neg (hne hk), e1]
    · rw [if_neg hk] at h2 ⊢
      cases h2
      rw [e1, List.append_nil]
  have n2 : g2.Nodup := by
    by_cases hk : x.kind = 3
    · rw [if_pos hk] at h2; exact nameU_nodup h2 n1
    · rw [if_neg hk] at h2; cases h2; exact n1
  have hnm := hA.names
  unfold AsmNames at hnm
  refine ⟨fun y hy => ?_, fun y hy => ?_, fun q hq => ?_, fun t => ?_, n2, ?_⟩
  · unfold layU at hy
    by_cases h5 : A.sec = 1
    · simp only [h5, if_true] at hy; exact hA.text y hy
    · simp only [h5, if_false] at hy
      rcases List.mem_append.1 hy with hy | hy
      · exact hA.text y hy
      · have := hits y hy; rwa [hA.sec.resolve_right h5] at this
  · unfold layU at hy
    by_cases h5 : A.sec = 1
    · simp only [h5, if_true] at hy
      rcases List.mem_append.1 hy with hy | hy
      · exact hA.data y hy
      · have := hits y hy; rwa [h5] at this
    · simp only [h5, if_false] at hy; exact hA.data y hy
  · unfold layU at hq
    by_cases hk : x.kind = 3
    · simp only [hk, if_true] at hq
      rcases List.mem_append.1 hq with hq | hq
      · exact hA.equs q hq
      · rw [List.mem_singleton] at hq; subst hq; exact hm2 hk
    · simp only [hk, if_false] at hq; exact hA.equs q hq
  · have ht := hnm t
    rw [hgiven]
    generalize labF lb ++ x.items = its at hlab
    generalize (if lb = [] then [] else [lb]) = LL at hlab
    simp only [List.count_append] at ht
    have e5 : ∀ g, (AsmNames (layU A n g its x)).count t = (labN A.text).count t + (labN A.data).count t + LL.count t + (A.equs.map (·.1)).count t + (if x.kind = 3 then [x.name] else []).count t := by
      intro g
      unfold AsmNames layU
      by_cases h5 : A.sec = 1 <;> by_cases hk : x.kind = 3
      · simp only [h5, hk, if_true, labN_append, hlab, List.map_append, List.count_append, List.map_cons, List.map_nil]; omega
      · simp only [h5, hk, if_true, if_false, labN_append, hlab, List.count_append, List.count_nil]; omega
      · simp only [h5, hk, if_true, if_false, labN_append, hlab, List.map_append, List.count_append, List.map_cons, List.map_nil]; omega
      · simp only [h5, hk, if_false, labN_append, hlab, List.count_append, List.count_nil]; omega
    rw [e5]
    show _ = List.count t (A.given ++ LL ++ _)
    simp only [List.count_append]
    omega
  · unfold layU
    by_cases hk : x.kind = 5
    · simp only [hk, if_true]; exact hm3 hk
    · simp only [hk, if_false]; exact hA.sec
theorem runP_G (pre : List LnA) : ∀ A B, AsmG A → runP A pre = .ok B → AsmG B := by
  induction pre with
  | nil => intro A B hA h; cases h; exact hA
  | cons x r ih =>
    intro A B hA h
    simp only [runP] at h
    cases ht : takeF A x.1.1 (bs x.1.2) with
    | error e => rw [ht] at h; cases h
    | ok C =>
      rw [ht] at h
      exact ih C B (takeF_G (by rw [bs_length]; exact x.2) hA ht) h
def uvA (A : Asm) : UVal := ⟨A.text, A.data, A.equs, globF A⟩
theorem once_twice {l : List (List UInt8)} (h : l.Nodup) : ¬ Twice l := by
  rintro ⟨i, s, h1, h2⟩
  obtain ⟨hi, e1⟩ := List.getElem?_eq_some_iff.1 h1
  obtain ⟨hj, e2⟩ := List.getElem?_eq_some_iff.1 h2
  have := (List.nodup_iff_pairwise_ne.1 h)
  exact (List.pairwise_iff_getElem.1 this) i (i + 1) hi hj (by omega) (e1.trans e2.symm)
theorem compUp_mem (d : Array (List UInt8)) : ∀ m, m ≤ d.size → ∀ s, s ∈ Lib.compactUpTo d m → ∃ j, j < m ∧ d[j]? = some s := by
  intro m hm s hs
  unfold Lib.compactUpTo at hs
  obtain ⟨j, hj, rfl⟩ := List.mem_map.1 hs
  have hjm := List.mem_range.1 (List.mem_filter.1 hj).1
  refine ⟨j, hjm, ?_⟩
  rw [Array.getElem?_eq_getElem (by omega), getElem!_pos d j (by omega)]
theorem compact_mem {zs : List (List UInt8)} {s : List UInt8} (h : s ∈ Lib.compact zs) : s ∈ zs := by
  obtain ⟨j, hj, e⟩ := compUp_mem zs.toArray zs.length (by simp) s h
  rw [List.getElem?_toArray] at e
  exact List.mem_of_getElem? e
theorem compUp_rise (zs : List (List UInt8)) (hR : Rise zs) : ∀ m, m ≤ zs.length → (Lib.compactUpTo zs.toArray m).Pairwise (fun x y => nlt x y = true) ∧ (∀ s ∈ Lib.compactUpTo zs.toArray m, ∀ x, 0 < m → zs[m - 1]? = some x → nlt x s = false) := by
  intro m
  induction m with
  | zero => intro _; exact ⟨by simp [Lib.compactUpTo], fun s hs => by simp [Lib.compactUpTo] at hs⟩
  | succ m ih =>
    intro hm
    obtain ⟨h1, h2⟩ := ih (by omega)
    have hx : zs[m]? = some (zs[m]'(by omega)) := List.getElem?_eq_getElem _
    have hd : zs.toArray[m]! = zs[m]'(by omega) := by rw [getElem!_pos zs.toArray m (by simp; omega)]; simp
    generalize hxv : zs[m]'(by omega) = x at hx hd
    have hold : ∀ s ∈ Lib.compactUpTo zs.toArray m, nlt x s = false := fun s hs => by
      rcases Nat.eq_zero_or_pos m with h0 | h0
      · subst h0; simp [Lib.compactUpTo] at hs
      · have hp : zs[m - 1]? = some (zs[m - 1]'(by omega)) := List.getElem?_eq_getElem _
        exact nlt_le_trans (h2 s hs _ h0 hp) (rise_get hR (by omega) hp hx)
    rw [Lib.compactUpTo_succ, hd]
    by_cases hk : Lib.keeps zs.toArray m = true
    · rw [if_pos hk]
      refine ⟨List.pairwise_append.2 ⟨h1, by simp, fun s hs y hy => ?_⟩, fun s hs y _ hy => ?_⟩
      · rw [List.mem_singleton] at hy
        rw [hy]
        rcases nlt_tri s x with h | h | h
        · exact h
        · exfalso
          rw [← h] at hx hd
          rcases Nat.eq_zero_or_pos m with h0 | h0
          · subst h0; simp [Lib.compactUpTo] at hs
          · have hp : zs[m - 1]? = some (zs[m - 1]'(by omega)) := List.getElem?_eq_getElem _
            have a1 := h2 s hs _ h0 hp
            have a2 := rise_get hR (by omega) hp hx
            have heq : zs[m - 1]'(by omega) = s := by
              rcases nlt_tri (zs[m - 1]'(by omega)) s with g | g | g
              · rw [g] at a1; cases a1
              · exact g
              · rw [g] at a2; cases a2
            have hdd : zs.toArray[m - 1]! = s := by rw [getElem!_pos zs.toArray (m - 1) (by simp; omega)]; simpa using heq
            simp [Lib.keeps, hd, hdd] at hk
            omega
        · rw [hold s hs] at h; cases h
      · have e : y = x := by
          rw [show m + 1 - 1 = m by omega, hx] at hy
          exact (Option.some.inj hy).symm
        subst e
        rcases List.mem_append.1 hs with hs | hs
        · exact hold s hs
        · rw [List.mem_singleton] at hs; subst hs; exact nlt_irrefl _
    · rw [if_neg hk, List.append_nil]
      refine ⟨h1, fun s hs y _ hy => ?_⟩
      have e : y = x := by
        rw [show m + 1 - 1 = m by omega, hx] at hy
        exact (Option.some.inj hy).symm
      subst e
      exact hold s hs
theorem asm_right {A : Asm} {k : Nat} (hG : AsmG A) (hB : AsmB A k) (hk : k ≤ 8192) (hU : unknownF A = none) : RightU (uvA A) ∧ RightN (uvA A) 0 := by
  have hperm : (uvA A).names.Perm A.given := List.perm_iff_count.2 hG.names
  have hnd : (uvA A).names.Nodup := hperm.nodup_iff.2 hG.once
  have hR : RightU (uvA A) := by
    refine ⟨List.all_eq_true.2 fun x hx => (hG.text x hx).1, List.all_eq_true.2 fun x hx => (hG.data x hx).1, List.all_eq_true.2 fun x hx => (hG.equs x hx).1, once_twice ((sortS_perm _).nodup_iff.2 hnd), ?_, ?_⟩
    · intro i p g hp hg
      have h := (compUp_rise (sortS (A.asked.map (·.1))) (sortS_rise _) _ (Nat.le_refl _)).1
      obtain ⟨hi, rfl⟩ := List.getElem?_eq_some_iff.1 hp
      obtain ⟨hj, rfl⟩ := List.getElem?_eq_some_iff.1 hg
      exact (List.pairwise_iff_getElem.1 h) i (i + 1) hi hj (by omega)
    · intro g hg
      have h1 := (sortS_mem _ _).1 (compact_mem hg)
      obtain ⟨q, hq, rfl⟩ := List.mem_map.1 h1
      rw [sortS_mem, hperm.mem_iff]
      unfold unknownF at hU
      rw [Option.map_eq_none_iff, List.find?_eq_none] at hU
      have := hU q hq
      simpa using this
  refine ⟨hR, .inr ⟨?_, .inl ⟨hR, rfl⟩⟩⟩
  rintro (h | h)
  · have := hB.few
    have h' : 8192 < A.text.length + A.data.length := h
    omega
  · have := hB.equs
    have h' : 8192 < A.equs.length := h
    omega
theorem compact_len (zs : List (List UInt8)) : (Lib.compact zs).length ≤ zs.length := Lib.compact_length_le zs
theorem asm_held {A : Asm} {k : Nat} (hG : AsmG A) (hB : AsmB A k) (hk : k ≤ 8192) : HeldU (uvA A) := by
  have h1 := hB.few
  have h2 := hB.equs
  have h3 := hB.asked
  have h4 : (globF A).length ≤ A.asked.length := by
    unfold globF
    have := compact_len (sortS (A.asked.map (·.1)))
    rw [sortS_len, List.length_map] at this
    exact this
  exact ⟨⟨by show A.text.length ≤ _; omega, fun x hx => (hG.text x hx).2.held⟩, ⟨by show A.data.length ≤ _; omega, fun x hx => (hG.data x hx).2.held⟩, ⟨by show A.equs.length ≤ _; omega, fun x hx => (hG.equs x hx).2⟩, by show (globF A).length ≤ _; omega⟩
theorem asmF_ok {l : List UInt8} {A : Asm} (h : asmF l = .ok A) : AsmG A ∧ AsmB A 4096 ∧ unknownF A = none := by
  unfold asmF at h
  split at h
  · cases h
  · rename_i h1
    split at h
    · cases h
    · rename_i h2
      cases hr : runF asmE 1 (linesOf l) with
      | error f => rw [hr] at h; cases h
      | ok B =>
        rw [hr] at h
        simp only at h
        cases hu : unknownF B with
        | some n => rw [hu] at h; cases h
        | none =>
          rw [hu] at h
          cases h
          rw [← runP_numbered _ (linesOf_short l (by omega))] at hr
          refine ⟨runP_G _ _ _ asmE_G hr, ?_, hu⟩
          have := runP_B _ _ _ 0 asmE_B hr
          rw [numbered_len] at this
          exact ⟨this.few, by have := this.equs; omega, by have := this.asked; omega, this.names⟩
end Go.Proofs.YtogkchgjpflmjaaGreatDoor
namespace Go.Proofs.YtogkchgjpflmjaaGreatDoor
open Go.ChangeShapes Go.WideShapes Go.ChangeAt Go.RowKit Go.Sort
set_option linter.unusedVariables false
set_option maxRecDepth 100000
theorem asb_ok {l : List UInt8} {A : Asm} (h : asmF l = .ok A) (w : World) (hE : Env w) :
    Calls Tryz.prog 9 #[.string (str l)] w fun e w' => Below w.heap.size w w' ∧ ∃ ta tc da dc ea ec ga gc, e = .returned (.tuple #[.agg (unitV ta tc da dc ea ec ga gc (uvA A)), .nilIface]) ∧ UnitIn w' ta da ea ga (uvA A) := by
  have ha := assemble_any l w hE.tab hE.err
  rw [h] at ha
  refine ha.mono fun e w' ⟨h1, tv, dv, ev, gv, pt, pd, pe, h2, h3⟩ => ?_
  obtain ⟨a1, c1, rfl⟩ := own_slice h3.text.row
  obtain ⟨a2, c2, rfl⟩ := own_slice h3.data.row
  obtain ⟨a3, c3, rfl⟩ := own_slice h3.equs.row
  obtain ⟨a4, c4, rfl⟩ := own_slice h3.globs
  have e1 : (uvA A).text = pt.map (·.1) := h3.et
  have e2 : (uvA A).data = pd.map (·.1) := h3.ed
  have e3 : (uvA A).equs = pe.map (·.1) := h3.ee
  have e4 : (uvA A).globs = globF A := rfl
  refine ⟨h1, a1, c1, a2, c2, a3, c3, a4, c4, ?_, ?_⟩
  · rw [h2]
    unfold unitV
    rw [e1, e2, e3, e4, List.length_map, List.length_map, List.length_map]
  · exact ⟨e1 ▸ h3.text.itIn, e2 ▸ h3.data.itIn, e3 ▸ h3.equs.eqIn, own_stIn h3.globs⟩
theorem asb_bad {l : List UInt8} {f : Nat × Int} (h : asmF l = .error f) (w : World) (hE : Env w) :
    Calls Tryz.prog 9 #[.string (str l)] w fun e w' => Below w.heap.size w w' ∧ ∃ q, e = .returned (.tuple #[unitZ, .iface 51 (.pointer (some ⟨q, 0, none⟩))]) ∧ RefAt w' w.heap.size q f.1 f.2 := by
  have ha := assemble_any l w hE.tab hE.err
  rw [h] at ha
  exact ha
def asmT (s : List UInt8) (p : Except (Nat × Int) Asm → Bool) : Bool := p (asmF s)
theorem asmT_err {s : List UInt8} {n : Nat} {k : Int} (h : asmT s (fun | .error f => f.1 == n && f.2 == k | _ => false) = true) : asmF s = .error (n, k) := by
  dsimp only [asmT] at h
  split at h
  · rename_i f e
    rw [e]
    simp only [Bool.and_eq_true, beq_iff_eq] at h
    rw [← h.1, ← h.2]
  · cases h
def aSrc : List UInt8 := [97, 58, 32, 106, 109, 112, 32, 97]
def aaSrc : List UInt8 := [97, 58, 32, 110, 111, 112, 10, 97, 58, 32, 110, 111, 112]
theorem aa_asm : asmF aaSrc = .error (2, 22) := asmT_err (by decide +kernel)
theorem a_asm : ∃ A x y, asmF aSrc = .ok A ∧ A.text = [x, y] ∧ x.name = [97] ∧ y.op = 40 ∧ spanN A.text = 1 := by
  have h : asmT aSrc (fun | .ok A => (match A.text with | [x, y] => x.name == [97] && y.op == 40 && spanN A.text == 1 | _ => false) | _ => false) = true := by decide +kernel
  dsimp only [asmT] at h
  split at h
  · rename_i A e
    split at h
    · rename_i x y e2
      simp only [Bool.and_eq_true, beq_iff_eq] at h
      exact ⟨A, x, y, e, e2, h.1.1, h.1.2, h.2⟩
    · cases h
  · cases h
set_option maxHeartbeats 8000000 in
theorem known_any (w : World) (hE : Env w) : Calls Tryz.prog 15 #[] w fun e w' => e = .returned (.bool true) ∧ Below w.heap.size w w' := by
  obtain ⟨A, x, y, hA, ht, hx, hy, hsp⟩ := a_asm
  obtain ⟨hG, hB, hU⟩ := asmF_ok hA
  have hheld := asm_held hG hB (by omega)
  have hright := (asm_right hG hB (by omega) hU).2
  have ha := Hid.intro (asb_ok hA w hE)
  have hut : (uvA A).text = [x, y] := ht
  have hsp' : spanN (uvA A).text = 1 := hsp
  have hrt := Hid.intro (fun ta tc da dc ea ec ga gc w1 (hT : Tab w1) hI => unitRight_is ta tc da dc ea ec ga gc (uvA A) hheld w1 hT hI 0 hright)
  have hst := Hid.intro (fun ta tc da dc ea ec ga gc w1 (hT : Tab w1) hI => unitSpans_any ta tc da dc ea ec ga gc (uvA A) hheld w1 hT hI 0 hright)
  have h13 : Hid (∀ w1, Env w1 → Calls Tryz.prog 13 #[.string (str aaSrc), .int .i64 2, .int .i64 22] w1 fun e w' => e = .returned (.bool true) ∧ Below w1.heap.size w1 w') := fun w1 hE1 => says_bad aaSrc 2 22 (by omega) (by omega) (by omega) aa_asm w1 hE1
  rw [if_pos rfl, hsp'] at hst
  rw [show str aSrc = ⟨#[97, 58, 32, 106, 109, 112, 32, 97]⟩ from rfl] at ha
  rw [show str aaSrc = ⟨#[97, 58, 32, 110, 111, 112, 10, 97, 58, 32, 110, 111, 112]⟩ from rfl] at h13
  have hEH := Hid.intro hE
  have hcel : ∀ (w1 : World) ta, ItIn w1 ta (uvA A).text → ∃ g o, ta = some ⟨g, o, none⟩ ∧ g < w1.heap.size ∧ w1.cell? ⟨g, o + 1, none⟩ = some (.string ⟨#[97]⟩) ∧ w1.cell? ⟨g, o + 10 + 2, none⟩ = some (.int .i64 40) := fun w1 ta h => by
    rw [hut] at h
    rcases h with h | ⟨g, o, h1, h2, h3⟩
    · cases h
    · obtain ⟨_, _, k1, _⟩ := h3 0 x rfl
      obtain ⟨_, _, k2, _⟩ := h3 1 y rfl
      have k1' := k1.name
      have k2' := k2.op
      rw [hx, show str [97] = ⟨#[97]⟩ from rfl] at k1'
      rw [hy] at k2'
      exact ⟨g, o, h1, h2, by simpa using k1', by simpa using k2'⟩
  have hcelH := Hid.intro hcel
  have hlen : (uvA A).text.length = 2 := by rw [hut]; rfl
  have haa : Hid (Calls Tryz.prog 9 #[.string ⟨#[97, 58, 32, 106, 109, 112, 32, 97]⟩] w fun e w' => Below w.heap.size w w' ∧ ∃ g o tc da dn dc ea en ec ga gn gc, e = .returned (.tuple #[.agg #[.slice (some ⟨g, o, none⟩) 2 tc, .slice da dn dc, .slice ea en ec, .slice ga gn gc], .nilIface]) ∧ g < w'.heap.size ∧ w'.cell? ⟨g, o + 1, none⟩ = some (.string ⟨#[97]⟩) ∧ w'.cell? ⟨g, o + 10 + 2, none⟩ = some (.int .i64 40) ∧ (∀ w2, Env w2 → Below w'.heap.size w' w2 → Calls Tryz.prog 21 #[.agg #[.slice (some ⟨g, o, none⟩) 2 tc, .slice da dn dc, .slice ea en ec, .slice ga gn gc]] w2 fun e w3 => e = .returned (.int .i64 1) ∧ Below w2.heap.size w2 w3) ∧ (∀ w2, Env w2 → Below w'.heap.size w' w2 → Calls Tryz.prog 14 #[.agg #[.slice (some ⟨g, o, none⟩) 2 tc, .slice da dn dc, .slice ea en ec, .slice ga gn gc]] w2 fun e w3 => e = .returned (.int .i64 0) ∧ Below w2.heap.size w2 w3)) := ha.out.mono fun e w' ⟨h1, ta, tc, da, dc, ea, ec, ga, gc, h2, h3⟩ => by
    obtain ⟨g, o, rfl, k1, k2, k3⟩ := hcelH.out w' ta h3.text
    have hst2 := hst.out (some ⟨g, o, none⟩) tc da dc ea ec ga gc
    have hrt2 := hrt.out (some ⟨g, o, none⟩) tc da dc ea ec ga gc
    unfold unitV at h2 hst2 hrt2
    rw [hlen] at h2 hst2 hrt2
    exact ⟨h1, g, o, tc, da, _, dc, ea, _, ec, ga, _, gc, h2, k1, k2, k3, fun w2 hE2 hb2 => hst2 w2 hE2.tab (h3.below hb2), fun w2 hE2 hb2 => hrt2 w2 hE2.tab (h3.below hb2)⟩
  clear hE hG hB hU hheld hright hA hsp hsp' ht ha hrt hst hcelH hcel hlen hut hx hy
  clear x y A
  go_enter Tryz.func15, Tryz.ntmps15
  go_wp2_with (first
    | (go_at_call 9
       (with_reducible refine (haa.out).mono ?_)
       rintro e w1 ⟨hb1, g, o, tc, da, dn, dc, ea, en, ec, ga, gn, gc, rfl, hg, k1, k2, q21, q14⟩
       have hB2 := Hid.intro (hb1.alloc hb1.size (.cells #[.slice (some ⟨g, o, none⟩) 2 tc, .slice da dn dc, .slice ea en ec, .slice ga gn gc] 26))
       have hA2 := Hid.intro (below_alloc w1 (.cells #[.slice (some ⟨g, o, none⟩) 2 tc, .slice da dn dc, .slice ea en ec, .slice ga gn gc] 26))
       have m1 := (hA2.out.cell (p := ⟨g, o + 1, none⟩) hg).trans k1
       have m2 := (hA2.out.cell (p := ⟨g, o + 10 + 2, none⟩) hg).trans k2
       have hbx := Hid.intro (heap_alloc_new w1 (.cells #[.slice (some ⟨g, o, none⟩) 2 tc, .slice da dn dc, .slice ea en ec, .slice ga gn gc] 26))
       have z21 := Hid.intro (q21 _ (hEH.out.below hB2.out) hA2.out)
       have z14 := Hid.intro q14
       clear q21 q14 k1 k2 hb1 hg)
    | (go_at_call 21
       (with_reducible refine (z21.out).mono ?_)
       rintro e w3 ⟨rfl, hb3⟩
       obtain ⟨c0, c1, c2, c3⟩ := four_read ((hb3.block _ (blk_lt hbx.out)).trans hbx.out)
       have hB3 := Hid.intro (hB2.out.trans (hb3.mono hB2.out.size))
       have hA3 := Hid.intro (hA2.out.trans (hb3.mono hA2.out.size))
       have z14' := Hid.intro (z14.out _ (hEH.out.below hB3.out) hA3.out)
       clear hb3)
    | (go_at_call 14
       (with_reducible refine (z14'.out).mono ?_)
       rintro e w4 ⟨rfl, hb4⟩
       have hB4 := Hid.intro (hB3.out.trans (hb4.mono hB3.out.size))
       have z13 := Hid.intro (h13.out _ (hEH.out.below hB4.out))
       clear hb4)
    | (go_at_call 13
       (with_reducible refine (z13.out).mono ?_)
       rintro e w5 ⟨rfl, hb5⟩
       have hB5 := Hid.intro (hB4.out.trans (hb5.mono hB4.out.size))
       clear hb5))
  go_ret
  exact ⟨rfl, hB5.out⟩
end Go.Proofs.YtogkchgjpflmjaaGreatDoor

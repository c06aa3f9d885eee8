/- The tokens stand where they say, between them are blanks, and with one blank behind each they are read again. -/
import Derived.Test.YtdmhdhmclcogoaaCutM
namespace Go.Proofs.Ytdmhdhmclcogoaa
set_option linter.unusedVariables false

/-- from the place e on the tokens stand in l where they say, and between them are blanks -/
def Chain (l : List UInt8) : Nat → List Tok → Prop
  | _, [] => True
  | e, t :: ts => e ≤ t.place ∧ t.place + t.text.length ≤ l.length ∧ t.text ≠ [] ∧ (l.drop t.place).take t.text.length = t.text ∧ (∀ k, e ≤ k → k < t.place → isBl (atI l k) = true) ∧ Chain l (t.place + t.text.length) ts

/-- a token that is read again with a blank behind it -/
def Good (t : Tok) : Prop := t.text ≠ [] ∧ atI t.text 0 ≠ 59 ∧ isBl (atI t.text 0) = false ∧ ∀ x, tokAt (t.text ++ (32 : UInt8) :: x) = some (t.kind, t.num, t.text.length)

theorem good_of_tok (r : List UInt8) (kind n : Int) (k place : Nat) (h : tokAt r = some (kind, n, k)) (h59 : atI r 0 ≠ 59) (hbl : isBl (atI r 0) = false) : Good ⟨kind, r.take k, n, place⟩ := by
  have hk := tokAt_some _ _ _ _ h
  have hlen : (r.take k).length = k := by rw [List.length_take]; omega
  have h0 : atI (r.take k) 0 = atI r 0 := atI_take r (r.take k) k 0 (by rw [List.take_take, Nat.min_self]) (by omega)
  refine ⟨?_, ?_, ?_, ?_⟩
  · intro e
    simp only at e
    have := congrArg List.length e
    rw [hlen] at this
    simp at this
    omega
  · simp only; rw [h0]; exact h59
  · simp only; rw [h0]; exact hbl
  · intro x
    simp only
    rw [hlen]
    refine tok_same r _ kind n k h ?_ (Or.inl ?_)
    · rw [List.take_append_of_le_length (by omega), List.take_take, Nat.min_self]
    · have := atI_app_end (r.take k) x
      rw [hlen] at this
      exact this

def joinT (ts : List Tok) : List UInt8 := ts.flatMap fun t => t.text ++ [(32 : UInt8)]

theorem joinT_cons (t : Tok) (ts : List Tok) : joinT (t :: ts) = t.text ++ (32 : UInt8) :: joinT ts := by simp [joinT]

theorem scan_all (l : List UInt8) : ∀ (m a e : Nat) (ts : List Tok), l.length - a = m → a ≤ l.length → e ≤ a → (∀ k, e ≤ k → k < a → isBl (atI l k) = true) → scan (l.drop a) a = .ok ts →
    Chain l e ts ∧ (∀ t ∈ ts, Good t) ∧ (joinT ts).length ≤ 2 * (l.length - a) := by
  intro m
  induction m using Nat.strongRecOn with
  | _ m ih =>
    intro a e ts hm ha he hb h
    by_cases hend : l.length ≤ a
    · rw [scan_end l a hend] at h
      cases h
      exact ⟨trivial, by simp, by simp [joinT]⟩
    · have hlt : a < l.length := by omega
      by_cases h59 : atI l a = 59
      · rw [scan_remark l a hlt h59] at h
        cases h
        exact ⟨trivial, by simp, by simp [joinT]⟩
      · cases hbl : isBl (atI l a)
        · cases ht : tokAt (l.drop a) with
          | none => rw [scan_wrong l a hlt h59 hbl ht] at h; cases h
          | some x =>
            obtain ⟨kind, n, k⟩ := x
            rw [scan_tok l a hlt h59 hbl kind n k ht] at h
            have hk := tokAt_some _ _ _ _ ht
            rw [List.length_drop] at hk
            have hlen : ((l.drop a).take k).length = k := by rw [List.length_take, List.length_drop]; omega
            cases hs : scan (l.drop (a + k)) (a + k) with
            | error p => rw [hs] at h; cases h
            | ok us =>
              rw [hs] at h
              simp only [ext, List.singleton_append, Except.ok.injEq] at h
              subst h
              obtain ⟨i1, i2, i3⟩ := ih (l.length - (a + k)) (by omega) (a + k) (a + k) us rfl (by omega) (Nat.le_refl _) (fun k h1 h2 => by omega) hs
              have hg := good_of_tok (l.drop a) kind n k a ht (by rw [atI_drop, Nat.add_zero]; exact h59) (by rw [atI_drop, Nat.add_zero]; exact hbl)
              refine ⟨⟨he, ?_, hg.1, ?_, hb, ?_⟩, ?_, ?_⟩
              · simp only; rw [hlen]; omega
              · simp only; rw [hlen]
              · simp only; rw [hlen]; exact i1
              · intro t ht
                rw [List.mem_cons] at ht
                rcases ht with rfl | ht
                · exact hg
                · exact i2 t ht
              · rw [joinT_cons, List.length_append, hlen, List.length_cons]
                omega
        · rw [scan_blank l a hlt hbl] at h
          obtain ⟨i1, i2, i3⟩ := ih (l.length - (a + 1)) (by omega) (a + 1) e ts rfl (by omega) (by omega) (fun k h1 h2 => by
            by_cases hka : k < a
            · exact hb k h1 hka
            · have : k = a := by omega
              rw [this]; exact hbl) h
          exact ⟨i1, i2, by omega⟩

/-- but for the place -/
def strip (t : Tok) : Int × List UInt8 × Int := (t.kind, t.text, t.num)

theorem scan_join (ts : List Tok) (h : ∀ t ∈ ts, Good t) : ∀ b, ∃ us, scan (joinT ts) b = .ok us ∧ us.map strip = ts.map strip := by
  induction ts with
  | nil =>
    intro b
    refine ⟨[], ?_, rfl⟩
    have : joinT [] = [] := rfl
    rw [this]
    unfold scan
    rfl
  | cons t ts ih =>
    intro b
    obtain ⟨g1, g2, g3, g4⟩ := h t (by simp)
    have htok := g4 (joinT ts)
    obtain ⟨us, hus, hst⟩ := ih (fun x hx => h x (by simp [hx])) (b + t.text.length + 1)
    obtain ⟨L, hL⟩ : ∃ L, L = t.text ++ (32 : UInt8) :: joinT ts := ⟨_, rfl⟩
    have hne : 0 < t.text.length := by
      cases ht : t.text with
      | nil => exact absurd ht g1
      | cons b r => simp
    have hpos : 0 < L.length := by rw [hL]; simp; omega
    have a0 : atI L 0 = atI t.text 0 := by rw [hL]; exact atI_app_lt _ _ _ hne
    have hdrop : L.drop (t.text.length) = (32 : UInt8) :: joinT ts := by rw [hL]; simp
    have htake : L.take t.text.length = t.text := by rw [hL]; simp
    rw [joinT_cons, ← hL]
    -- the head
    obtain ⟨c, r, hcr⟩ : ∃ c r, L = c :: r := by
      cases hl : L with
      | nil => rw [hl] at hpos; simp at hpos
      | cons c r => exact ⟨c, r, rfl⟩
    have hc0 : (c.toNat : Int) = atI t.text 0 := by rw [← a0, hcr, atI_zero_cons]
    have htok2 : tokAt (c :: r) = some (t.kind, t.num, t.text.length) := by rw [← hcr, hL]; exact htok
    have hdr : r.drop (t.text.length - 1) = (32 : UInt8) :: joinT ts := by
      rw [← hdrop, hcr]
      obtain ⟨m, hm⟩ : ∃ m, t.text.length = m + 1 := ⟨t.text.length - 1, by omega⟩
      rw [hm]
      simp
    refine ⟨⟨t.kind, t.text, t.num, b⟩ :: us, ?_, ?_⟩
    · rw [hcr, scan, if_neg (by rw [hc0]; exact g2), if_neg (by rw [hc0, g3]; simp), htok2]
      simp only
      rw [hdr, scan, if_neg (by decide), if_pos (by decide), hus, ← hcr, htake]
    · simp [strip] at hst ⊢
      exact hst

theorem strip_get (us ts : List Tok) (h : us.map strip = ts.map strip) (i : Nat) (t : Tok) (ht : ts[i]? = some t) : ∃ u, us[i]? = some u ∧ u.kind = t.kind ∧ u.text = t.text ∧ u.num = t.num := by
  have h1 := congrArg (fun l => l[i]?) h
  simp only [List.getElem?_map, ht, Option.map_some] at h1
  cases hu : us[i]? with
  | none => rw [hu] at h1; cases h1
  | some u =>
    rw [hu] at h1
    simp [strip] at h1
    exact ⟨u, rfl, h1.1, h1.2.1, h1.2.2⟩

theorem scan_place (r : List UInt8) : ∀ (m a p : Nat), r.length = m → scan r a = .error p → a ≤ p ∧ p < a + r.length := by
  intro m
  induction m using Nat.strongRecOn generalizing r with
  | _ m ih =>
    intro a p hm h
    cases r with
    | nil => unfold scan at h; cases h
    | cons b r =>
      unfold scan at h
      split at h
      · cases h
      · split at h
        · have := ih r.length (by simp at hm; omega) r (a + 1) p rfl h
          simp; omega
        · split at h
          · cases h
            simp
          · rename_i kind n k heq1
            have hk := tokAt_some _ _ _ _ heq1
            simp only [List.length_cons] at hk
            split at h
            · cases h
            · rename_i q heq2
              cases h
              have := ih (r.drop (k - 1)).length (by rw [List.length_drop]; simp at hm; omega) (r.drop (k - 1)) (a + k) _ rfl heq2
              rw [List.length_drop] at this
              simp
              omega
end Go.Proofs.Ytdmhdhmclcogoaa

/- Instructions encoded one behind the other are handed out again. -/
import Derived.Test.YthboapfbgdcdoaaDoorRng
namespace Go.Proofs.YthboapfbgdcdoaaDoor
open Go.ChangeShapes Go.WideShapes Go.ChangeAt Go.RowKit Go.Shelf
set_option linter.unusedVariables false
set_option maxRecDepth 100000

/-- the steps of a row of instructions -/
def rowS : List Ins → Int → List StA
  | [], _ => []
  | y :: ys, o => (o, (y.enc.length : Int), y) :: rowS ys (o + y.enc.length)

/-- where the last step ends -/
def endF : Int → List StA → Int
  | o, [] => o
  | _, x :: pre => endF (wrap64 (x.1 + x.2.1)) pre
theorem endF_snoc (pre : List StA) (x : StA) : ∀ o, endF o (pre ++ [x]) = wrap64 (x.1 + x.2.1) := by
  induction pre with
  | nil => intro o; rfl
  | cons y pre ih => intro o; exact ih _

theorem rowS_len : ∀ (ys : List Ins) (o : Int), (rowS ys o).length = ys.length
  | [], _ => rfl
  | y :: ys, o => by simp [rowS, rowS_len ys]

theorem encAll_cons (y : Ins) (ys : List Ins) : encAll (y :: ys) = y.enc ++ encAll ys := by simp [encAll]

theorem wrap64_id (x : Int) (h : -9223372036854775808 ≤ x ∧ x ≤ 9223372036854775807) : wrap64 x = x := by rw [wrap64]; omega

theorem rowS_at : ∀ (ys : List Ins) (o : Int) (pre : List StA) (x : StA), 0 ≤ o → o + (encAll ys).length ≤ 1000000 → (pre ++ [x]) <+: rowS ys o → ys[pre.length]? = some x.2.2 ∧ x.1 = endF o pre
  | [], o, pre, x, _, _, h => by
    obtain ⟨r, hr⟩ := h
    simp [rowS] at hr
  | y :: ys, o, [], x, h0, h1, h => by
    obtain ⟨r, hr⟩ := h
    simp only [rowS, List.nil_append, List.singleton_append, List.cons.injEq] at hr
    rw [hr.1]
    exact ⟨rfl, rfl⟩
  | y :: ys, o, z :: pre, x, h0, h1, h => by
    obtain ⟨r, hr⟩ := h
    simp only [rowS, List.cons_append, List.cons.injEq] at hr
    rw [encAll_cons, List.length_append] at h1
    have := rowS_at ys (o + y.enc.length) pre x (by omega) (by push_cast at h1; omega) ⟨r, hr.2⟩
    refine ⟨by simpa using this.1, ?_⟩
    rw [this.2, hr.1]
    show _ = endF (wrap64 (o + (y.enc.length : Int))) pre
    rw [wrap64_id _ (by push_cast at h1; omega)]

theorem rowS_end : ∀ (ys : List Ins) (o : Int), 0 ≤ o → o + (encAll ys).length ≤ 1000000 → endF o (rowS ys o) = o + (encAll ys).length
  | [], o, _, _ => by simp [rowS, endF, encAll]
  | y :: ys, o, h0, h1 => by
    rw [encAll_cons, List.length_append] at h1 ⊢
    show endF (wrap64 (o + (y.enc.length : Int))) (rowS ys (o + y.enc.length)) = _
    rw [wrap64_id _ (by push_cast at h1; omega), rowS_end ys _ (by omega) (by push_cast at h1; omega)]
    push_cast
    omega

theorem seq_row : ∀ (ys : List Ins) (pre : List Int) (f : Nat), (∀ y ∈ ys, y.chk = 0 ∧ y.ok) → (encAll ys).length < f → seqF (pre ++ encAll ys) 0 f pre.length = rowS ys (pre.length : Int)
  | [], pre, 0, _, hf => by simp at hf
  | [], pre, f + 1, _, _ => by
    have e : hdE (pre ++ encAll []) (pre.length : Int) = 10 := by
      rw [hdE]
      have : ((pre ++ encAll []).length : Int) = pre.length := by simp [encAll]
      rw [this, if_neg (by omega), if_pos rfl]
    have e2 : decE (pre ++ encAll []) (pre.length : Int) = 10 := by rw [decE, if_neg (by omega), e]
    rw [seqF, if_neg (by omega)]
    rfl
  | y :: ys, pre, 0, _, hf => by omega
  | y :: ys, pre, f + 1, hok, hf => by
    obtain ⟨hc, hn⟩ := hok y (by simp)
    have hE : y.enc = encL y.o y.a y.b y.n y.f := by
      show encR y.o y.a y.b y.n y.f = _
      rw [encR, if_pos (show checkN y.o y.a y.b y.n y.f = 0 from hc)]
    obtain ⟨d1, d2, d3⟩ := enc_dec hc hn pre (encAll ys)
    rw [← hE] at d1 d2 d3
    have hl1 : 1 ≤ y.enc.length := by
      obtain ⟨t, ht⟩ := encL_cons y.o y.a y.b y.n y.f
      rw [hE, ht]
      simp
    rw [encAll_cons] at hf ⊢
    rw [List.length_append] at hf
    rw [seqF, if_pos d1, d2, d3, Int.toNat_natCast]
    have ih := seq_row ys (pre ++ y.enc) f (fun z hz => hok z (by simp [hz])) (by omega)
    rw [List.append_assoc, List.length_append] at ih
    rw [ih]
    show ((0 : Int) + (pre.length : Int), _, _) :: _ = ((pre.length : Int), _, _) :: rowS ys _
    rw [Int.zero_add]
    push_cast
    rfl

theorem steps_row (ys : List Ins) (hok : ∀ y ∈ ys, y.chk = 0 ∧ y.ok) : stepsL (encAll ys) 0 = rowS ys 0 := by
  have := seq_row ys [] ((encAll ys).length + 1) hok (by omega)
  simpa [stepsL] using this

theorem badAt_le (xs : List Ins) : badAt xs ≤ xs.length := List.findIdx_le_length
theorem before_bad {xs : List Ins} {i : Nat} {x : Ins} (h : i < badAt xs) (hx : xs[i]? = some x) : x.chk = 0 := by
  have h2 := List.not_of_lt_findIdx (xs := xs) (p := fun x : Ins => decide (x.chk ≠ 0)) h
  obtain ⟨hl, he⟩ := List.getElem?_eq_some_iff.1 hx
  rw [he] at h2
  simpa using h2
theorem all_ok {xs : List Ins} (h : allE xs = 0) : ∀ y ∈ xs, y.chk = 0 := by
  have hb : badAt xs = xs.length := by
    rcases Nat.lt_or_ge (badAt xs) xs.length with hlt | hge
    · have := List.findIdx_getElem (xs := xs) (p := fun x : Ins => decide (x.chk ≠ 0)) (w := hlt)
      unfold allE at h
      rw [List.getElem?_eq_getElem hlt] at h
      simp only at h
      have h3 : decide ((xs[badAt xs]).chk ≠ 0) = true := this
      simp [h] at h3
    · have := badAt_le xs
      omega
  intro y hy
  obtain ⟨i, hi⟩ := List.getElem?_of_mem hy
  exact before_bad (by rw [hb]; exact (List.getElem?_eq_some_iff.1 hi).1) hi
theorem take_ok {xs : List Ins} : ∀ y ∈ xs.take (badAt xs), y.chk = 0 := by
  intro y hy
  obtain ⟨i, hi⟩ := List.getElem?_of_mem hy
  have hl := (List.getElem?_eq_some_iff.1 hi).1
  rw [List.length_take] at hl
  rw [List.getElem?_take_of_lt (by omega)] at hi
  exact before_bad (by omega) hi
theorem allE_of_ok {xs : List Ins} (h : ∀ y ∈ xs, y.chk = 0) : allE xs = 0 := badAt_none fun j y hy => h y (List.mem_of_getElem? hy)
theorem ILies.take {w : World} {a : Option Addr} {xs : List Ins} (h : ILies w a xs) (k : Nat) : ILies w a (xs.take k) := by
  refine ⟨fun x hx => h.1 x (List.mem_of_mem_take hx), ?_⟩
  rcases h.2 with rfl | ⟨g, off, ha, hc⟩
  · exact .inl (by simp)
  · refine .inr ⟨g, off, ha, fun i x hx => hc i x ?_⟩
    have hl := (List.getElem?_eq_some_iff.1 hx).1
    rw [List.length_take] at hl
    rwa [List.getElem?_take_of_lt (by omega)] at hx
end Go.Proofs.YthboapfbgdcdoaaDoor

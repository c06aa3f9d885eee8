/- Decoding as a function on bytes; what Encode lays is decoded to the same instruction, and what is decoded is encoded to the bytes that it took. -/
import Derived.Test.YthboapfbgdcdoaaDoorApartM
import Derived.Test.YthboapfbgdcdoaaDoorAll1
import Derived.Test.YthboapfbgdcdoaaDoorOGet
namespace Go.Proofs.YthboapfbgdcdoaaDoor
open Go.ChangeShapes Go.WideShapes Go.ChangeAt Go.RowKit
set_option linter.unusedVariables false
set_option maxRecDepth 100000

/-- does operation i begin with byte c? -/
def hitB (i : Nat) (c : Int) : Bool := if spansB (shapeAt i) then decide (byteAt i ≤ c) && decide (c ≤ byteAt i + 2) else decide (c = byteAt i)
/-- the form that the first byte tells -/
def formI (i : Nat) (c : Int) : Int := if spansB (shapeAt i) then 2 ^ (c - byteAt i).toNat else 0
/-- the first operation that begins with byte c; 43: none -/
def begI (c : Int) : Nat := (List.range 43).findIdx (fun i => hitB i c)

theorem begI_hit {c : Int} {i : Nat} (hi : i < 43) (h : hitB i c = true) (hb : ∀ j, j < i → hitB j c = false) : begI c = i := by
  unfold begI
  refine (List.findIdx_eq (by simpa using hi)).2 ⟨by simpa using h, fun j hj => ?_⟩
  simpa using hb j hj
theorem begI_none {c : Int} (hb : ∀ j, j < 43 → hitB j c = false) : begI c = 43 := by
  unfold begI
  have := List.findIdx_eq_length (xs := List.range 43) (p := fun i => hitB i c)
  rw [List.length_range] at this
  refine this.2 fun j hj => ?_
  have := hb j (by simpa using hj)
  simp [this]
theorem begI_le (c : Int) : begI c ≤ 43 := by
  unfold begI
  have := List.findIdx_le_length (xs := List.range 43) (p := fun i => hitB i c)
  simpa using this
theorem begI_is {c : Int} (h : begI c < 43) : hitB (begI c) c = true := by
  have := List.findIdx_getElem (xs := List.range 43) (p := fun i => hitB i c) (w := by simpa [begI] using h)
  simpa [begI] using this

def opI (c : Int) : Int := (begI c : Int) + 1
def shpI (c : Int) : Nat := (shapeAt (begI c)).toNat
def frmI (c : Int) : Int := formI (begI c) c
def sizI (c : Int) : Int := sizeAt (shpI c) + frmI c

/-- the parts that bytes tell, by shape -/
def fA (s : Nat) (r : List Int) : Int := if s = 2 ∨ s = 3 ∨ s = 7 ∨ s = 8 ∨ s = 10 ∨ s = 11 ∨ s = 13 then r.getD 0 0 else if s = 4 ∨ s = 5 ∨ s = 6 then r.getD 0 0 / 16 else 0
def fB (s : Nat) (r : List Int) : Int := if s = 7 then r.getD 1 0 / 16 else if s = 4 ∨ s = 5 ∨ s = 6 then r.getD 0 0 % 16 else 0
def fN (s : Nat) (f : Int) (r : List Int) : Int := if s = 7 then r.getD 1 0 % 16 else if s = 8 then sgn (leN (r.drop 1)) 1 else if s = 9 then leN r else if s = 10 then sgn (leN (r.drop 1)) 4 else if s = 11 then leN (r.drop 1) else if s = 12 then sgn (leN r) f else if s = 13 then sgn (leN (r.drop 1)) f else 0

def rstL (zs : List Int) (k : Nat) : List Int := (zs.drop (k + 1)).take ((sizI (zs.getD k 0)).toNat - 1)
/-- the instruction that begins at place k, not looked at yet -/
def rawI (zs : List Int) (k : Nat) : Ins := ⟨opI (zs.getD k 0), fA (shpI (zs.getD k 0)) (rstL zs k), fB (shpI (zs.getD k 0)) (rstL zs k), fN (shpI (zs.getD k 0)) (frmI (zs.getD k 0)) (rstL zs k), frmI (zs.getD k 0)⟩

/-- why none begins there, by the first byte and the length -/
def hdE (zs : List Int) (at' : Int) : Int := if at' < 0 ∨ (zs.length : Int) < at' then 1 else if at' = zs.length then 10 else if begI (zs.getD at'.toNat 0) = 43 then 11 else if (zs.length : Int) - at' < sizI (zs.getD at'.toNat 0) then 10 else 0
def decE (zs : List Int) (at' : Int) : Int := if hdE zs at' = 0 then (rawI zs at'.toNat).chk else hdE zs at'
def decX (zs : List Int) (at' : Int) : Ins := if decE zs at' = 0 then rawI zs at'.toNat else ⟨0, 0, 0, 0, 0⟩
def decL (zs : List Int) (at' : Int) : Int := if decE zs at' = 0 then sizI (zs.getD at'.toNat 0) else 0

theorem shp_nat {i : Nat} (hi : i < 43) : ∃ s : Nat, shapeAt i = (s : Int) ∧ (shapeAt i).toNat = s ∧ 1 ≤ s ∧ s < 14 := by
  have := shape_range i hi
  exact ⟨(shapeAt i).toNat, by omega, rfl, by omega, by omega⟩

/-- the form of a first byte -/
theorem frm_cases {i : Nat} {c : Int} (h : hitB i c = true) : (spansB (shapeAt i) = false ∧ formI i c = 0 ∧ c = byteAt i) ∨ (spansB (shapeAt i) = true ∧ ((formI i c = 1 ∧ c = byteAt i) ∨ (formI i c = 2 ∧ c = byteAt i + 1) ∨ (formI i c = 4 ∧ c = byteAt i + 2))) := by
  unfold hitB at h
  unfold formI
  cases hs : spansB (shapeAt i) with
  | false =>
    rw [hs] at h
    exact .inl ⟨rfl, by simp, by simpa using h⟩
  | true =>
    rw [hs] at h
    simp at h
    refine .inr ⟨rfl, ?_⟩
    have : c - byteAt i = 0 ∨ c - byteAt i = 1 ∨ c - byteAt i = 2 := by omega
    rcases this with e | e | e
    · exact .inl ⟨by rw [e]; rfl, by omega⟩
    · exact .inr (.inl ⟨by rw [e]; rfl, by omega⟩)
    · exact .inr (.inr ⟨by rw [e]; rfl, by omega⟩)
theorem frm_range {i : Nat} {c : Int} (h : hitB i c = true) : 0 ≤ formI i c ∧ formI i c ≤ 4 := by
  rcases frm_cases h with ⟨_, e, _⟩ | ⟨_, ⟨e, _⟩ | ⟨e, _⟩ | ⟨e, _⟩⟩ <;> omega

theorem hit_of {op a b n f : Int} (hc : checkN op a b n f = 0) : hitB (op - 1).toNat (byteAt (op - 1).toNat + f / 2) = true ∧ formI (op - 1).toNat (byteAt (op - 1).toNat + f / 2) = f := by
  obtain ⟨s, hsn, h1, h14, hr, hm, ho1, ho2⟩ := check_parts hc
  have hs : shapeAt (op - 1).toNat = (s : Int) := by
    have : shapeN op = shapeAt (op - 1).toNat := by rw [shapeN, if_pos ⟨ho1, ho2⟩]
    rw [← this]
    have := shapeN_some ⟨ho1, ho2⟩
    omega
  unfold hitB formI
  rw [hs]
  cases hsp : spansB (s : Int) with
  | true =>
    have g1 : fitsB n f = true := by simpa [numB, hsp] using hm
    generalize byteAt (op - 1).toNat = B
    rcases fits_form g1 with rfl | rfl | rfl
    · have e : (B + 1 / 2 - B).toNat = 0 := by omega
      exact ⟨by rw [if_pos rfl, Bool.and_eq_true, decide_eq_true_eq, decide_eq_true_eq]; omega, by rw [if_pos rfl, e]; rfl⟩
    · have e : (B + 2 / 2 - B).toNat = 1 := by omega
      exact ⟨by rw [if_pos rfl, Bool.and_eq_true, decide_eq_true_eq, decide_eq_true_eq]; omega, by rw [if_pos rfl, e]; rfl⟩
    · have e : (B + 4 / 2 - B).toNat = 2 := by omega
      exact ⟨by rw [if_pos rfl, Bool.and_eq_true, decide_eq_true_eq, decide_eq_true_eq]; omega, by rw [if_pos rfl, e]; rfl⟩
  | false =>
    simp [numB, hsp] at hm
    obtain ⟨rfl, _⟩ := hm
    simp

theorem hit_last {i : Nat} {c : Int} (h : hitB i c = true) : byteAt i ≤ c ∧ c ≤ lastAt i := by
  unfold lastAt
  rcases frm_cases h with ⟨e, _, rfl⟩ | ⟨e, ⟨_, rfl⟩ | ⟨_, rfl⟩ | ⟨_, rfl⟩⟩ <;> rw [e] <;> simp <;> omega

theorem beg_of {c : Int} {i : Nat} (hi : i < 43) (h : hitB i c = true) : begI c = i := by
  refine begI_hit hi h fun j hj => ?_
  cases e : hitB j c with
  | false => rfl
  | true =>
    have h1 := hit_last h
    have h2 := hit_last e
    have := first_apart hi (by omega : j < 43) (by omega)
    omega

theorem sgn1 (n : Int) (h : 0 ≤ n ∧ n ≤ 255) : sgn n 1 = (n + 128) % 256 - 128 := by
  simp only [sgn, if_true, i8wrap, wrap32]
  omega
theorem sgn2 (n : Int) (h : 0 ≤ n ∧ n ≤ 65535) : sgn n 2 = (n + 32768) % 65536 - 32768 := by
  rw [sgn, if_neg (by omega), if_pos rfl, i16wrap, wrap32]
  omega
theorem sgn4 (n : Int) (h : 0 ≤ n ∧ n ≤ 4294967295) : sgn n 4 = (n + 2147483648) % 4294967296 - 2147483648 := by
  rw [sgn, if_neg (by omega), if_neg (by omega), if_pos rfl, wrap32]
end Go.Proofs.YthboapfbgdcdoaaDoor

/- The value of sums and products of terms, where each name has a value. -/
import Derived.Test.YtijdjljnppkhmaaDoorGroupsM
import Derived.Test.YtijdjljnppkhmaaDoorValueT
namespace Go.Proofs.YtijdjljnppkhmaaDoor
set_option linter.unusedVariables false

/-- the sum of the coefficients times the values -/
def sumV (G : List UInt8 → Int) : List Tm → Int
  | [] => 0
  | t :: r => t.coef * G t.name + sumV G r

theorem sumV_append (G : List UInt8 → Int) (a b : List Tm) : sumV G (a ++ b) = sumV G a + sumV G b := by
  induction a with
  | nil => simp [sumV]
  | cons x r ih => simp only [List.cons_append, sumV, ih]; omega

theorem sumV_perm (G : List UInt8 → Int) {a b : List Tm} (h : a.Perm b) : sumV G a = sumV G b := by
  induction h with
  | nil => rfl
  | cons x _ ih => simp only [sumV, ih]
  | swap x y l => simp only [sumV]; omega
  | trans _ _ ih1 ih2 => exact ih1.trans ih2

theorem sumV_emit (G : List UInt8 → Int) (n : List UInt8) (c : Int) (l : List Tm) : sumV G (emit n c l) = c * G n + sumV G l := by
  unfold emit
  split
  · rename_i h
    subst h
    simp
  · rfl

theorem mod_left (a b c : Int) (h : a % 4294967296 = b % 4294967296) : (a * c) % 4294967296 = (b * c) % 4294967296 := by
  rw [Int.mul_emod, h, ← Int.mul_emod]

theorem sumV_gat (G : List UInt8 → Int) (n : List UInt8) (c : Int) (l : List Tm) : sumV G (gat n c l) % 4294967296 = (c * G n + sumV G l) % 4294967296 := by
  induction l generalizing n c with
  | nil => rw [show gat n c [] = emit n c [] from rfl, sumV_emit]
  | cons t r ih =>
    by_cases h : t.name = n
    · rw [gat_same n c t r h, ih]
      have h1 := mod_left ((c + t.coef) % 4294967296) (c + t.coef) (G n) (Int.emod_emod_of_dvd _ (Int.dvd_refl _))
      have h2 : (c + t.coef) * G n = c * G n + t.coef * G n := Int.add_mul _ _ _
      simp only [sumV, h]
      omega
    · rw [gat_other n c t r h, sumV_emit, gather_gat]
      have h1 := ih t.name ((0 + t.coef) % 4294967296)
      rw [gat_same t.name 0 t r rfl]
      have h2 := mod_left ((0 + t.coef) % 4294967296) t.coef (G t.name) (by omega)
      simp only [sumV]
      omega

theorem sumV_norm (G : List UInt8 → Int) (l : List Tm) : sumV G (norm l) % 4294967296 = sumV G l % 4294967296 := by
  unfold norm
  have hp := sumV_perm G (List.mergeSort_perm l leT)
  cases hm : l.mergeSort leT with
  | nil =>
    rw [hm] at hp
    rw [← hp]
    rfl
  | cons t r =>
    rw [hm] at hp
    rw [gather_gat, sumV_gat, ← hp]
    simp

theorem sumV_add (G : List UInt8 → Int) (a b : List Tm) : sumV G (addT a b) % 4294967296 = (sumV G a + sumV G b) % 4294967296 := by
  rw [addT, sumV_norm, sumV_append]

theorem sumV_times (G : List UInt8 → Int) (l : List Tm) (n : Int) : sumV G (timesT l n) % 4294967296 = (sumV G l * n) % 4294967296 := by
  induction l with
  | nil => simp [timesT_nil, sumV]
  | cons t r ih =>
    rw [timesT_cons, sumV_emit]
    have h1 := mod_left (t.coef * n % 4294967296) (t.coef * n) (G t.name) (Int.emod_emod_of_dvd _ (Int.dvd_refl _))
    have h2 : t.coef * n * G t.name = t.coef * G t.name * n := by rw [Int.mul_assoc, Int.mul_comm n, ← Int.mul_assoc]
    have h3 : (t.coef * G t.name + sumV G r) * n = t.coef * G t.name * n + sumV G r * n := Int.add_mul _ _ _
    simp only [sumV]
    omega

/-- where all names have values the value is the number and the sum -/
theorem valueF_sum (F : List UInt8 → Option Int) (G : List UInt8 → Int) (ts : List Tm) (h : ∀ t ∈ ts, F t.name = some (G t.name)) (k : Int) (hk : 0 ≤ k ∧ k < 4294967296) :
    valueF F k ts = some ((k + sumV G ts) % 4294967296) := by
  induction ts generalizing k with
  | nil =>
    simp only [valueF, sumV]
    congr 1
    omega
  | cons t r ih =>
    rw [valueF_some (h t (by simp)), ih (fun x hx => h x (by simp [hx])) _ (by omega)]
    congr 1
    simp only [sumV]
    omega
end Go.Proofs.YtijdjljnppkhmaaDoor

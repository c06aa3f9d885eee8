/- Doubles that are whole numbers: sums, products, comparisons of small ones are exact. Plain facts. -/
import GoSem.Core.Float
import GoSem.Op.Unary
import GoSem.Op.FloatArith
import GoSem.Op.FloatCmp
import GoSem.Conv.IntToFloat
import GoSem.Conv.FloatToInt
namespace Go.Proofs.PlainF
open Ieee
set_option linter.unusedVariables false
set_option linter.unusedSimpArgs false
set_option maxRecDepth 100000

theorem log2_shift (a k : Nat) (h : a ≠ 0) : (a * 2 ^ k).log2 = a.log2 + k := by
  have h2 : a * 2 ^ k ≠ 0 := Nat.mul_ne_zero h (by simp)
  rw [Nat.log2_eq_iff h2]
  have h3 := Nat.log2_self_le h
  have h4 : a < 2 ^ (a.log2 + 1) := Nat.lt_log2_self
  have hp : 0 < 2 ^ k := Nat.two_pow_pos k
  refine ⟨?_, ?_⟩
  · rw [Nat.pow_add]
    exact Nat.mul_le_mul_right _ h3
  · rw [show a.log2 + k + 1 = a.log2 + 1 + k by omega, Nat.pow_add]
    exact Nat.mul_lt_mul_of_pos_right h4 hp
/-- what is exact is cut without a rest -/
theorem cut_exact (way : Toward) (neg : Bool) (q d : Nat) (hq : q ≠ 0) : way.cut neg (q * 2 ^ d) d = q := by
  have hl := log2_shift q d hq
  unfold Toward.cut
  rw [hl, Nat.min_eq_left (by omega), Nat.one_shiftLeft]
  have hp : 0 < 2 ^ d := Nat.two_pow_pos d
  have h1 : q * 2 ^ d / 2 ^ d = q := Nat.mul_div_cancel _ hp
  have h2 : q * 2 ^ d % 2 ^ d = 0 := Nat.mul_mod_left _ _
  simp only [h1, h2]
  have h3 : ¬ (2 ^ d = 0) := by omega
  cases way <;> simp [h3]
theorem cut_nought (way : Toward) (neg : Bool) (d : Nat) : way.cut neg 0 d = 0 := by
  unfold Toward.cut
  have h0 : (1 <<< min d ((0 : Nat).log2 + 2)) ≠ 0 := by
    rw [Nat.one_shiftLeft]
    exact Nat.ne_of_gt (Nat.two_pow_pos _)
  generalize 1 <<< min d ((0 : Nat).log2 + 2) = g at *
  cases way <;> simp [h0]

/-- the word w is the whole number n -/
def Rep (w : Nat) (n : Int) : Prop := ∃ s m e, double.read w = .number s m e ∧ -1074 ≤ e ∧ signed s m (e + 1074).toNat = n * 2 ^ 1074

theorem signed_eq (s : Bool) (m k : Nat) : signed s m k = (if s then -(m : Int) else (m : Int)) * 2 ^ k := by
  unfold signed
  rw [Nat.shiftLeft_eq]
  cases s <;> simp [Int.neg_mul]

theorem dbl : double.leastPlace = -1074 ∧ double.binade = 2 ^ 52 ∧ double.infRung = 2047 * 2 ^ 52 ∧ double.signWeight = 2 ^ 63 ∧ double.fractionBits = 52 := by
  refine ⟨?_, ?_, ?_, ?_, ?_⟩ <;> decide
theorem read_zero (neg : Bool) : double.read (double.word neg 0) = .number neg 0 (-1074) := by
  cases neg <;> decide
theorem read_normal (neg : Bool) (L r : Nat) (hL : L ≤ 60) (hr : r < 2 ^ 52) : double.read (double.word neg ((L + 1023) * 2 ^ 52 + r)) = .number neg (2 ^ 52 + r) ((L : Int) - 52) := by
  obtain ⟨d1, d2, d3, d4, d5⟩ := dbl
  unfold Format.read Format.word
  rw [d1, d2, d3, d4]
  generalize hR : (L + 1023) * 2 ^ 52 + r = R
  have e1 : R / 2 ^ 52 = L + 1023 := by omega
  have e2 : R % 2 ^ 52 = r := by omega
  have e3 : R < 2 ^ 63 := by omega
  have e4 : ¬ R < 2 ^ 52 := by omega
  have e5 : R < 2047 * 2 ^ 52 := by omega
  cases neg
  · have f1 : R / 2 ^ 63 % 2 = 0 := by omega
    have f2 : R % 2 ^ 63 = R := by omega
    simp only [Bool.false_eq_true, if_false, f2, e4, e5, if_true, e1, e2, f1]
    congr 1
    omega
  · have f1 : (2 ^ 63 + R) / 2 ^ 63 % 2 = 1 := by omega
    have f2 : (2 ^ 63 + R) % 2 ^ 63 = R := by omega
    simp only [if_true, f2, e4, e5, if_false, e1, e2, f1]
    congr 1
    omega

/-- a small whole number is written exactly, however it is scaled -/
theorem write_rep (neg : Bool) (mag : Nat) (place : Int) (K n : Nat) (hK : 52 ≤ K) (hp : 0 ≤ place + K) (hn : n < 2 ^ 53) (h : mag * 2 ^ (place + K).toNat = n * 2 ^ K) :
    Rep (double.write (.number neg mag place)) (if neg then -(n : Int) else n) := by
  obtain ⟨d1, d2, d3, d4, d5⟩ := dbl
  have hpk : 0 < 2 ^ (place + K).toNat := Nat.two_pow_pos _
  have hpK : 0 < 2 ^ K := Nat.two_pow_pos _
  by_cases hm : mag = 0
  · subst hm
    have hn0 : n = 0 := by
      rw [Nat.zero_mul] at h
      rcases Nat.mul_eq_zero.1 h.symm with h | h
      · exact h
      · omega
    subst hn0
    refine ⟨neg, 0, -1074, ?_, by omega, ?_⟩
    · show double.read (double.nearest neg 0 place) = _
      unfold Format.nearest
      rw [if_pos rfl]
      exact read_zero neg
    · rw [signed_eq]
      cases neg
      · simp only [Bool.false_eq_true, if_false, Int.natCast_zero, Int.zero_mul]
      · simp only [if_true, Int.natCast_zero, Int.neg_zero, Int.zero_mul]
  · have hn0 : n ≠ 0 := fun e => by
      subst e
      rw [Nat.zero_mul] at h
      rcases Nat.mul_eq_zero.1 h with h | h
      · exact hm h
      · omega
    have hlog : mag.log2 + (place + K).toNat = n.log2 + K := by
      rw [← log2_shift _ _ hm, ← log2_shift _ _ hn0, h]
    have hL : n.log2 < 53 := (Nat.log2_lt hn0).2 hn
    obtain ⟨L, hLe⟩ : ∃ L, L = n.log2 := ⟨_, rfl⟩
    rw [← hLe] at hlog hL
    have hlast : max (place + (mag.log2 : Int) - (52 : Nat)) (-1074) = (L : Int) - 52 := by omega
    have hkept : Toward.even.cut neg (mag <<< (place - ((L : Int) - 52)).toNat) ((L : Int) - 52 - place).toNat = n * 2 ^ (52 - L) := by
      rw [Nat.shiftLeft_eq]
      by_cases hc : (L : Int) - 52 ≤ place
      · have z : ((L : Int) - 52 - place).toNat = 0 := by omega
        rw [z]
        have hmm : mag * 2 ^ (place - ((L : Int) - 52)).toNat = n * 2 ^ (52 - L) := by
          apply Nat.eq_of_mul_eq_mul_right (Nat.two_pow_pos (K - (52 - L)))
          rw [Nat.mul_assoc, Nat.mul_assoc, ← Nat.pow_add, ← Nat.pow_add, show (place - ((L : Int) - 52)).toNat + (K - (52 - L)) = (place + K).toNat by omega, show 52 - L + (K - (52 - L)) = K by omega]
          exact h
        rw [hmm]
        have := cut_exact .even neg (n * 2 ^ (52 - L)) 0 (Nat.mul_ne_zero hn0 (Nat.ne_of_gt (Nat.two_pow_pos _)))
        rwa [Nat.pow_zero, Nat.mul_one] at this
      · have z : (place - ((L : Int) - 52)).toNat = 0 := by omega
        rw [z, Nat.pow_zero, Nat.mul_one]
        have hmm : mag = n * 2 ^ (52 - L) * 2 ^ ((L : Int) - 52 - place).toNat := by
          apply Nat.eq_of_mul_eq_mul_right hpk
          rw [h, Nat.mul_assoc, Nat.mul_assoc, ← Nat.pow_add, ← Nat.pow_add]
          congr 2
          omega
        rw [hmm]
        exact cut_exact .even neg (n * 2 ^ (52 - L)) _ (Nat.mul_ne_zero hn0 (Nat.ne_of_gt (Nat.two_pow_pos _)))
    have hq1 : 2 ^ 52 ≤ n * 2 ^ (52 - L) := by
      have h1 := Nat.log2_self_le hn0
      rw [← hLe] at h1
      have h2 := Nat.mul_le_mul_right (2 ^ (52 - L)) h1
      rwa [← Nat.pow_add, show L + (52 - L) = 52 by omega] at h2
    have hq2 : n * 2 ^ (52 - L) < 2 ^ 53 := by
      have h1 : n < 2 ^ (L + 1) := by rw [hLe]; exact Nat.lt_log2_self
      have h2 := Nat.mul_lt_mul_of_pos_right h1 (Nat.two_pow_pos (52 - L))
      rwa [← Nat.pow_add, show L + 1 + (52 - L) = 53 by omega] at h2
    obtain ⟨r, hr⟩ : ∃ r, n * 2 ^ (52 - L) = 2 ^ 52 + r := ⟨n * 2 ^ (52 - L) - 2 ^ 52, by omega⟩
    have hr2 : r < 2 ^ 52 := by omega
    have hw : double.write (.number neg mag place) = double.word neg ((L + 1023) * 2 ^ 52 + r) := by
      show double.nearest neg mag place = _
      unfold Format.nearest
      rw [if_neg hm, d1, d2, d3, d5]
      simp only [hlast, hkept, hr]
      congr 1
      rw [Nat.min_eq_left (by omega)]
      omega
    refine ⟨neg, 2 ^ 52 + r, (L : Int) - 52, ?_, by omega, ?_⟩
    · rw [hw]
      exact read_normal neg L r (by omega) hr2
    · rw [signed_eq, ← hr]
      have e1 : n * 2 ^ (52 - L) * 2 ^ ((L : Int) - 52 + 1074).toNat = n * 2 ^ 1074 := by
        rw [Nat.mul_assoc, ← Nat.pow_add]
        congr 2
        omega
      have e2 : ((n * 2 ^ (52 - L) : Nat) : Int) * 2 ^ ((L : Int) - 52 + 1074).toNat = (n : Int) * 2 ^ 1074 := by
        have := congrArg (fun x : Nat => (x : Int)) e1
        simp only [Int.natCast_mul, Int.natCast_pow] at this
        simp only [Int.natCast_mul, Int.natCast_pow]
        exact this
      cases neg
      · simp only [Bool.false_eq_true, if_false]
        exact e2
      · simp only [if_true, Int.neg_mul]
        rw [e2]

/-- a whole number as a double -/
theorem nearest_rep (n : Int) (h : n.natAbs < 2 ^ 53) : Rep (FloatKind.f64.nearest n) n := by
  have := write_rep (decide (n < 0)) n.natAbs 0 1074 n.natAbs (by omega) (by omega) h (by rw [show ((0 : Int) + (1074 : Nat)).toNat = 1074 by decide])
  have e : (if decide (n < 0) = true then -(n.natAbs : Int) else n.natAbs) = n := by
    by_cases h : n < 0
    · rw [if_pos (by simpa using h)]; omega
    · rw [if_neg (by simpa using h)]; omega
  rw [e] at this
  exact this
theorem scale {s : Bool} {m : Nat} {e base : Int} {n : Int} (h0 : -1074 ≤ base) (h1 : base ≤ e) (h : signed s m (e + 1074).toNat = n * 2 ^ 1074) : signed s m (e - base).toNat * 2 ^ (base + 1074).toNat = n * 2 ^ 1074 := by
  rw [← h, signed_eq, signed_eq, Int.mul_assoc, ← Int.pow_add]
  congr 2
  omega
theorem signed_abs (s : Bool) (m : Nat) : (signed s m 0).natAbs = m := by
  rw [signed_eq]
  cases s
  · simp
  · simp
theorem abs_scale {t n : Int} {p q : Nat} (h : t * 2 ^ p = n * 2 ^ q) : t.natAbs * 2 ^ p = n.natAbs * 2 ^ q := by
  have := congrArg Int.natAbs h
  rw [Int.natAbs_mul, Int.natAbs_mul, Int.natAbs_pow, Int.natAbs_pow] at this
  exact this
theorem pos_scale {t n : Int} {p q : Nat} (h : t * 2 ^ p = n * 2 ^ q) : (t < 0 ↔ n < 0) ∧ (t = 0 ↔ n = 0) := by
  have hp : (0 : Int) < 2 ^ p := Int.pow_pos (by decide)
  have hq : (0 : Int) < 2 ^ q := Int.pow_pos (by decide)
  refine ⟨⟨fun h1 => ?_, fun h1 => ?_⟩, ⟨fun h1 => ?_, fun h1 => ?_⟩⟩
  · have h2 : t * 2 ^ p < 0 := Int.mul_neg_of_neg_of_pos h1 hp
    rw [h] at h2
    rcases Int.lt_or_le n 0 with h3 | h3
    · exact h3
    · have := Int.mul_nonneg h3 (Int.le_of_lt hq)
      exact absurd h2 (Int.not_lt.2 this)
  · have h2 : n * 2 ^ q < 0 := Int.mul_neg_of_neg_of_pos h1 hq
    rw [← h] at h2
    rcases Int.lt_or_le t 0 with h3 | h3
    · exact h3
    · have := Int.mul_nonneg h3 (Int.le_of_lt hp)
      exact absurd h2 (Int.not_lt.2 this)
  · subst h1
    rw [Int.zero_mul] at h
    rcases Int.mul_eq_zero.1 h.symm with h | h
    · exact h
    · omega
  · subst h1
    rw [Int.zero_mul] at h
    rcases Int.mul_eq_zero.1 h with h | h
    · exact h
    · omega
/-- the sum -/
theorem add_data {s t : Bool} {m n : Nat} {i j : Int} {a b : Int} (hi : -1074 ≤ i) (hj : -1074 ≤ j) (h1 : signed s m (i + 1074).toNat = a * 2 ^ 1074) (h2 : signed t n (j + 1074).toNat = b * 2 ^ 1074) (hab : (a + b).natAbs < 2 ^ 53) :
    ∃ d, Datum.sum (.number s m i) (.number t n j) = some d ∧ Rep (double.write d) (a + b) := by
  refine ⟨_, rfl, ?_⟩
  have hb : -1074 ≤ min i j := by omega
  have hs : (signed s m (i - min i j).toNat + signed t n (j - min i j).toNat) * 2 ^ (min i j + 1074).toNat = (a + b) * 2 ^ 1074 := by
    rw [Int.add_mul, Int.add_mul, scale hb (by omega) h1, scale hb (by omega) h2]
  generalize signed s m (i - min i j).toNat + signed t n (j - min i j).toNat = total at hs ⊢
  generalize min i j = base at hs hb ⊢
  obtain ⟨p1, p2⟩ := pos_scale hs
  have hw := write_rep (if total = 0 then s && t else decide (total < 0)) total.natAbs base 1074 (a + b).natAbs (by omega) (by omega) hab (by rw [show ((1074 : Nat) : Int) = 1074 from rfl]; exact abs_scale (p := (base + 1074).toNat) (q := 1074) hs)
  have e : (if (if total = 0 then s && t else decide (total < 0)) = true then -((a + b).natAbs : Int) else (a + b).natAbs) = a + b := by
    by_cases h0 : total = 0
    · have := p2.1 h0
      rw [this]
      simp
    · rw [if_neg h0]
      by_cases h : total < 0
      · rw [if_pos (by simpa using h)]
        have := p1.1 h
        omega
      · rw [if_neg (by simpa using h)]
        have : ¬ a + b < 0 := fun hc => h (p1.2 hc)
        omega
  rw [e] at hw
  exact hw
theorem add_rep {x y : Nat} {a b : Int} (hx : Rep x a) (hy : Rep y b) (hab : (a + b).natAbs < 2 ^ 53) : ∃ w, double.add x y = some w ∧ Rep w (a + b) := by
  obtain ⟨s, m, i, r1, hi, h1⟩ := hx
  obtain ⟨t, n, j, r2, hj, h2⟩ := hy
  obtain ⟨d, hd, hr⟩ := add_data hi hj h1 h2 hab
  refine ⟨_, ?_, hr⟩
  unfold Format.add
  rw [r1, r2, hd]
  rfl
theorem signed_not (s : Bool) (m k : Nat) : signed (!s) m k = -signed s m k := by
  rw [signed_eq, signed_eq]
  cases s <;> simp [Int.neg_mul]
theorem sub_rep {x y : Nat} {a b : Int} (hx : Rep x a) (hy : Rep y b) (hab : (a - b).natAbs < 2 ^ 53) : ∃ w, double.sub x y = some w ∧ Rep w (a - b) := by
  obtain ⟨s, m, i, r1, hi, h1⟩ := hx
  obtain ⟨t, n, j, r2, hj, h2⟩ := hy
  have h3 : signed (!t) n (j + 1074).toNat = (-b) * 2 ^ 1074 := by rw [signed_not, h2, Int.neg_mul]
  obtain ⟨d, hd, hr⟩ := add_data hi hj h1 h3 (by rw [← Int.sub_eq_add_neg]; exact hab)
  refine ⟨double.write d, ?_, by rw [Int.sub_eq_add_neg]; exact hr⟩
  unfold Format.sub
  rw [r1, r2]
  show (Datum.sum (.number s m i) (.number (!t) n j)).map _ = _
  rw [hd]
  rfl
theorem mul_rep {x y : Nat} {a b : Int} (hx : Rep x a) (hy : Rep y b) (hab : (a * b).natAbs < 2 ^ 53) : ∃ w, double.mul x y = some w ∧ Rep w (a * b) := by
  obtain ⟨s, m, i, r1, hi, h1⟩ := hx
  obtain ⟨t, n, j, r2, hj, h2⟩ := hy
  refine ⟨double.write (.number (s ^^ t) (m * n) (i + j)), ?_, ?_⟩
  · unfold Format.mul
    rw [r1, r2]
    rfl
  · rw [signed_eq] at h1 h2
    have a1 := abs_scale h1
    have a2 := abs_scale h2
    have e1 : (if s then -(m : Int) else (m : Int)).natAbs = m := by cases s <;> simp
    have e2 : (if t then -(n : Int) else (n : Int)).natAbs = n := by cases t <;> simp
    rw [e1] at a1
    rw [e2] at a2
    have hm : m * n * 2 ^ (i + j + (2148 : Nat)).toNat = (a * b).natAbs * 2 ^ 2148 := by
      have : (m * 2 ^ (i + 1074).toNat) * (n * 2 ^ (j + 1074).toNat) = (a.natAbs * 2 ^ 1074) * (b.natAbs * 2 ^ 1074) := by rw [a1, a2]
      rw [Int.natAbs_mul, show 2148 = 1074 + 1074 from rfl, Nat.pow_add 2 1074 1074, show (i + j + ((1074 + 1074 : Nat) : Int)).toNat = (i + 1074).toNat + (j + 1074).toNat by omega, Nat.pow_add]
      have l1 : m * n * (2 ^ (i + 1074).toNat * 2 ^ (j + 1074).toNat) = m * 2 ^ (i + 1074).toNat * (n * 2 ^ (j + 1074).toNat) := by
        generalize 2 ^ (i + 1074).toNat = u
        generalize 2 ^ (j + 1074).toNat = v
        rw [Nat.mul_assoc, Nat.mul_assoc]
        congr 1
        rw [← Nat.mul_assoc, ← Nat.mul_assoc, Nat.mul_comm n u]
      rw [l1, this]
      generalize 2 ^ 1074 = u
      rw [Nat.mul_assoc, Nat.mul_assoc]
      congr 1
      rw [← Nat.mul_assoc, ← Nat.mul_assoc, Nat.mul_comm u b.natAbs]
    have hw := write_rep (s ^^ t) (m * n) (i + j) 2148 (a * b).natAbs (by omega) (by omega) hab hm
    obtain ⟨p1, p2⟩ := pos_scale h1
    obtain ⟨q1, q2⟩ := pos_scale h2
    have e : (if (s ^^ t) = true then -((a * b).natAbs : Int) else (a * b).natAbs) = a * b := by
      by_cases ha : a = 0
      · subst ha; simp
      by_cases hb : b = 0
      · subst hb; simp
      have hm0 : m ≠ 0 := fun e => ha (p2.1 (by subst e; simp))
      have hn0 : n ≠ 0 := fun e => hb (q2.1 (by subst e; simp))
      have sa : s = true ↔ a < 0 := by
        rw [← p1]
        cases s
        · simp
        · simp; omega
      have sb : t = true ↔ b < 0 := by
        rw [← q1]
        cases t
        · simp
        · simp; omega
      rcases Int.lt_or_lt_of_ne ha with h | h <;> rcases Int.lt_or_lt_of_ne hb with h' | h'
      · have := Int.mul_pos_of_neg_of_neg h h'
        rw [sa.2 h, sb.2 h']
        simp
        omega
      · have := Int.mul_neg_of_neg_of_pos h h'
        rw [sa.2 h, show t = false from by rw [← Bool.not_eq_true, sb]; omega]
        simp
        omega
      · have := Int.mul_neg_of_pos_of_neg h h'
        rw [sb.2 h', show s = false from by rw [← Bool.not_eq_true, sa]; omega]
        simp
        omega
      · have := Int.mul_pos h h'
        rw [show t = false from by rw [← Bool.not_eq_true, sb]; omega, show s = false from by rw [← Bool.not_eq_true, sa]; omega]
        simp
        omega
    rw [e] at hw
    exact hw
/-- how two stand to each other -/
theorem order_rep {x y : Nat} {a b : Int} (hx : Rep x a) (hy : Rep y b) : double.order x y = some (compare a b) := by
  obtain ⟨s, m, i, r1, hi, h1⟩ := hx
  obtain ⟨t, n, j, r2, hj, h2⟩ := hy
  unfold Format.order
  rw [r1, r2]
  show some (compare (signed s m (i - min i j).toNat) (signed t n (j - min i j).toNat)) = _
  have hb : -1074 ≤ min i j := by omega
  have e1 := scale hb (by omega) h1
  have e2 := scale hb (by omega) h2
  generalize signed s m (i - min i j).toNat = u at *
  generalize signed t n (j - min i j).toNat = v at *
  have h3 : (u - v) * 2 ^ (min i j + 1074).toNat = (a - b) * 2 ^ 1074 := by rw [Int.sub_mul, Int.sub_mul, e1, e2]
  have h4 : (v - u) * 2 ^ (min i j + 1074).toNat = (b - a) * 2 ^ 1074 := by rw [Int.sub_mul, Int.sub_mul, e1, e2]
  have k1 := (pos_scale h3).1
  have k2 := (pos_scale h3).2
  congr 1
  rw [Int.compare_eq_ite_lt, Int.compare_eq_ite_lt]
  have c1 : u < v ↔ a < b := by omega
  have c2 : v < u ↔ b < a := by have := (pos_scale h4).1; omega
  simp only [c1, c2]
/-- the whole number itself -/
theorem toInt_rep {x : Nat} {a : Int} (hx : Rep x a) : (double.read x).toInt .zero = some a := by
  obtain ⟨s, m, e, r, he, h⟩ := hx
  rw [r]
  show some (signed s (Toward.zero.cut s (m <<< e.toNat) (-e).toNat) 0) = some a
  congr 1
  rw [signed_eq] at h
  have h1 := abs_scale h
  have e1 : (if s then -(m : Int) else (m : Int)).natAbs = m := by cases s <;> simp
  rw [e1] at h1
  have hc : Toward.zero.cut s (m <<< e.toNat) (-e).toNat = a.natAbs := by
    rw [Nat.shiftLeft_eq]
    by_cases ha : a.natAbs = 0
    · rw [ha] at h1 ⊢
      have h9 : m * 2 ^ (e + 1074).toNat = 0 := by
        rw [h1]
        generalize 2 ^ 1074 = u
        exact Nat.zero_mul u
      have h2 : m = 0 := (Nat.mul_eq_zero.1 h9).resolve_right (Nat.ne_of_gt (Nat.two_pow_pos (e + 1074).toNat))
      rw [h2, Nat.zero_mul]
      exact cut_nought _ _ _
    · have hmm : m * 2 ^ e.toNat = a.natAbs * 2 ^ (-e).toNat := by
        apply Nat.eq_of_mul_eq_mul_right (Nat.two_pow_pos (1074 - (-e).toNat))
        rw [Nat.mul_assoc, Nat.mul_assoc, ← Nat.pow_add, ← Nat.pow_add, show e.toNat + (1074 - (-e).toNat) = (e + 1074).toNat by omega, show (-e).toNat + (1074 - (-e).toNat) = 1074 by omega]
        exact h1
      rw [hmm]
      exact cut_exact _ _ _ _ ha
  rw [hc, signed_eq]
  obtain ⟨p1, p2⟩ := pos_scale h
  by_cases hm : m = 0
  · subst hm
    have : a = 0 := p2.1 (by simp)
    subst this
    simp
  · cases s
    · simp only [Bool.false_eq_true, if_false] at p1 ⊢
      have : ¬ a < 0 := fun hc => by have := p1.2 hc; omega
      simp
      omega
    · simp only [if_true] at p1 ⊢
      have : a < 0 := p1.1 (by omega)
      simp
      omega
/-- its opposite -/
theorem flip (b y : Nat) (hb : b < 2) (hy : y < 2 ^ 63) : (2 ^ 63 * b + y) ^^^ 2 ^ 63 = 2 ^ 63 * (1 - b) + y := by
  apply Nat.eq_of_testBit_eq
  intro i
  rw [Nat.testBit_xor, Nat.testBit_two_pow, Nat.testBit_two_pow_mul_add _ hy, Nat.testBit_two_pow_mul_add _ hy]
  by_cases hi : i < 63
  · rw [if_pos hi, if_pos hi]
    have : ¬ 63 = i := by omega
    simp [this]
  · rw [if_neg hi, if_neg hi]
    have h2 : b = 0 ∨ b = 1 := by omega
    by_cases he : i = 63
    · subst he
      rcases h2 with rfl | rfl <;> rfl
    · obtain ⟨k, rfl⟩ : ∃ k, i = 63 + (k + 1) := ⟨i - 64, by omega⟩
      rw [show 63 + (k + 1) - 63 = k + 1 by omega]
      have h3 : ¬ 63 = 63 + (k + 1) := by omega
      rcases h2 with rfl | rfl <;> simp [h3, Nat.testBit_succ]
theorem neg_word (b y : Nat) (hb : b < 2) (hy : y < 2 ^ 63) : Op.negFloat .f64 (2 ^ 63 * b + y) = 2 ^ 63 * (1 - b) + y := flip b y hb hy
/-- a word read with the other sign -/
theorem read_neg (x : Nat) (hx : x < 2 ^ 64) : double.read (Op.negFloat .f64 x) = (double.read x).opposite ∧ Op.negFloat .f64 x < 2 ^ 64 := by
  obtain ⟨d1, d2, d3, d4, d5⟩ := dbl
  obtain ⟨b, y, hb, hy, rfl⟩ : ∃ b y, b < 2 ∧ y < 2 ^ 63 ∧ x = 2 ^ 63 * b + y := ⟨x / 2 ^ 63, x % 2 ^ 63, by omega, by omega, by omega⟩
  rw [neg_word b y hb hy]
  have hb2 : b = 0 ∨ b = 1 := by omega
  refine ⟨?_, by rcases hb2 with rfl | rfl <;> omega⟩
  unfold Format.read
  rw [d1, d2, d3, d4]
  have e1 : (2 ^ 63 * (1 - b) + y) % 2 ^ 63 = y := by rcases hb2 with rfl | rfl <;> omega
  have e2 : (2 ^ 63 * b + y) % 2 ^ 63 = y := by rcases hb2 with rfl | rfl <;> omega
  have e3 : (2 ^ 63 * (1 - b) + y) / 2 ^ 63 % 2 = 1 - b := by rcases hb2 with rfl | rfl <;> omega
  have e4 : (2 ^ 63 * b + y) / 2 ^ 63 % 2 = b := by rcases hb2 with rfl | rfl <;> omega
  simp only [e1, e2, e3, e4]
  have e5 : (1 - b == 1) = !(b == 1) := by rcases hb2 with rfl | rfl <;> rfl
  rw [e5]
  split
  · rfl
  · split
    · rfl
    · split
      · rfl
      · rfl
theorem neg_rep {x : Nat} {a : Int} (hx : Rep x a) (hw : x < 2 ^ 64) : Rep (Op.negFloat .f64 x) (-a) := by
  obtain ⟨s, m, e, r, he, h⟩ := hx
  refine ⟨!s, m, e, ?_, he, by rw [signed_not, h, Int.neg_mul]⟩
  rw [(read_neg x hw).1, r]
  rfl
/-- words stay words -/
theorem write_word (d : Datum) : double.write d < 2 ^ 64 := by
  obtain ⟨d1, d2, d3, d4, d5⟩ := dbl
  have hw : ∀ (s : Bool) (r : Nat), r < 2 ^ 63 → double.word s r < 2 ^ 64 := fun s r hr => by
    unfold Format.word
    rw [d4]
    cases s
    · simp only [Bool.false_eq_true, if_false]; omega
    · simp only [if_true]; omega
  cases d with
  | number neg mag place =>
    show double.nearest neg mag place < _
    unfold Format.nearest
    split
    · exact hw _ _ (by omega)
    · refine hw _ _ ?_
      rw [d3]
      exact Nat.lt_of_le_of_lt (Nat.min_le_right _ _) (by omega)
  | infinity neg =>
    show double.word neg double.infRung < _
    rw [d3]
    exact hw _ _ (by omega)
  | nan neg fraction =>
    show double.word neg (double.infRung + fraction % double.binade) < _
    rw [d2, d3]
    have : fraction % 2 ^ 52 < 2 ^ 52 := Nat.mod_lt _ (by omega)
    exact hw _ _ (by omega)
end Go.Proofs.PlainF

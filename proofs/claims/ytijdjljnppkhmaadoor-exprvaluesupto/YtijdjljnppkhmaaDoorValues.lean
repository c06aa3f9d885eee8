/- PROVED, where what comes in is of bulk at most 1048576: of right Lins the value of a sum is the sum of the values, that of a product the product, in thirty-two bits; where a name has none there is none: chapter 4, P4.3, P4.4, P4.6 (spandrellaw4.ExprValues returns true). Conditions: that bound, and the listed tables as the program's text lays them. -/
import Derived.Test.YtijdjljnppkhmaaDoorGroupsM
import Derived.Test.YtijdjljnppkhmaaDoorValueT
import Derived.Test.YtijdjljnppkhmaaDoorConcat
import Derived.Test.YtijdjljnppkhmaaDoorKnownE
import Derived.Test.YtijdjljnppkhmaaDoorRefRight
import Derived.Test.YtijdjljnppkhmaaDoorQuietB
import Derived.Test.YtijdjljnppkhmaaDoorNumbersW
import Derived.Test.YtijdjljnppkhmaaDoorLinF
import Derived.Deep.RegionWith
import Derived.Deep.RegionHeld3
import Derived.Deep.RegionLaw
import Derived.Deep.AppendLies
import Derived.Deep.DeepCutAuto
import Derived.BigRegion
import Derived.Test.YtijdjljnppkhmaaDoorNumbers
import Derived.ShutString
import Derived.ChangeOld
import Derived.ChangeSlices
import Derived.JoinedCond
/- The value of sums and products of terms, where each name has a value. -/
namespace Go.Proofs.YtijdjljnppkhmaaDoor
set_option linter.unusedVariables false

/-- the sum of the coefficients times the values -/
def sumV (G : List UInt8 → Int) : List Tm → Int
  | [] => 0
  | t :: r => t.coef * G t.name + sumV G r

theorem sumV_append (G : List UInt8 → Int) (a b : List Tm) : sumV G (a ++ b) = sumV G a + sumV G b := by
  induction a with
  | nil => simp [sumV]
  | cons x r ih => simp only [List.cons_append, sumV, ih]; omega

theorem sumV_perm (G : List UInt8 → Int) {a b : List Tm} (h : a.Perm b) : sumV G a = sumV G b := by
  induction h with
  | nil => rfl
  | cons x _ ih => simp only [sumV, ih]
  | swap x y l => simp only [sumV]; omega
  | trans _ _ ih1 ih2 => exact ih1.trans ih2

theorem sumV_emit (G : List UInt8 → Int) (n : List UInt8) (c : Int) (l : List Tm) : sumV G (emit n c l) = c * G n + sumV G l := by
  unfold emit
  split
  · rename_i h
    subst h
    simp
  · rfl

theorem mod_left (a b c : Int) (h : a % 4294967296 = b % 4294967296) : (a * c) % 4294967296 = (b * c) % 4294967296 := by
  rw [Int.mul_emod, h, ← Int.mul_emod]

theorem sumV_gat (G : List UInt8 → Int) (n : List UInt8) (c : Int) (l : List Tm) : sumV G (gat n c l) % 4294967296 = (c * G n + sumV G l) % 4294967296 := by
  induction l generalizing n c with
  | nil => rw [show gat n c [] = emit n c [] from rfl, sumV_emit]
  | cons t r ih =>
    by_cases h : t.name = n
    · rw [gat_same n c t r h, ih]
      have h1 := mod_left ((c + t.coef) % 4294967296) (c + t.coef) (G n) (Int.emod_emod_of_dvd _ (Int.dvd_refl _))
      have h2 : (c + t.coef) * G n = c * G n + t.coef * G n := Int.add_mul _ _ _
      simp only [sumV, h]
      omega
    · rw [gat_other n c t r h, sumV_emit, gather_gat]
      have h1 := ih t.name ((0 + t.coef) % 4294967296)
      rw [gat_same t.name 0 t r rfl]
      have h2 := mod_left ((0 + t.coef) % 4294967296) t.coef (G t.name) (by omega)
      simp only [sumV]
      omega

theorem sumV_norm (G : List UInt8 → Int) (l : List Tm) : sumV G (norm l) % 4294967296 = sumV G l % 4294967296 := by
  unfold norm
  have hp := sumV_perm G (List.mergeSort_perm l leT)
  cases hm : l.mergeSort leT with
  | nil =>
    rw [hm] at hp
    rw [← hp]
    rfl
  | cons t r =>
    rw [hm] at hp
    rw [gather_gat, sumV_gat, ← hp]
    simp

theorem sumV_add (G : List UInt8 → Int) (a b : List Tm) : sumV G (addT a b) % 4294967296 = (sumV G a + sumV G b) % 4294967296 := by
  rw [addT, sumV_norm, sumV_append]

theorem sumV_times (G : List UInt8 → Int) (l : List Tm) (n : Int) : sumV G (timesT l n) % 4294967296 = (sumV G l * n) % 4294967296 := by
  induction l with
  | nil => simp [timesT_nil, sumV]
  | cons t r ih =>
    rw [timesT_cons, sumV_emit]
    have h1 := mod_left (t.coef * n % 4294967296) (t.coef * n) (G t.name) (Int.emod_emod_of_dvd _ (Int.dvd_refl _))
    have h2 : t.coef * n * G t.name = t.coef * G t.name * n := by rw [Int.mul_assoc, Int.mul_comm n, ← Int.mul_assoc]
    have h3 : (t.coef * G t.name + sumV G r) * n = t.coef * G t.name * n + sumV G r * n := Int.add_mul _ _ _
    simp only [sumV]
    omega

/-- where all names have values the value is the number and the sum -/
theorem valueF_sum (F : List UInt8 → Option Int) (G : List UInt8 → Int) (ts : List Tm) (h : ∀ t ∈ ts, F t.name = some (G t.name)) (k : Int) (hk : 0 ≤ k ∧ k < 4294967296) :
    valueF F k ts = some ((k + sumV G ts) % 4294967296) := by
  induction ts generalizing k with
  | nil =>
    simp only [valueF, sumV]
    congr 1
    omega
  | cons t r ih =>
    rw [valueF_some (h t (by simp)), ih (fun x hx => h x (by simp [hx])) _ (by omega)]
    congr 1
    simp only [sumV]
    omega
end Go.Proofs.YtijdjljnppkhmaaDoor
/- Laws for ExprValues: terms appended inside a drawn region; a map that is filled. -/
namespace Go.Proofs.YtijdjljnppkhmaaDoor
open Go.ChangeShapes Go.WideShapes Go.ChangeAt Go.RowKit Go.WideMaps Go.Maps
set_option linter.unusedVariables false
set_option maxRecDepth 100000

theorem app_run (w : World) (ty : TypeId) (base : Nat) (v : Value) (n m : Nat) (zs ts : List Tm) (hn : n = zs.length) (hm3 : m = ts.length) (hown : w.ownsRow base 56 2 v n (rowT zs)) (a3 : Option Addr) (c3 : Nat) (hl : Held w a3 c3 ts) (hm : n + m ≤ 9000000) (hbase : base ≤ w.heap.size) :
    ∃ a' c' w', (Builtin.append_ #[22, 22] ty #[v, .slice a3 m c3]).run Tryd.prog w = .ok (.slice a' (n + m) c') w' ∧ w'.ownsRow base 56 2 (.slice a' (n + m) c') (n + m) (rowT (zs ++ ts)) ∧ w.grownBy w' v.ownBlock := by
  subst hn hm3
  obtain ⟨i0, hi, hz0, hz1, hz2⟩ := info_parts Tryd.info56
  cases a3 with
  | none =>
    obtain ⟨ht, rfl⟩ := hl.nil rfl
    obtain rfl := List.length_eq_zero_iff.1 ht
    have hrun := run_append_owned_none (P := Tryd.prog) (w := w) base 22 ty 56 i0 2 Tryd.underlying22 hi v zs.length (rowT zs) hown
    obtain ⟨a', c', rfl⟩ := own_slice hown
    exact ⟨a', c', w, hrun, by simpa using hown, World.grownBy.refl _ _⟩
  | some ad =>
    obtain ⟨v', w', hrun, r1, r2, _⟩ := run_append_own_wide (P := Tryd.prog) w base 22 ty 56 i0 (.agg #[.string ⟨#[]⟩, .int .u32 0]) 2 24 Tryd.underlying22 hi hz0 hz1 hz2 rfl (by decide) v zs.length (rowT zs) hown ad ts.length c3 (rowT ts) (rowT_length ts) (lies_cells hl.lies) (rowT_one ts) (by unfold maxLen; omega) (by omega) hbase
    obtain ⟨a', c', rfl⟩ := own_slice r1
    exact ⟨a', c', w', hrun, by rw [rowT_append]; exact r1, r2⟩

theorem step_terms {ops : Array Oper} {o : Oper} {a : Act} {K : Act → World → Prop} {Q : Exit → Act → World → Prop} {E : Prop} (w : World) (hgd : o.guard = none) (s x : Operand)
    (ho : o.op = .call { callee := .builtin .append, args := #[s, x], argTypes := #[22, 22] }) (base : Nat) (v : Value) (n m : Nat) (zs ts : List Tm) (hn : n = zs.length) (hm3 : m = ts.length) (hs : a.eval s = v) (hown : w.ownsRow base 56 2 v n (rowT zs))
    (a3 : Option Addr) (c3 : Nat) (hx : a.eval x = .slice a3 m c3) (hl : Held w a3 c3 ts) (hm : n + m ≤ 9000000) (hbase : base ≤ w.heap.size)
    (hK : ∀ a' c' w', w'.ownsRow base 56 2 (.slice a' (n + m) c') (n + m) (rowT (zs ++ ts)) → w.grownBy w' v.ownBlock → K (a.put o.dst (.slice a' (n + m) c')) w') :
    if Region.wanted o (yielded ops a.tmps) = true then Oper.wp Tryd.prog o a w K Q else E := by
  have hw : Region.wanted o (yielded ops a.tmps) = true := by simp [Region.wanted, hgd]
  rw [if_pos hw]
  obtain ⟨a', c', w', hrun, r1, r2⟩ := app_run w o.type base v n m zs ts hn hm3 hown a3 c3 hl hm hbase
  unfold Oper.wp
  simp [execOp, ho, resolve, invoke, builtin, hs, hx, hrun, Result.andThen]
  exact hK a' c' w' r1 r2

/-- an empty slice that was built -/
theorem own_empty (w : World) (B : Nat) (hB : B ≤ w.heap.size) : (w.alloc (.cells #[] 56)).ownsRow B 56 2 (.slice (some ⟨w.heap.size, 0, none⟩) 0 0) 0 (rowT []) :=
  ⟨rfl, .inr ⟨w.heap.size, 0, #[], rfl, hB, heap_alloc_new w _, Nat.le_refl _, Nat.zero_le _, rfl, rfl⟩⟩

/-- a value more -/
def putF (F : List UInt8 → Option Int) (s : List UInt8) (v : Int) : List UInt8 → Option Int := fun x => if x = s then some v else F x
def SpecM (D : DataW Unit) (F : List UInt8 → Option Int) : Prop := IsMap D ∧ ∀ s, has D (.string s) = (F s).isSome ∧ D.atKey (.string s) (.lit (.int .u32 0)) = .lit (.int .u32 ((F s).getD 0))
theorem spec_put {D : DataW Unit} {F : List UInt8 → Option Int} (h : SpecM D F) (s : List UInt8) (v : Int) : SpecM (D.put (.string s) (.lit (.int .u32 v))) (putF F s v) := by
  refine ⟨h.1.put _ _, fun x => ?_⟩
  unfold putF
  by_cases hx : x = s
  · subst hx
    rw [if_pos rfl]
    exact ⟨by rw [has_put_same h.1 (show WideAt.IsKeyLit (.string x) from trivial)]; rfl, by rw [atKey_put_same h.1 (show WideAt.IsKeyLit (.string x) from trivial)]; rfl⟩
  · have n1 : (Lit.string x) ≠ .string s := fun e => hx (by injection e)
    rw [has_put_other n1, atKey_put_other n1, if_neg hx]
    exact h.2 x
theorem spec_empty : SpecM (.map []) (fun _ => none) := ⟨isMap_empty, fun s => ⟨rfl, rfl⟩⟩

/-- the values after the first i names, out of m values -/
def fillF (vs : List Int) (ts : List Tm) : Nat → List UInt8 → Option Int
  | 0 => fun _ => none
  | i + 1 => match ts[i]? with
    | some t => putF (fillF vs ts i) t.name (vs.getD (i % vs.length) 0)
    | none => fillF vs ts i
theorem fillF_step {vs : List Int} {ts : List Tm} {i : Nat} {t : Tm} (h : ts[i]? = some t) : fillF vs ts (i + 1) = putF (fillF vs ts i) t.name (vs.getD (i % vs.length) 0) := by
  rw [fillF, h]
theorem fillF_some (vs : List Int) (ts : List Tm) (i j : Nat) (t : Tm) (hj : j < i) (ht : ts[j]? = some t) : (fillF vs ts i t.name).isSome = true := by
  induction i with
  | zero => omega
  | succ i ih =>
    rw [fillF]
    cases hx : ts[i]? with
    | none =>
      by_cases h : j = i
      · subst h
        rw [hx] at ht
        cases ht
      · exact ih (by omega)
    | some x =>
      simp only [putF]
      by_cases h : t.name = x.name
      · rw [if_pos h]; rfl
      · rw [if_neg h]
        by_cases hji : j = i
        · subst hji
          rw [hx] at ht
          injection ht with ht
          subst ht
          exact absurd rfl h
        · exact ih (by omega)

/-- the numbers vs lie from a on -/
def IntLies (w : World) (a : Option Addr) (vs : List Int) : Prop := vs = [] ∨ ∃ g o, a = some ⟨g, o, none⟩ ∧ g < w.heap.size ∧ ∀ (i : Nat) (v : Int), vs[i]? = some v → w.cell? ⟨g, o + i, none⟩ = some (.int .u32 v)
theorem IntLies.below {w w' : World} {a : Option Addr} {vs : List Int} {B : Nat} (h : IntLies w a vs) (hb : Below B w w') (hB : w.heap.size ≤ B) : IntLies w' a vs := by
  rcases h with h | ⟨g, o, ha, hg, h⟩
  · exact .inl h
  · exact .inr ⟨g, o, ha, Nat.lt_of_lt_of_le hg hb.size, fun i v hi => (hb.cell (p := ⟨g, o + i, none⟩) (by show g < B; omega)).trans (h i v hi)⟩
end Go.Proofs.YtijdjljnppkhmaaDoor
/- ExprValues: the walk. -/
namespace Go.Proofs.YtijdjljnppkhmaaDoor
open Go.ChangeShapes Go.WideShapes Go.ChangeAt Go.RowKit Go.WideMaps Go.Maps
set_option linter.unusedVariables false
set_option maxRecDepth 100000

theorem addV_held (a1 a2 : Option Addr) (c1 c2 : Nat) (xs ys : List Tm) (k1 k2 : Int) (n1 n2 : Nat) (w : World) (h1 : n1 = xs.length) (h2 : n2 = ys.length) (hx : Held w a1 c1 xs) (hy : Held w a2 c2 ys) (hl1 : xs.length ≤ 4400000) (hl2 : ys.length ≤ 4400000) :
    Calls Tryd.prog 24 #[linV (.slice a1 n1 c1) k1, linV (.slice a2 n2 c2) k2] w fun e w' => Below w.heap.size w w' ∧ ∃ a c m, e = .returned (linV (.slice a m c) ((k1 + k2) % 4294967296)) ∧ m = (addT xs ys).length ∧ Held w' a c (addT xs ys) := by
  subst h1 h2
  refine (add_any a1 a2 c1 c2 xs ys k1 k2 w hx hy hl1 hl2).mono ?_
  rintro e w' ⟨hb, v, rfl, ho⟩
  obtain ⟨a, c, rfl⟩ := own_slice ho
  exact ⟨hb, a, c, _, rfl, rfl, own_held ho⟩

theorem timesV_held (a1 : Option Addr) (c1 : Nat) (xs : List Tm) (k1 n : Int) (n1 : Nat) (w : World) (h1 : n1 = xs.length) (hx : Held w a1 c1 xs) (hl1 : xs.length ≤ 4400000) :
    Calls Tryd.prog 26 #[linV (.slice a1 n1 c1) k1, .int .u32 n] w fun e w' => Below w.heap.size w w' ∧ ∃ a c m, e = .returned (linV (.slice a m c) (k1 * n % 4294967296)) ∧ m = (timesT xs n).length ∧ Held w' a c (timesT xs n) := by
  subst h1
  refine (times_any a1 c1 xs k1 n hl1 w hx.lies).mono ?_
  rintro e w' ⟨hb, v, rfl, ho⟩
  obtain ⟨a, c, rfl⟩ := own_slice ho
  exact ⟨hb, a, c, _, rfl, rfl, own_held ho⟩

theorem valueV (a : Option Addr) (c : Nat) (ts : List Tm) (k : Int) (m : Nat) (hm0 : m = ts.length) (b q : Nat) (F : List UInt8 → Option Int) (R : Option Int) (hR : valueF F k ts = R) (w : World) (hT : Held w a c ts) (hm : ts.length ≤ 9000000) (hN : ∀ t ∈ ts, t.name.length ≤ 1100000) (hM : MapIs w b q F) :
    Calls Tryd.prog 10 #[linV (.slice a m c) k, .map (some b)] w fun e w' => Below w.heap.size w w' ∧ e = .returned (.tuple #[.int .u32 (R.getD 0), .bool R.isSome]) := by
  subst hm0 hR
  exact value_any a c ts k b q F w hT.lies hm hN hM


/-- a world in which all that was in w is as it was -/
structure BelowV (w : World) where
  wd : World
  h : Below w.heap.size w wd
instance {w : World} : Inhabited (BelowV w) := ⟨⟨w, Below.refl _ _⟩⟩
theorem BelowV.cell {w : World} (p : BelowV w) {a : Addr} {v : Value} (ha : a.block < w.heap.size) (h : w.cell? a = some v) : p.wd.cell? a = some v := by rw [p.h.cell ha]; exact h
theorem wp_region_quiet_v {P : Program} {id : Nat} {Q : Exit → Act → World → Prop} {a : Act} {w : World} {l : List Oper} (hm : P.follows .mixedOrders = true) (hB : Region.lexB .any l.toArray = true)
    (h : wpQuiet P l.toArray (fun w' => ∃ p : BelowV w, w' = p.wd) (fun a' => ∀ w', (∃ p : BelowV w, w' = p.wd) → Q .normal a' w') l a) : (Code.region id l.toArray true).wp P Q a w :=
  wp_region_quiet (C := fun w' => ∃ p : BelowV w, w' = p.wd) hm hB ⟨⟨w.drew, (Below.refl _ _).drew⟩, rfl⟩ (by simpa using h)

/-- what comes in -/
structure B2 (W : World) (g1 g2 : Nat) (a1 a2 a3 : Option Addr) (m1 m2 c1 c2 : Nat) (xs ys : List Tm) (vs : List Int) (k1 k2 : Int) : Prop where
  q1 : Two W g1 25 (.slice a1 m1 c1) (.int .u32 k1)
  q2 : Two W g2 25 (.slice a2 m2 c2) (.int .u32 k2)
  h1 : Held W a1 c1 xs
  h2 : Held W a2 c2 ys
  h3 : IntLies W a3 vs
  P : Pow W
theorem B2.below {W W' : World} {g1 g2 : Nat} {a1 a2 a3 : Option Addr} {m1 m2 c1 c2 : Nat} {xs ys : List Tm} {vs : List Int} {k1 k2 : Int} (h : B2 W g1 g2 a1 a2 a3 m1 m2 c1 c2 xs ys vs k1 k2) (hb : Below W.heap.size W W') : B2 W' g1 g2 a1 a2 a3 m1 m2 c1 c2 xs ys vs k1 k2 :=
  ⟨h.q1.below hb h.q1.lt, h.q2.below hb h.q2.lt, h.h1.below hb (Nat.le_refl _), h.h2.below hb (Nat.le_refl _), h.h3.below hb (Nat.le_refl _), h.P.below hb⟩

theorem chainV {w w1 w2 : World} (a : Below w.heap.size w w1) (b : Below w1.heap.size w1 w2) : Below w.heap.size w w2 := a.trans (b.mono a.size)

theorem map_empty {w : World} {b n : Nat} (h : w.ownsMap Tryd.prog 9 (plainElem (H := Unit) Tryd.prog 23) b n (.map [])) : MapIs w b n (fun _ => none) := ⟨_, h, spec_empty.1, spec_empty.2⟩

theorem short_add {a b : List Tm} {N : Nat} (ha : ∀ t ∈ a, t.name.length ≤ N) (hb : ∀ t ∈ b, t.name.length ≤ N) : ∀ t ∈ addT a b, t.name.length ≤ N := by
  intro t ht
  obtain ⟨x, hx, he⟩ := mem_norm ht
  rw [← he]
  rcases List.mem_append.1 hx with hx | hx
  · exact ha x hx
  · exact hb x hx


theorem valueX (a : Option Addr) (c : Nat) (ts : List Tm) (k : Int) (m : Nat) (hm0 : m = ts.length) (b q : Nat) (F : List UInt8 → Option Int) (w : World) (hT : Held w a c ts) (hm : ts.length ≤ 9000000) (hN : ∀ t ∈ ts, t.name.length ≤ 1100000) (hM : MapIs w b q F) :
    Calls Tryd.prog 10 #[linV (.slice a m c) k, .map (some b)] w fun e w' => Below w.heap.size w w' ∧ ∃ r o, e = .returned (.tuple #[.int .u32 r, .bool o]) :=
  (valueV a c ts k m hm0 b q F _ rfl w hT hm hN hM).mono fun e w' ⟨hb, he⟩ => ⟨hb, _, _, he⟩

theorem valueS (a : Option Addr) (c : Nat) (ts : List Tm) (k : Int) (m : Nat) (hm0 : m = ts.length) (b q : Nat) (F : List UInt8 → Option Int) (G : List UInt8 → Int) (hF : ∀ t ∈ ts, F t.name = some (G t.name)) (hk : 0 ≤ k ∧ k < 4294967296) (A : Int) (hA : A = (k + sumV G ts) % 4294967296) (w : World) (hT : Held w a c ts) (hm : ts.length ≤ 9000000) (hN : ∀ t ∈ ts, t.name.length ≤ 1100000) (hM : MapIs w b q F) :
    Calls Tryd.prog 10 #[linV (.slice a m c) k, .map (some b)] w fun e w' => Below w.heap.size w w' ∧ e = .returned (.tuple #[.int .u32 A, .bool true]) := by
  have := valueV a c ts k m hm0 b q F _ (valueF_sum F G ts hF k hk) w hT hm hN hM
  rw [hA]
  exact this

theorem addV_len {xs ys : List Tm} (h1 : xs.length ≤ 1100000) (h2 : ys.length ≤ 1100000) : (addT xs ys).length ≤ 9000000 := by
  have := norm_len (xs ++ ys)
  rw [List.length_append] at this
  unfold addT
  omega
theorem timesV_len {xs : List Tm} (h1 : xs.length ≤ 1100000) (n : Int) : (timesT xs n).length ≤ 9000000 := by
  have := times_len xs n
  omega
theorem short_times {a : List Tm} {N : Nat} (ha : ∀ t ∈ a, t.name.length ≤ N) (n : Int) : ∀ t ∈ timesT a n, t.name.length ≤ N := by
  intro t ht
  obtain ⟨_, _, x, hx, he⟩ := mem_timesT ht
  rw [← he]
  exact ha x hx
theorem names_add {xs ys : List Tm} {F : List UInt8 → Option Int} {G : List UInt8 → Int} (h : ∀ t ∈ xs ++ ys, F t.name = some (G t.name)) : ∀ t ∈ addT xs ys, F t.name = some (G t.name) := by
  intro t ht
  obtain ⟨x, hx, he⟩ := mem_norm ht
  rw [← he]
  exact h x hx
theorem names_times {xs : List Tm} {F : List UInt8 → Option Int} {G : List UInt8 → Int} (h : ∀ t ∈ xs, F t.name = some (G t.name)) (n : Int) : ∀ t ∈ timesT xs n, F t.name = some (G t.name) := by
  intro t ht
  obtain ⟨_, _, x, hx, he⟩ := mem_timesT ht
  rw [← he]
  exact h x hx
theorem sum_add (G : List UInt8 → Int) (xs ys : List Tm) (k1 k2 A B : Int) (hA : A = (k1 + sumV G xs) % 4294967296) (hB : B = (k2 + sumV G ys) % 4294967296) : (A + B) % 4294967296 = ((k1 + k2) % 4294967296 + sumV G (addT xs ys)) % 4294967296 := by
  have := sumV_add G xs ys
  omega
theorem sum_times (G : List UInt8 → Int) (xs : List Tm) (k1 n A : Int) (hA : A = (k1 + sumV G xs) % 4294967296) : A * n % 4294967296 = (k1 * n % 4294967296 + sumV G (timesT xs n)) % 4294967296 := by
  have h1 := sumV_times G xs n
  have h2 := mod_left A (k1 + sumV G xs) n (by rw [hA]; omega)
  have h3 : (k1 + sumV G xs) * n = k1 * n + sumV G xs * n := Int.add_mul _ _ _
  omega
theorem fill_all (vs : List Int) (ts : List Tm) (M : Nat) (hM : M = ts.length) : ∀ t ∈ ts, fillF vs ts M t.name = some ((fillF vs ts M t.name).getD 0) := by
  intro t ht
  obtain ⟨j, hj⟩ := List.getElem?_of_mem ht
  have hl := (List.getElem?_eq_some_iff.1 hj).1
  have := fillF_some vs ts M j t (by omega) hj
  cases hx : fillF vs ts M t.name with
  | none => rw [hx] at this; cases this
  | some v => rfl
theorem map_fill {w : World} {b n : Nat} {F : List UInt8 → Option Int} (h : MapIs w b n F) : ∃ D : DataW Unit, w.ownsMap Tryd.prog 9 (plainElem Tryd.prog 23) b n D ∧ SpecM D F := by
  obtain ⟨D, h1, h2, h3⟩ := h
  exact ⟨D, h1, h2, h3⟩
/-- the value of a name, in whatever world that has the map -/
theorem look_run {w : World} {b n : Nat} {F : List UInt8 → Option Int} (h : MapIs w b n F) (s : List UInt8) (hs : s.length ≤ 1100000) : (Instr.lookup 54 (.map (some b)) (.string (str s)) false).run Tryd.prog w = .ok (.int .u32 ((F s).getD 0)) w := by
  obtain ⟨D, hown, hD1, hD2⟩ := h
  have hsz : (str s).size ≤ maxLen := by
    have h2 : (str s).size = s.length := by simp [str, ByteArray.size]
    unfold maxLen
    omega
  have hkey : keyOf Tryd.prog 9 (.string (str s)) = some (.string s) := keyOf_string_mk Tryd.underlying9 hsz
  obtain ⟨c, hrun, hat, _⟩ := hown.lookup_int (q := .u32) lawS Tryd.underlying54 Tryd.underlying23 (zero23 w) hkey
  rw [hrun]
  rw [(hD2 s).2] at hat
  injection hat with hat
  injection hat with _ hat
  rw [hat]
/-- a value put under a name -/
theorem put_run {w : World} {b n : Nat} {F : List UInt8 → Option Int} (h : MapIs w b n F) (hn : n ≤ 3000000) (s : List UInt8) (hs : s.length ≤ 1100000) (v : Int) (hv : 0 ≤ v ∧ v < 4294967296) :
    ∃ w', (Instr.mapUpdate 54 (.map (some b)) (.string (str s)) (.int .u32 v)).run Tryd.prog w = .ok () w' ∧ MapIs w' b (n + 1) (putF F s v) ∧ w.grownBy w' (some b) := by
  obtain ⟨D, hown, hD⟩ := map_fill h
  have hsz : (str s).size ≤ maxLen := by
    have h2 : (str s).size = s.length := by simp [str, ByteArray.size]
    unfold maxLen
    omega
  have hkey : keyOf Tryd.prog 9 (.string (str s)) = some (.string s) := keyOf_string_mk Tryd.underlying9 hsz
  have hval : plainElem (H := Unit) Tryd.prog 23 (.int .u32 v) = some (.lit (.int .u32 v), []) := plainElem_int Tryd.underlying23 (WalkArith.wf_u32 ⟨hv.1, by omega⟩)
  obtain ⟨w', hrun, r1, r2⟩ := hown.update lawS Tryd.underlying54 (by unfold maxLen; omega) hkey hval
  have := spec_put hD s v
  exact ⟨w', hrun, ⟨_, r1, this.1, this.2⟩, r2⟩

end Go.Proofs.YtijdjljnppkhmaaDoor
/- ExprValues: the walk where one of the two is not right. -/
namespace Go.Proofs.YtijdjljnppkhmaaDoor
open Go.ChangeShapes Go.WideShapes Go.ChangeAt Go.RowKit Go.WideMaps Go.Maps
set_option linter.unusedVariables false
set_option maxRecDepth 100000

set_option maxHeartbeats 8000000 in
theorem values_no1 (a1 a2 a3 : Option Addr) (c1 c2 c3 : Nat) (xs ys : List Tm) (vs : List Int) (k1 k2 n : Int) (w : World) (h1 : Held w a1 c1 xs) (h2 : Held w a2 c2 ys) (h3 : IntLies w a3 vs) (hP : Pow w)
    (hl1 : xs.length ≤ 1100000) (hl2 : ys.length ≤ 1100000) (hl3 : vs.length ≤ 1100000) (hn1 : ∀ t ∈ xs, t.name.length ≤ 1100000) (hn2 : ∀ t ∈ ys, t.name.length ≤ 1100000) (hk1 : 0 ≤ k1 ∧ k1 < 4294967296) (hk2 : 0 ≤ k2 ∧ k2 < 4294967296) (hvs : ∀ v ∈ vs, 0 ≤ v ∧ v < 4294967296)
    (r2 : Bool) (hr1 : rightF none xs = false) (hr2 : rightF none ys = r2)  :
    Calls Tryd.prog 6 #[linV (.slice a1 xs.length c1) k1, linV (.slice a2 ys.length c2) k2, .int .u32 n, .slice a3 vs.length c3] w fun e w' => Below w.heap.size w w' ∧ e = .returned (.bool true) := by
  obtain ⟨m1, hm1⟩ : ∃ m, m = xs.length := ⟨_, rfl⟩
  obtain ⟨m2, hm2⟩ : ∃ m, m = ys.length := ⟨_, rfl⟩
  obtain ⟨m3, hm3⟩ : ∃ m, m = vs.length := ⟨_, rfl⟩
  have hR1 := Hid.intro (fun w' (h : Held w' a1 c1 xs) => refRight_any a1 c1 xs k1 w' h.lies (by omega) hn1)
  have hR2 := Hid.intro (fun w' (h : Held w' a2 c2 ys) => refRight_any a2 c2 ys k2 w' h.lies (by omega) hn2)
  rw [hr1, ← hm1] at hR1
  rw [hr2, ← hm2] at hR2
  rw [← hm1, ← hm2, ← hm3]
  have hM1 := Hid.intro hm1
  have hM2 := Hid.intro hm2
  have hM3 := Hid.intro hm3
  have hl1' : (m1 : Int) ≤ 1100000 := by omega
  have hl2' : (m2 : Int) ≤ 1100000 := by omega
  have hl3' : (m3 : Int) ≤ 1100000 := by omega
  have hI := Hid.intro (And.intro h1 (And.intro h2 (And.intro h3 hP)))
  have hN1 := Hid.intro hn1
  have hN2 := Hid.intro hn2
  have hK1 := Hid.intro hk1
  have hK2 := Hid.intro hk2
  have hVS := Hid.intro hvs
  clear hm1 hm2 hm3 hr1 hr2 hn1 hn2 h1 h2 h3 hP hk1 hk2 hvs
  go_enter Tryd.func6, Tryd.ntmps6
  go_wp2_with fail
  have q1 := ((two_new w 25 (.slice a1 m1 c1) (.int .u32 k1)).alloc (.cells #[.slice a2 m2 c2, .int .u32 k2] 25))
  have q2 := (two_new (w.alloc (.cells #[.slice a1 m1 c1, .int .u32 k1] 25)) 25 (.slice a2 m2 c2) (.int .u32 k2))
  rw [show (w.alloc (.cells #[.slice a1 m1 c1, .int .u32 k1] 25)).heap.size = w.heap.size + 1 by simp] at q2
  have hb0 : Below w.heap.size w ((w.alloc (.cells #[.slice a1 m1 c1, .int .u32 k1] 25)).alloc (.cells #[.slice a2 m2 c2, .int .u32 k2] 25)) := ((below_alloc w _).alloc (by simp) _)
  obtain ⟨g2, hg2⟩ : ∃ g, g = w.heap.size + 1 := ⟨_, rfl⟩
  rw [← hg2] at q2 ⊢
  have hB := Hid.intro (B2.mk q1 q2 (hI.out.1.below hb0 (Nat.le_refl _)) (hI.out.2.1.below hb0 (Nat.le_refl _)) (hI.out.2.2.1.below hb0 (Nat.le_refl _)) (hI.out.2.2.2.below hb0))
  have hbw := Hid.intro hb0
  obtain ⟨_, x0, x1, _, _⟩ := q1
  clear q2 hb0 hI hg2
  generalize ((w.alloc (.cells #[.slice a1 m1 c1, .int .u32 k1] 25)).alloc (.cells #[.slice a2 m2 c2, .int .u32 k2] 25)) = w0 at *
  go_wp2_with (first
    | (go_at_call 23; (with_reducible refine (hR1.out _ hB.out.h1).mono ?_); rintro e wa ⟨rfl, hba⟩; have hBa := Hid.intro (hB.out.below hba); have hbwa := Hid.intro (chainV hbw.out hba); clear hba; obtain ⟨_, y0, y1, _, _⟩ := hBa.out.q2)
    | (go_at_call 23; (with_reducible refine (hR2.out _ hBa.out.h2).mono ?_); rintro e wx ⟨rfl, hbx⟩; have hBx := Hid.intro (hBa.out.below hbx); have hbwx := Hid.intro (chainV hbwa.out hbx); clear hbx)
    | (go_at_call 14; (with_reducible refine (known_any _ hBa.out.P).mono ?_); rintro e wk ⟨hbk, rfl⟩; have hbwk := Hid.intro (chainV hbwa.out hbk); clear hbk))
  all_goals go_ret
  all_goals exact ⟨hbwk.out, rfl⟩

set_option maxHeartbeats 8000000 in
theorem values_no2 (a1 a2 a3 : Option Addr) (c1 c2 c3 : Nat) (xs ys : List Tm) (vs : List Int) (k1 k2 n : Int) (w : World) (h1 : Held w a1 c1 xs) (h2 : Held w a2 c2 ys) (h3 : IntLies w a3 vs) (hP : Pow w)
    (hl1 : xs.length ≤ 1100000) (hl2 : ys.length ≤ 1100000) (hl3 : vs.length ≤ 1100000) (hn1 : ∀ t ∈ xs, t.name.length ≤ 1100000) (hn2 : ∀ t ∈ ys, t.name.length ≤ 1100000) (hk1 : 0 ≤ k1 ∧ k1 < 4294967296) (hk2 : 0 ≤ k2 ∧ k2 < 4294967296) (hvs : ∀ v ∈ vs, 0 ≤ v ∧ v < 4294967296)
    (hr1 : rightF none xs = true) (hr2 : rightF none ys = false)  :
    Calls Tryd.prog 6 #[linV (.slice a1 xs.length c1) k1, linV (.slice a2 ys.length c2) k2, .int .u32 n, .slice a3 vs.length c3] w fun e w' => Below w.heap.size w w' ∧ e = .returned (.bool true) := by
  obtain ⟨m1, hm1⟩ : ∃ m, m = xs.length := ⟨_, rfl⟩
  obtain ⟨m2, hm2⟩ : ∃ m, m = ys.length := ⟨_, rfl⟩
  obtain ⟨m3, hm3⟩ : ∃ m, m = vs.length := ⟨_, rfl⟩
  have hR1 := Hid.intro (fun w' (h : Held w' a1 c1 xs) => refRight_any a1 c1 xs k1 w' h.lies (by omega) hn1)
  have hR2 := Hid.intro (fun w' (h : Held w' a2 c2 ys) => refRight_any a2 c2 ys k2 w' h.lies (by omega) hn2)
  rw [hr1, ← hm1] at hR1
  rw [hr2, ← hm2] at hR2
  rw [← hm1, ← hm2, ← hm3]
  have hM1 := Hid.intro hm1
  have hM2 := Hid.intro hm2
  have hM3 := Hid.intro hm3
  have hl1' : (m1 : Int) ≤ 1100000 := by omega
  have hl2' : (m2 : Int) ≤ 1100000 := by omega
  have hl3' : (m3 : Int) ≤ 1100000 := by omega
  have hI := Hid.intro (And.intro h1 (And.intro h2 (And.intro h3 hP)))
  have hN1 := Hid.intro hn1
  have hN2 := Hid.intro hn2
  have hK1 := Hid.intro hk1
  have hK2 := Hid.intro hk2
  have hVS := Hid.intro hvs
  clear hm1 hm2 hm3 hr1 hr2 hn1 hn2 h1 h2 h3 hP hk1 hk2 hvs
  go_enter Tryd.func6, Tryd.ntmps6
  go_wp2_with fail
  have q1 := ((two_new w 25 (.slice a1 m1 c1) (.int .u32 k1)).alloc (.cells #[.slice a2 m2 c2, .int .u32 k2] 25))
  have q2 := (two_new (w.alloc (.cells #[.slice a1 m1 c1, .int .u32 k1] 25)) 25 (.slice a2 m2 c2) (.int .u32 k2))
  rw [show (w.alloc (.cells #[.slice a1 m1 c1, .int .u32 k1] 25)).heap.size = w.heap.size + 1 by simp] at q2
  have hb0 : Below w.heap.size w ((w.alloc (.cells #[.slice a1 m1 c1, .int .u32 k1] 25)).alloc (.cells #[.slice a2 m2 c2, .int .u32 k2] 25)) := ((below_alloc w _).alloc (by simp) _)
  obtain ⟨g2, hg2⟩ : ∃ g, g = w.heap.size + 1 := ⟨_, rfl⟩
  rw [← hg2] at q2 ⊢
  have hB := Hid.intro (B2.mk q1 q2 (hI.out.1.below hb0 (Nat.le_refl _)) (hI.out.2.1.below hb0 (Nat.le_refl _)) (hI.out.2.2.1.below hb0 (Nat.le_refl _)) (hI.out.2.2.2.below hb0))
  have hbw := Hid.intro hb0
  obtain ⟨_, x0, x1, _, _⟩ := q1
  clear q2 hb0 hI hg2
  generalize ((w.alloc (.cells #[.slice a1 m1 c1, .int .u32 k1] 25)).alloc (.cells #[.slice a2 m2 c2, .int .u32 k2] 25)) = w0 at *
  go_wp2_with (first
    | (go_at_call 23; (with_reducible refine (hR1.out _ hB.out.h1).mono ?_); rintro e wa ⟨rfl, hba⟩; have hBa := Hid.intro (hB.out.below hba); have hbwa := Hid.intro (chainV hbw.out hba); clear hba; obtain ⟨_, y0, y1, _, _⟩ := hBa.out.q2)
    | (go_at_call 23; (with_reducible refine (hR2.out _ hBa.out.h2).mono ?_); rintro e wx ⟨rfl, hbx⟩; have hBx := Hid.intro (hBa.out.below hbx); have hbwx := Hid.intro (chainV hbwa.out hbx); clear hbx)
    | (go_at_call 14; (with_reducible refine (known_any _ hBx.out.P).mono ?_); rintro e wk ⟨hbk, rfl⟩; have hbwk := Hid.intro (chainV hbwx.out hbk); clear hbk))
  all_goals go_ret
  all_goals exact ⟨hbwk.out, rfl⟩

end Go.Proofs.YtijdjljnppkhmaaDoor
/- ExprValues: the walk where there are no values. -/
namespace Go.Proofs.YtijdjljnppkhmaaDoor
open Go.ChangeShapes Go.WideShapes Go.ChangeAt Go.RowKit Go.WideMaps Go.Maps
set_option linter.unusedVariables false
set_option maxRecDepth 100000

theorem all_met {wm w6 : World} {a6 : Option Addr} {c6 M m1 m2 : Nat} {xs ys : List Tm} (hM : M = m1 + m2) (ho : w6.ownsRow wm.heap.size 56 2 (.slice a6 (0 + m1 + m2) c6) (0 + m1 + m2) (rowT (([] ++ xs) ++ ys))) (hb : Below wm.heap.size wm w6) :
    ∃ a c, Value.slice a6 (m1 + m2) c6 = .slice a M c ∧ Hid (w6.ownsRow wm.heap.size 56 2 (.slice a M c) M (rowT (xs ++ ys))) ∧ Hid (Below wm.heap.size wm w6) := by
  subst hM
  rw [Nat.zero_add] at ho
  exact ⟨a6, c6, rfl, ho, hb⟩

theorem all_len {w : World} {B M m1 m2 : Nat} {a : Option Addr} {c : Nat} {xs ys : List Tm} (hM : M = m1 + m2) (h1 : m1 = xs.length) (h2 : m2 = ys.length) (h : w.ownsRow B 56 2 (.slice a M c) M (rowT (xs ++ ys))) : w.ownsRow B 56 2 (.slice a (xs ++ ys).length c) (xs ++ ys).length (rowT (xs ++ ys)) := by
  rw [List.length_append, ← h1, ← h2, ← hM]
  exact h

set_option maxHeartbeats 8000000 in
theorem values_nil0 (a1 a2 a3 : Option Addr) (c1 c2 c3 : Nat) (xs ys : List Tm) (vs : List Int) (k1 k2 n : Int) (w : World) (h1 : Held w a1 c1 xs) (h2 : Held w a2 c2 ys) (h3 : IntLies w a3 vs) (hP : Pow w)
    (hl1 : xs.length ≤ 1100000) (hl2 : ys.length ≤ 1100000) (hl3 : vs.length ≤ 1100000) (hn1 : ∀ t ∈ xs, t.name.length ≤ 1100000) (hn2 : ∀ t ∈ ys, t.name.length ≤ 1100000) (hk1 : 0 ≤ k1 ∧ k1 < 4294967296) (hk2 : 0 ≤ k2 ∧ k2 < 4294967296) (hvs : ∀ v ∈ vs, 0 ≤ v ∧ v < 4294967296)
    (hr1 : rightF none xs = true) (hr2 : rightF none ys = true) (hV : vs = []) (hX : xs = []) :
    Calls Tryd.prog 6 #[linV (.slice a1 xs.length c1) k1, linV (.slice a2 ys.length c2) k2, .int .u32 n, .slice a3 vs.length c3] w fun e w' => Below w.heap.size w w' ∧ e = .returned (.bool true) := by
  obtain ⟨m1, hm1⟩ : ∃ m, m = xs.length := ⟨_, rfl⟩
  obtain ⟨m2, hm2⟩ : ∃ m, m = ys.length := ⟨_, rfl⟩
  obtain ⟨m3, hm3⟩ : ∃ m, m = vs.length := ⟨_, rfl⟩
  have hR1 := Hid.intro (fun w' (h : Held w' a1 c1 xs) => refRight_any a1 c1 xs k1 w' h.lies (by omega) hn1)
  have hR2 := Hid.intro (fun w' (h : Held w' a2 c2 ys) => refRight_any a2 c2 ys k2 w' h.lies (by omega) hn2)
  rw [hr1, ← hm1] at hR1
  rw [hr2, ← hm2] at hR2
  rw [← hm1, ← hm2, ← hm3]
  have hM1 := Hid.intro hm1
  have hM2 := Hid.intro hm2
  have hM3 := Hid.intro hm3
  have hl1' : (m1 : Int) ≤ 1100000 := by omega
  have hl2' : (m2 : Int) ≤ 1100000 := by omega
  have hl3' : (m3 : Int) ≤ 1100000 := by omega
  have hI := Hid.intro (And.intro h1 (And.intro h2 (And.intro h3 hP)))
  have hN1 := Hid.intro hn1
  have hN2 := Hid.intro hn2
  have hK1 := Hid.intro hk1
  have hK2 := Hid.intro hk2
  have hVS := Hid.intro hvs
  have hV1 := Hid.intro (fun (W : World) (b q : Nat) (h : Held W a1 c1 xs) (hM : MapIs W b q (fun _ => none)) => valueV a1 c1 xs k1 m1 hm1 b q (fun _ => none) (some k1) (by rw [hX]; rfl) W h (by omega) hn1 hM)
  have hV2 := Hid.intro (fun (W : World) (b q : Nat) (h : Held W a2 c2 ys) (hM : MapIs W b q (fun _ => none)) => valueX a2 c2 ys k2 m2 hm2 b q (fun _ => none) W h (by omega) hn2 hM)
  have hAd := Hid.intro (fun W hx hy => addV_held a1 a2 c1 c2 xs ys k1 k2 m1 m2 W hm1 hm2 hx hy (by omega) (by omega))
  have hTi := Hid.intro (fun W hx => timesV_held a1 c1 xs k1 n m1 W hm1 hx (by omega))
  have hV3 := Hid.intro (fun (W : World) (a : Option Addr) (m c b q : Nat) hm h hM => valueX a c (addT xs ys) ((k1 + k2) % 4294967296) m hm b q (fun _ => none) W h (addV_len hl1 hl2) (short_add hn1 hn2) hM)
  have hV4 := Hid.intro (fun (W : World) (a : Option Addr) (m c b q : Nat) hm h hM => valueX a c (timesT xs n) (k1 * n % 4294967296) m hm b q (fun _ => none) W h (timesV_len hl1 n) (short_times hn1 n) hM)
  have hm30 : m3 = 0 := by rw [hm3, hV]; rfl
  subst hm30
  have e10 : ((m1 : Int) == 0) = true := by rw [hm1, hX]; rfl
  simp only [Option.getD_some, Option.isSome_some] at hV1
  have hmk : ∀ wx : World, (Instr.makeMap 54 none).run Tryd.prog wx = .ok (.map (some wx.heap.size)) (wx.alloc (.map #[] 0)) := fun wx => run_makeMap 54 wx
  obtain ⟨M, hMe⟩ : ∃ M, M = m1 + m2 := ⟨_, rfl⟩
  have hMH := Hid.intro hMe
  have hMb : (M : Int) ≤ 2200000 := by omega
  clear hMe
  clear hm1 hm2 hm3 hr1 hr2 hn1 hn2 h1 h2 h3 hP hk1 hk2 hvs
  go_enter Tryd.func6, Tryd.ntmps6
  go_wp2_with fail
  have q1 := ((two_new w 25 (.slice a1 m1 c1) (.int .u32 k1)).alloc (.cells #[.slice a2 m2 c2, .int .u32 k2] 25))
  have q2 := (two_new (w.alloc (.cells #[.slice a1 m1 c1, .int .u32 k1] 25)) 25 (.slice a2 m2 c2) (.int .u32 k2))
  rw [show (w.alloc (.cells #[.slice a1 m1 c1, .int .u32 k1] 25)).heap.size = w.heap.size + 1 by simp] at q2
  have hb0 : Below w.heap.size w ((w.alloc (.cells #[.slice a1 m1 c1, .int .u32 k1] 25)).alloc (.cells #[.slice a2 m2 c2, .int .u32 k2] 25)) := ((below_alloc w _).alloc (by simp) _)
  obtain ⟨g2, hg2⟩ : ∃ g, g = w.heap.size + 1 := ⟨_, rfl⟩
  rw [← hg2] at q2 ⊢
  have hB := Hid.intro (B2.mk q1 q2 (hI.out.1.below hb0 (Nat.le_refl _)) (hI.out.2.1.below hb0 (Nat.le_refl _)) (hI.out.2.2.1.below hb0 (Nat.le_refl _)) (hI.out.2.2.2.below hb0))
  have hbw := Hid.intro hb0
  obtain ⟨_, x0, x1, _, _⟩ := q1
  clear q2 hb0 hI hg2
  generalize ((w.alloc (.cells #[.slice a1 m1 c1, .int .u32 k1] 25)).alloc (.cells #[.slice a2 m2 c2, .int .u32 k2] 25)) = w0 at *
  go_wp2_with (first
    | (go_at_call 23; (with_reducible refine (hR1.out _ hB.out.h1).mono ?_); rintro e wa ⟨rfl, hba⟩; have hBa := Hid.intro (hB.out.below hba); have hbwa := Hid.intro (chainV hbw.out hba); clear hba; obtain ⟨_, y0, y1, _, _⟩ := hBa.out.q2)
    | (go_at_call 23; (with_reducible refine (hR2.out _ hBa.out.h2).mono ?_); rintro e wx ⟨rfl, hbx⟩; have hBx := Hid.intro (hBa.out.below hbx); have hbwx := Hid.intro (chainV hbwa.out hbx); clear hbx))
  clear hB hBa hbw hbwa x0 x1 y0 y1 hR1 hR2 hmk
  have hmade := Hid.intro (map_new wx wx.heap.size rfl)
  have hBm := Hid.intro (hBx.out.below (below_alloc wx (.map #[] 0)))
  have hbm := Hid.intro (below_alloc wx (.map #[] 0))
  have hszm : (wx.alloc (.map #[] 0)).heap.size = wx.heap.size + 1 := by simp
  generalize wx.alloc (.map #[] 0) = wm at *
  obtain ⟨bm, hbmE⟩ : ∃ b, b = wx.heap.size := ⟨_, rfl⟩
  rw [← hbmE] at hmade ⊢
  replace hbmE := Hid.intro hbmE
  replace hszm := Hid.intro hszm
  obtain ⟨_, x0, x1, _, _⟩ := hBm.out.q1
  obtain ⟨_, y0, y1, _, _⟩ := hBm.out.q2
  have hKm : Hid (∀ W, Below wm.heap.size wm W → B2 W w.heap.size g2 a1 a2 a3 m1 m2 c1 c2 xs ys vs k1 k2) := fun W hW => hBm.out.below hW
  go_cut [11] (fun v11 wy => ∃ a c, v11 = .slice a M c ∧ Hid (wy.ownsRow wm.heap.size 56 2 (.slice a M c) M (rowT (xs ++ ys))) ∧ Hid (Below wm.heap.size wm wy))
  case first =>
    go_region_held3 (fun W => W.cell? ⟨w.heap.size, 0, none⟩ = some (.slice a1 m1 c1) ∧ W.cell? ⟨g2, 0, none⟩ = some (.slice a2 m2 c2)) (go_keep)
      ((first
        | (refine step_terms _ rfl (.tmp 33) (.tmp 35) rfl wm.heap.size _ 0 m1 [] xs rfl hM1.out rfl (own_empty wm _ (Nat.le_refl _)) a1 c1 rfl ((hBm.out.h1.below (below_alloc _ _) (Nat.le_refl _)).below ((Below.refl _ _).drew) (Nat.le_refl _)) (by omega) (by simp) ?_; intro a5 c5 w5 ho5 hg5; have hb5 : Hid (Below wm.heap.size wm w5) := ((below_alloc wm (.cells #[] 56)).drew).grown hg5 (by simp) (fun k hk => by cases hk; exact Nat.le_refl _); have hB5 := hKm.out w5 hb5.out; have u0 := hB5.q1.c0; have u1 := hB5.q2.c0; replace ho5 := Hid.intro ho5; clear hg5)
        | (refine step_terms _ rfl (.tmp 36) (.tmp 38) rfl wm.heap.size _ (0 + m1) m2 ([] ++ xs) ys (by have := hM1.out; simp; omega) hM2.out rfl ho5.out a2 c2 rfl (hKm.out _ hb5.out).h2 (by omega) hb5.out.size ?_; intro a6 c6 w6 ho6 hg6; have hb6 : Hid (Below wm.heap.size wm w6) := hb5.out.grown hg6 hb5.out.size (fun k hk => (ho5.out.lt k hk).1); have hB6 := hKm.out w6 hb6.out; have t0 := hB6.q1.c0; have t1 := hB6.q2.c0; replace ho6 := Hid.intro ho6; clear hg6)))
    all_goals (go_wp2_with fail; go_meet)
    all_goals exact all_met hMH.out ho6.out hb6.out
  case rest =>
    obtain ⟨a5, c5, rfl, hAll, hby⟩ := hcut
    clear x0 x1 y0 y1
    have hMap0 : Hid (MapIs wc bm 0 (fun _ => none)) := (map_empty hmade.out).below hby.out (by rw [hbmE.out, hszm.out]; omega)
    have hBc := Hid.intro (hKm.out wc hby.out)
    have hbwc := Hid.intro (chainV hbwx.out ((hbm.out.trans (hby.out.mono hbm.out.size))))
    clear hAll
    go_wp2
    go_loopw [10, 12] (fun v10 vi wr => ∃ i : Nat, i ≤ M ∧ v10 = .int .i64 (i : Int) ∧ vi = .int .i64 (i : Int) ∧ wr = wc) (fun _ vi _ => M - (intOf vi).toNat)
    case atStart => exact ⟨0, Nat.zero_le _, rfl, rfl, rfl⟩
    case round =>
      obtain ⟨i, hi, rfl, rfl, rfl⟩ := hrel
      by_cases hlt : i < M
      · go_wp2
        all_goals first | omega | skip
        go_roundw
        case rel => exact ⟨i + 1, by omega, by go_num, by go_num, by trivial⟩
        case measure => simp [intOf]; omega
      · obtain ⟨_, z0, z1, _, _⟩ := hBc.out.q1
        go_wp2_with (first
          | (go_at_call 10; (with_reducible refine (hV1.out _ _ _ hBc.out.h1 hMap0.out).mono ?_); rintro e w1 ⟨hb1, rfl⟩; have hBd := Hid.intro (hBc.out.below hb1); have hMap1 := Hid.intro (hMap0.out.below hb1 hMap0.out.lt); have hbw1 := Hid.intro (chainV hbwc.out hb1); clear hb1; obtain ⟨_, s0, s1, _, _⟩ := hBd.out.q2)
          | (go_at_call 10; (with_reducible refine (hV2.out _ _ _ hBd.out.h2 hMap1.out).mono ?_); rintro e w2 ⟨hb2, r2, o2, rfl⟩; have hBe := Hid.intro (hBd.out.below hb2); have hMap2 := Hid.intro (hMap1.out.below hb2 hMap1.out.lt); have hbw2 := Hid.intro (chainV hbw1.out hb2); clear hb2; obtain ⟨_, t0, t1, _, _⟩ := hBe.out.q1; obtain ⟨_, t2, t3, _, _⟩ := hBe.out.q2)
          | (go_at_call 24; (with_reducible refine (hAd.out _ hBe.out.h1 hBe.out.h2).mono ?_); rintro e w3 ⟨hb3, a6, c6, m6, rfl, hm6, hh6⟩; have hBf := Hid.intro (hBe.out.below hb3); have hMap3 := Hid.intro (hMap2.out.below hb3 hMap2.out.lt); have hbw3 := Hid.intro (chainV hbw2.out hb3); replace hm6 := Hid.intro hm6; replace hh6 := Hid.intro hh6; clear hb3)
          | (go_at_call 10; (with_reducible refine (hV3.out _ _ _ _ _ _ hm6.out hh6.out hMap3.out).mono ?_); rintro e w4 ⟨hb4, r4, o4, rfl⟩; have hBg := Hid.intro (hBf.out.below hb4); have hMap4 := Hid.intro (hMap3.out.below hb4 hMap3.out.lt); have hbw4 := Hid.intro (chainV hbw3.out hb4); clear hb4; obtain ⟨_, p0, p1, _, _⟩ := hBg.out.q1)
          | (go_at_call 26; (with_reducible refine (hTi.out _ hBg.out.h1).mono ?_); rintro e w5 ⟨hb5, a7, c7, m7, rfl, hm7, hh7⟩; have hBh := Hid.intro (hBg.out.below hb5); have hMap5 := Hid.intro (hMap4.out.below hb5 hMap4.out.lt); have hbw5 := Hid.intro (chainV hbw4.out hb5); replace hm7 := Hid.intro hm7; replace hh7 := Hid.intro hh7; clear hb5)
          | (go_at_call 10; (with_reducible refine (hV4.out _ _ _ _ _ _ hm7.out hh7.out hMap5.out).mono ?_); rintro e w6 ⟨hb6, r6, o6, rfl⟩; have hBi := Hid.intro (hBh.out.below hb6); have hbw6 := Hid.intro (chainV hbw5.out hb6); clear hb6; obtain ⟨_, n0, n1', _, _⟩ := hBi.out.q1)
          | (go_at_call 14; (with_reducible refine (known_any _ hBi.out.P).mono ?_); rintro e wk ⟨hbk, rfl⟩; have hbwk := Hid.intro (chainV hbw6.out hbk); clear hbk))
        all_goals first | omega | skip
        all_goals go_ret
        all_goals exact ⟨hbwk.out, rfl⟩
set_option maxHeartbeats 8000000 in
theorem values_nil1 (a1 a2 a3 : Option Addr) (c1 c2 c3 : Nat) (xs ys : List Tm) (vs : List Int) (k1 k2 n : Int) (w : World) (h1 : Held w a1 c1 xs) (h2 : Held w a2 c2 ys) (h3 : IntLies w a3 vs) (hP : Pow w)
    (hl1 : xs.length ≤ 1100000) (hl2 : ys.length ≤ 1100000) (hl3 : vs.length ≤ 1100000) (hn1 : ∀ t ∈ xs, t.name.length ≤ 1100000) (hn2 : ∀ t ∈ ys, t.name.length ≤ 1100000) (hk1 : 0 ≤ k1 ∧ k1 < 4294967296) (hk2 : 0 ≤ k2 ∧ k2 < 4294967296) (hvs : ∀ v ∈ vs, 0 ≤ v ∧ v < 4294967296)
    (hr1 : rightF none xs = true) (hr2 : rightF none ys = true) (hV : vs = []) (hX : xs ≠ []) :
    Calls Tryd.prog 6 #[linV (.slice a1 xs.length c1) k1, linV (.slice a2 ys.length c2) k2, .int .u32 n, .slice a3 vs.length c3] w fun e w' => Below w.heap.size w w' ∧ e = .returned (.bool true) := by
  obtain ⟨m1, hm1⟩ : ∃ m, m = xs.length := ⟨_, rfl⟩
  obtain ⟨m2, hm2⟩ : ∃ m, m = ys.length := ⟨_, rfl⟩
  obtain ⟨m3, hm3⟩ : ∃ m, m = vs.length := ⟨_, rfl⟩
  have hR1 := Hid.intro (fun w' (h : Held w' a1 c1 xs) => refRight_any a1 c1 xs k1 w' h.lies (by omega) hn1)
  have hR2 := Hid.intro (fun w' (h : Held w' a2 c2 ys) => refRight_any a2 c2 ys k2 w' h.lies (by omega) hn2)
  rw [hr1, ← hm1] at hR1
  rw [hr2, ← hm2] at hR2
  rw [← hm1, ← hm2, ← hm3]
  have hM1 := Hid.intro hm1
  have hM2 := Hid.intro hm2
  have hM3 := Hid.intro hm3
  have hl1' : (m1 : Int) ≤ 1100000 := by omega
  have hl2' : (m2 : Int) ≤ 1100000 := by omega
  have hl3' : (m3 : Int) ≤ 1100000 := by omega
  have hI := Hid.intro (And.intro h1 (And.intro h2 (And.intro h3 hP)))
  have hN1 := Hid.intro hn1
  have hN2 := Hid.intro hn2
  have hK1 := Hid.intro hk1
  have hK2 := Hid.intro hk2
  have hVS := Hid.intro hvs
  have hV1 := Hid.intro (fun (W : World) (b q : Nat) (h : Held W a1 c1 xs) (hM : MapIs W b q (fun _ => none)) => valueV a1 c1 xs k1 m1 hm1 b q (fun _ => none) none (by cases hx : xs with | nil => exact absurd hx hX | cons t r => rfl) W h (by omega) hn1 hM)
  have hV2 := Hid.intro (fun (W : World) (b q : Nat) (h : Held W a2 c2 ys) (hM : MapIs W b q (fun _ => none)) => valueX a2 c2 ys k2 m2 hm2 b q (fun _ => none) W h (by omega) hn2 hM)
  have hAd := Hid.intro (fun W hx hy => addV_held a1 a2 c1 c2 xs ys k1 k2 m1 m2 W hm1 hm2 hx hy (by omega) (by omega))
  have hTi := Hid.intro (fun W hx => timesV_held a1 c1 xs k1 n m1 W hm1 hx (by omega))
  have hV3 := Hid.intro (fun (W : World) (a : Option Addr) (m c b q : Nat) hm h hM => valueX a c (addT xs ys) ((k1 + k2) % 4294967296) m hm b q (fun _ => none) W h (addV_len hl1 hl2) (short_add hn1 hn2) hM)
  have hV4 := Hid.intro (fun (W : World) (a : Option Addr) (m c b q : Nat) hm h hM => valueX a c (timesT xs n) (k1 * n % 4294967296) m hm b q (fun _ => none) W h (timesV_len hl1 n) (short_times hn1 n) hM)
  have hm30 : m3 = 0 := by rw [hm3, hV]; rfl
  subst hm30
  have hm1pos : 0 < m1 := by rw [hm1]; exact List.length_pos_iff.2 hX
  have e10 : ((m1 : Int) == 0) = false := by simp; omega
  simp only [Option.getD_none, Option.isSome_none] at hV1
  have hmk : ∀ wx : World, (Instr.makeMap 54 none).run Tryd.prog wx = .ok (.map (some wx.heap.size)) (wx.alloc (.map #[] 0)) := fun wx => run_makeMap 54 wx
  obtain ⟨M, hMe⟩ : ∃ M, M = m1 + m2 := ⟨_, rfl⟩
  have hMH := Hid.intro hMe
  have hMb : (M : Int) ≤ 2200000 := by omega
  clear hMe
  clear hm1 hm2 hm3 hr1 hr2 hn1 hn2 h1 h2 h3 hP hk1 hk2 hvs
  go_enter Tryd.func6, Tryd.ntmps6
  go_wp2_with fail
  have q1 := ((two_new w 25 (.slice a1 m1 c1) (.int .u32 k1)).alloc (.cells #[.slice a2 m2 c2, .int .u32 k2] 25))
  have q2 := (two_new (w.alloc (.cells #[.slice a1 m1 c1, .int .u32 k1] 25)) 25 (.slice a2 m2 c2) (.int .u32 k2))
  rw [show (w.alloc (.cells #[.slice a1 m1 c1, .int .u32 k1] 25)).heap.size = w.heap.size + 1 by simp] at q2
  have hb0 : Below w.heap.size w ((w.alloc (.cells #[.slice a1 m1 c1, .int .u32 k1] 25)).alloc (.cells #[.slice a2 m2 c2, .int .u32 k2] 25)) := ((below_alloc w _).alloc (by simp) _)
  obtain ⟨g2, hg2⟩ : ∃ g, g = w.heap.size + 1 := ⟨_, rfl⟩
  rw [← hg2] at q2 ⊢
  have hB := Hid.intro (B2.mk q1 q2 (hI.out.1.below hb0 (Nat.le_refl _)) (hI.out.2.1.below hb0 (Nat.le_refl _)) (hI.out.2.2.1.below hb0 (Nat.le_refl _)) (hI.out.2.2.2.below hb0))
  have hbw := Hid.intro hb0
  obtain ⟨_, x0, x1, _, _⟩ := q1
  clear q2 hb0 hI hg2
  generalize ((w.alloc (.cells #[.slice a1 m1 c1, .int .u32 k1] 25)).alloc (.cells #[.slice a2 m2 c2, .int .u32 k2] 25)) = w0 at *
  go_wp2_with (first
    | (go_at_call 23; (with_reducible refine (hR1.out _ hB.out.h1).mono ?_); rintro e wa ⟨rfl, hba⟩; have hBa := Hid.intro (hB.out.below hba); have hbwa := Hid.intro (chainV hbw.out hba); clear hba; obtain ⟨_, y0, y1, _, _⟩ := hBa.out.q2)
    | (go_at_call 23; (with_reducible refine (hR2.out _ hBa.out.h2).mono ?_); rintro e wx ⟨rfl, hbx⟩; have hBx := Hid.intro (hBa.out.below hbx); have hbwx := Hid.intro (chainV hbwa.out hbx); clear hbx))
  clear hB hBa hbw hbwa x0 x1 y0 y1 hR1 hR2 hmk
  have hmade := Hid.intro (map_new wx wx.heap.size rfl)
  have hBm := Hid.intro (hBx.out.below (below_alloc wx (.map #[] 0)))
  have hbm := Hid.intro (below_alloc wx (.map #[] 0))
  have hszm : (wx.alloc (.map #[] 0)).heap.size = wx.heap.size + 1 := by simp
  generalize wx.alloc (.map #[] 0) = wm at *
  obtain ⟨bm, hbmE⟩ : ∃ b, b = wx.heap.size := ⟨_, rfl⟩
  rw [← hbmE] at hmade ⊢
  replace hbmE := Hid.intro hbmE
  replace hszm := Hid.intro hszm
  obtain ⟨_, x0, x1, _, _⟩ := hBm.out.q1
  obtain ⟨_, y0, y1, _, _⟩ := hBm.out.q2
  have hKm : Hid (∀ W, Below wm.heap.size wm W → B2 W w.heap.size g2 a1 a2 a3 m1 m2 c1 c2 xs ys vs k1 k2) := fun W hW => hBm.out.below hW
  go_cut [11] (fun v11 wy => ∃ a c, v11 = .slice a M c ∧ Hid (wy.ownsRow wm.heap.size 56 2 (.slice a M c) M (rowT (xs ++ ys))) ∧ Hid (Below wm.heap.size wm wy))
  case first =>
    go_region_held3 (fun W => W.cell? ⟨w.heap.size, 0, none⟩ = some (.slice a1 m1 c1) ∧ W.cell? ⟨g2, 0, none⟩ = some (.slice a2 m2 c2)) (go_keep)
      ((first
        | (refine step_terms _ rfl (.tmp 33) (.tmp 35) rfl wm.heap.size _ 0 m1 [] xs rfl hM1.out rfl (own_empty wm _ (Nat.le_refl _)) a1 c1 rfl ((hBm.out.h1.below (below_alloc _ _) (Nat.le_refl _)).below ((Below.refl _ _).drew) (Nat.le_refl _)) (by omega) (by simp) ?_; intro a5 c5 w5 ho5 hg5; have hb5 : Hid (Below wm.heap.size wm w5) := ((below_alloc wm (.cells #[] 56)).drew).grown hg5 (by simp) (fun k hk => by cases hk; exact Nat.le_refl _); have hB5 := hKm.out w5 hb5.out; have u0 := hB5.q1.c0; have u1 := hB5.q2.c0; replace ho5 := Hid.intro ho5; clear hg5)
        | (refine step_terms _ rfl (.tmp 36) (.tmp 38) rfl wm.heap.size _ (0 + m1) m2 ([] ++ xs) ys (by have := hM1.out; simp; omega) hM2.out rfl ho5.out a2 c2 rfl (hKm.out _ hb5.out).h2 (by omega) hb5.out.size ?_; intro a6 c6 w6 ho6 hg6; have hb6 : Hid (Below wm.heap.size wm w6) := hb5.out.grown hg6 hb5.out.size (fun k hk => (ho5.out.lt k hk).1); have hB6 := hKm.out w6 hb6.out; have t0 := hB6.q1.c0; have t1 := hB6.q2.c0; replace ho6 := Hid.intro ho6; clear hg6)))
    all_goals (go_wp2_with fail; go_meet)
    all_goals exact all_met hMH.out ho6.out hb6.out
  case rest =>
    obtain ⟨a5, c5, rfl, hAll, hby⟩ := hcut
    clear x0 x1 y0 y1
    have hMap0 : Hid (MapIs wc bm 0 (fun _ => none)) := (map_empty hmade.out).below hby.out (by rw [hbmE.out, hszm.out]; omega)
    have hBc := Hid.intro (hKm.out wc hby.out)
    have hbwc := Hid.intro (chainV hbwx.out ((hbm.out.trans (hby.out.mono hbm.out.size))))
    clear hAll
    go_wp2
    go_loopw [10, 12] (fun v10 vi wr => ∃ i : Nat, i ≤ M ∧ v10 = .int .i64 (i : Int) ∧ vi = .int .i64 (i : Int) ∧ wr = wc) (fun _ vi _ => M - (intOf vi).toNat)
    case atStart => exact ⟨0, Nat.zero_le _, rfl, rfl, rfl⟩
    case round =>
      obtain ⟨i, hi, rfl, rfl, rfl⟩ := hrel
      by_cases hlt : i < M
      · go_wp2
        all_goals first | omega | skip
        go_roundw
        case rel => exact ⟨i + 1, by omega, by go_num, by go_num, by trivial⟩
        case measure => simp [intOf]; omega
      · obtain ⟨_, z0, z1, _, _⟩ := hBc.out.q1
        go_wp2_with (first
          | (go_at_call 10; (with_reducible refine (hV1.out _ _ _ hBc.out.h1 hMap0.out).mono ?_); rintro e w1 ⟨hb1, rfl⟩; have hBd := Hid.intro (hBc.out.below hb1); have hMap1 := Hid.intro (hMap0.out.below hb1 hMap0.out.lt); have hbw1 := Hid.intro (chainV hbwc.out hb1); clear hb1; obtain ⟨_, s0, s1, _, _⟩ := hBd.out.q2)
          | (go_at_call 10; (with_reducible refine (hV2.out _ _ _ hBd.out.h2 hMap1.out).mono ?_); rintro e w2 ⟨hb2, r2, o2, rfl⟩; have hBe := Hid.intro (hBd.out.below hb2); have hMap2 := Hid.intro (hMap1.out.below hb2 hMap1.out.lt); have hbw2 := Hid.intro (chainV hbw1.out hb2); clear hb2; obtain ⟨_, t0, t1, _, _⟩ := hBe.out.q1; obtain ⟨_, t2, t3, _, _⟩ := hBe.out.q2)
          | (go_at_call 24; (with_reducible refine (hAd.out _ hBe.out.h1 hBe.out.h2).mono ?_); rintro e w3 ⟨hb3, a6, c6, m6, rfl, hm6, hh6⟩; have hBf := Hid.intro (hBe.out.below hb3); have hMap3 := Hid.intro (hMap2.out.below hb3 hMap2.out.lt); have hbw3 := Hid.intro (chainV hbw2.out hb3); replace hm6 := Hid.intro hm6; replace hh6 := Hid.intro hh6; clear hb3)
          | (go_at_call 10; (with_reducible refine (hV3.out _ _ _ _ _ _ hm6.out hh6.out hMap3.out).mono ?_); rintro e w4 ⟨hb4, r4, o4, rfl⟩; have hBg := Hid.intro (hBf.out.below hb4); have hMap4 := Hid.intro (hMap3.out.below hb4 hMap3.out.lt); have hbw4 := Hid.intro (chainV hbw3.out hb4); clear hb4; obtain ⟨_, p0, p1, _, _⟩ := hBg.out.q1)
          | (go_at_call 26; (with_reducible refine (hTi.out _ hBg.out.h1).mono ?_); rintro e w5 ⟨hb5, a7, c7, m7, rfl, hm7, hh7⟩; have hBh := Hid.intro (hBg.out.below hb5); have hMap5 := Hid.intro (hMap4.out.below hb5 hMap4.out.lt); have hbw5 := Hid.intro (chainV hbw4.out hb5); replace hm7 := Hid.intro hm7; replace hh7 := Hid.intro hh7; clear hb5)
          | (go_at_call 10; (with_reducible refine (hV4.out _ _ _ _ _ _ hm7.out hh7.out hMap5.out).mono ?_); rintro e w6 ⟨hb6, r6, o6, rfl⟩; have hBi := Hid.intro (hBh.out.below hb6); have hbw6 := Hid.intro (chainV hbw5.out hb6); clear hb6; obtain ⟨_, n0, n1', _, _⟩ := hBi.out.q1)
          | (go_at_call 14; (with_reducible refine (known_any _ hBi.out.P).mono ?_); rintro e wk ⟨hbk, rfl⟩; have hbwk := Hid.intro (chainV hbw6.out hbk); clear hbk))
        all_goals first | omega | skip
        all_goals go_ret
        all_goals exact ⟨hbwk.out, rfl⟩
end Go.Proofs.YtijdjljnppkhmaaDoor
/- ExprValues: the walk where there are values. -/
namespace Go.Proofs.YtijdjljnppkhmaaDoor
open Go.ChangeShapes Go.WideShapes Go.ChangeAt Go.RowKit Go.WideMaps Go.Maps
set_option linter.unusedVariables false
set_option maxRecDepth 100000

set_option maxHeartbeats 8000000 in
theorem values_full (a1 a2 a3 : Option Addr) (c1 c2 c3 : Nat) (xs ys : List Tm) (vs : List Int) (k1 k2 n : Int) (w : World) (h1 : Held w a1 c1 xs) (h2 : Held w a2 c2 ys) (h3 : IntLies w a3 vs) (hP : Pow w)
    (hl1 : xs.length ≤ 1100000) (hl2 : ys.length ≤ 1100000) (hl3 : vs.length ≤ 1100000) (hn1 : ∀ t ∈ xs, t.name.length ≤ 1100000) (hn2 : ∀ t ∈ ys, t.name.length ≤ 1100000) (hk1 : 0 ≤ k1 ∧ k1 < 4294967296) (hk2 : 0 ≤ k2 ∧ k2 < 4294967296) (hvs : ∀ v ∈ vs, 0 ≤ v ∧ v < 4294967296)
    (hr1 : rightF none xs = true) (hr2 : rightF none ys = true) (hV : vs ≠ []) :
    Calls Tryd.prog 6 #[linV (.slice a1 xs.length c1) k1, linV (.slice a2 ys.length c2) k2, .int .u32 n, .slice a3 vs.length c3] w fun e w' => Below w.heap.size w w' ∧ e = .returned (.bool true) := by
  obtain ⟨m1, hm1⟩ : ∃ m, m = xs.length := ⟨_, rfl⟩
  obtain ⟨m2, hm2⟩ : ∃ m, m = ys.length := ⟨_, rfl⟩
  obtain ⟨m3, hm3⟩ : ∃ m, m = vs.length := ⟨_, rfl⟩
  have hR1 := Hid.intro (fun w' (h : Held w' a1 c1 xs) => refRight_any a1 c1 xs k1 w' h.lies (by omega) hn1)
  have hR2 := Hid.intro (fun w' (h : Held w' a2 c2 ys) => refRight_any a2 c2 ys k2 w' h.lies (by omega) hn2)
  rw [hr1, ← hm1] at hR1
  rw [hr2, ← hm2] at hR2
  rw [← hm1, ← hm2, ← hm3]
  have hM1 := Hid.intro hm1
  have hM2 := Hid.intro hm2
  have hM3 := Hid.intro hm3
  have hl1' : (m1 : Int) ≤ 1100000 := by omega
  have hl2' : (m2 : Int) ≤ 1100000 := by omega
  have hl3' : (m3 : Int) ≤ 1100000 := by omega
  have hI := Hid.intro (And.intro h1 (And.intro h2 (And.intro h3 hP)))
  have hN1 := Hid.intro hn1
  have hN2 := Hid.intro hn2
  have hK1 := Hid.intro hk1
  have hK2 := Hid.intro hk2
  have hVS := Hid.intro hvs
  have hm3pos : 0 < m3 := by rw [hm3]; exact List.length_pos_iff.2 hV
  have e30 : ((m3 : Int) == 0) = false := by simp; omega
  have e31 : ¬ ((m3 : Int) = 0) := by omega
  have e32 : (0 : Int) < (m3 : Int) := by omega
  have e33 : ¬ (m3 = 0) := by omega
  have hFa := fill_all vs (xs ++ ys) (m1 + m2) (by rw [List.length_append, hm1, hm2])
  obtain ⟨G, hG⟩ : ∃ G : List UInt8 → Int, ∀ s, G s = (fillF vs (xs ++ ys) (m1 + m2) s).getD 0 := ⟨fun s => (fillF vs (xs ++ ys) (m1 + m2) s).getD 0, fun _ => rfl⟩
  obtain ⟨F, hF⟩ : ∃ F, F = fillF vs (xs ++ ys) (m1 + m2) := ⟨_, rfl⟩
  have hFs : ∀ t ∈ xs ++ ys, F t.name = some (G t.name) := fun t ht => by rw [hF, hG]; exact hFa t ht
  have hFx : ∀ t ∈ xs, F t.name = some (G t.name) := fun t ht => hFs t (List.mem_append.2 (.inl ht))
  have hFy : ∀ t ∈ ys, F t.name = some (G t.name) := fun t ht => hFs t (List.mem_append.2 (.inr ht))
  obtain ⟨A, hA⟩ : ∃ A, A = (k1 + sumV G xs) % 4294967296 := ⟨_, rfl⟩
  obtain ⟨Bv, hBv⟩ : ∃ Bv, Bv = (k2 + sumV G ys) % 4294967296 := ⟨_, rfl⟩
  have hV1 := Hid.intro (fun (W : World) (b q : Nat) (h : Held W a1 c1 xs) (hM : MapIs W b q F) => valueS a1 c1 xs k1 m1 hm1 b q F G hFx hk1 A hA W h (by omega) hn1 hM)
  have hV2 := Hid.intro (fun (W : World) (b q : Nat) (h : Held W a2 c2 ys) (hM : MapIs W b q F) => valueS a2 c2 ys k2 m2 hm2 b q F G hFy hk2 Bv hBv W h (by omega) hn2 hM)
  have hAd := Hid.intro (fun W hx hy => addV_held a1 a2 c1 c2 xs ys k1 k2 m1 m2 W hm1 hm2 hx hy (by omega) (by omega))
  have hTi := Hid.intro (fun W hx => timesV_held a1 c1 xs k1 n m1 W hm1 hx (by omega))
  have hV3 := Hid.intro (fun (W : World) (a : Option Addr) (m c b q : Nat) hm h hM => valueS a c (addT xs ys) ((k1 + k2) % 4294967296) m hm b q F G (names_add hFs) (by omega) ((A + Bv) % 4294967296) (sum_add G xs ys k1 k2 A Bv hA hBv) W h (addV_len hl1 hl2) (short_add hn1 hn2) hM)
  have hV4 := Hid.intro (fun (W : World) (a : Option Addr) (m c b q : Nat) hm h hM => valueS a c (timesT xs n) (k1 * n % 4294967296) m hm b q F G (names_times hFx n) (by omega) (A * n % 4294967296) (sum_times G xs k1 n A hA) W h (timesV_len hl1 n) (short_times hn1 n) hM)
  have hFH := Hid.intro hF
  have hGH := Hid.intro (fun s => hF ▸ hG s)
  have hAH := Hid.intro hA
  have hNa : Hid (∀ t ∈ xs ++ ys, t.name.length ≤ 1100000) := fun t ht => by
    rcases List.mem_append.1 ht with h | h
    · exact hn1 t h
    · exact hn2 t h
  clear hFa hG hF hFs hFx hFy hA hBv
  have hmk : ∀ wx : World, (Instr.makeMap 54 none).run Tryd.prog wx = .ok (.map (some wx.heap.size)) (wx.alloc (.map #[] 0)) := fun wx => run_makeMap 54 wx
  obtain ⟨M, hMe⟩ : ∃ M, M = m1 + m2 := ⟨_, rfl⟩
  have hMH := Hid.intro hMe
  have hMb : (M : Int) ≤ 2200000 := by omega
  clear hMe
  clear hm1 hm2 hm3 hr1 hr2 hn1 hn2 h1 h2 h3 hP hk1 hk2 hvs
  go_enter Tryd.func6, Tryd.ntmps6
  go_wp2_with fail
  have q1 := ((two_new w 25 (.slice a1 m1 c1) (.int .u32 k1)).alloc (.cells #[.slice a2 m2 c2, .int .u32 k2] 25))
  have q2 := (two_new (w.alloc (.cells #[.slice a1 m1 c1, .int .u32 k1] 25)) 25 (.slice a2 m2 c2) (.int .u32 k2))
  rw [show (w.alloc (.cells #[.slice a1 m1 c1, .int .u32 k1] 25)).heap.size = w.heap.size + 1 by simp] at q2
  have hb0 : Below w.heap.size w ((w.alloc (.cells #[.slice a1 m1 c1, .int .u32 k1] 25)).alloc (.cells #[.slice a2 m2 c2, .int .u32 k2] 25)) := ((below_alloc w _).alloc (by simp) _)
  obtain ⟨g2, hg2⟩ : ∃ g, g = w.heap.size + 1 := ⟨_, rfl⟩
  rw [← hg2] at q2 ⊢
  have hB := Hid.intro (B2.mk q1 q2 (hI.out.1.below hb0 (Nat.le_refl _)) (hI.out.2.1.below hb0 (Nat.le_refl _)) (hI.out.2.2.1.below hb0 (Nat.le_refl _)) (hI.out.2.2.2.below hb0))
  have hbw := Hid.intro hb0
  obtain ⟨_, x0, x1, _, _⟩ := q1
  clear q2 hb0 hI hg2
  generalize ((w.alloc (.cells #[.slice a1 m1 c1, .int .u32 k1] 25)).alloc (.cells #[.slice a2 m2 c2, .int .u32 k2] 25)) = w0 at *
  go_wp2_with (first
    | (go_at_call 23; (with_reducible refine (hR1.out _ hB.out.h1).mono ?_); rintro e wa ⟨rfl, hba⟩; have hBa := Hid.intro (hB.out.below hba); have hbwa := Hid.intro (chainV hbw.out hba); clear hba; obtain ⟨_, y0, y1, _, _⟩ := hBa.out.q2)
    | (go_at_call 23; (with_reducible refine (hR2.out _ hBa.out.h2).mono ?_); rintro e wx ⟨rfl, hbx⟩; have hBx := Hid.intro (hBa.out.below hbx); have hbwx := Hid.intro (chainV hbwa.out hbx); clear hbx))
  clear hB hBa hbw hbwa x0 x1 y0 y1 hR1 hR2 hmk
  have hmade := Hid.intro (map_new wx wx.heap.size rfl)
  have hBm := Hid.intro (hBx.out.below (below_alloc wx (.map #[] 0)))
  have hbm := Hid.intro (below_alloc wx (.map #[] 0))
  have hszm : (wx.alloc (.map #[] 0)).heap.size = wx.heap.size + 1 := by simp
  generalize wx.alloc (.map #[] 0) = wm at *
  obtain ⟨bm, hbmE⟩ : ∃ b, b = wx.heap.size := ⟨_, rfl⟩
  rw [← hbmE] at hmade ⊢
  replace hbmE := Hid.intro hbmE
  replace hszm := Hid.intro hszm
  obtain ⟨_, x0, x1, _, _⟩ := hBm.out.q1
  obtain ⟨_, y0, y1, _, _⟩ := hBm.out.q2
  have hKm : Hid (∀ W, Below wm.heap.size wm W → B2 W w.heap.size g2 a1 a2 a3 m1 m2 c1 c2 xs ys vs k1 k2) := fun W hW => hBm.out.below hW
  go_cut [11] (fun v11 wy => ∃ a c, v11 = .slice a M c ∧ Hid (wy.ownsRow wm.heap.size 56 2 (.slice a M c) M (rowT (xs ++ ys))) ∧ Hid (Below wm.heap.size wm wy))
  case first =>
    go_region_held3 (fun W => W.cell? ⟨w.heap.size, 0, none⟩ = some (.slice a1 m1 c1) ∧ W.cell? ⟨g2, 0, none⟩ = some (.slice a2 m2 c2)) (go_keep)
      ((first
        | (refine step_terms _ rfl (.tmp 33) (.tmp 35) rfl wm.heap.size _ 0 m1 [] xs rfl hM1.out rfl (own_empty wm _ (Nat.le_refl _)) a1 c1 rfl ((hBm.out.h1.below (below_alloc _ _) (Nat.le_refl _)).below ((Below.refl _ _).drew) (Nat.le_refl _)) (by omega) (by simp) ?_; intro a5 c5 w5 ho5 hg5; have hb5 : Hid (Below wm.heap.size wm w5) := ((below_alloc wm (.cells #[] 56)).drew).grown hg5 (by simp) (fun k hk => by cases hk; exact Nat.le_refl _); have hB5 := hKm.out w5 hb5.out; have u0 := hB5.q1.c0; have u1 := hB5.q2.c0; replace ho5 := Hid.intro ho5; clear hg5)
        | (refine step_terms _ rfl (.tmp 36) (.tmp 38) rfl wm.heap.size _ (0 + m1) m2 ([] ++ xs) ys (by have := hM1.out; simp; omega) hM2.out rfl ho5.out a2 c2 rfl (hKm.out _ hb5.out).h2 (by omega) hb5.out.size ?_; intro a6 c6 w6 ho6 hg6; have hb6 : Hid (Below wm.heap.size wm w6) := hb5.out.grown hg6 hb5.out.size (fun k hk => (ho5.out.lt k hk).1); have hB6 := hKm.out w6 hb6.out; have t0 := hB6.q1.c0; have t1 := hB6.q2.c0; replace ho6 := Hid.intro ho6; clear hg6)))
    all_goals (go_wp2_with fail; go_meet)
    all_goals exact all_met hMH.out ho6.out hb6.out
  case rest =>
    obtain ⟨a5, c5, rfl, hAll, hby⟩ := hcut
    clear x0 x1 y0 y1
    have hMap0 : Hid (MapIs wc bm 0 (fillF vs (xs ++ ys) 0)) := (map_empty hmade.out).below hby.out (by rw [hbmE.out, hszm.out]; omega)
    have hbwc := Hid.intro (hbm.out.trans (hby.out.mono hbm.out.size))
    have hTl : Hid (TmLies wc a5 (xs ++ ys)) := own_tmLies (all_len hMH.out hM1.out hM2.out hAll.out)
    have hgl : Hid (∀ g o, a5 = some ⟨g, o, none⟩ → bm < g) := fun g o hg => by
      subst hg
      have h1 := hszm.out
      have h2 := hbmE.out
      rcases hAll.out.2 with ⟨hx, _⟩ | ⟨g', cap, cur, hv, hbg, _⟩
      · cases hx
      · cases hv
        omega
    clear hAll
    go_wp2
    go_loopw [10, 12] (fun v10 vi wr => ∃ i : Nat, i ≤ M ∧ v10 = .int .i64 (i : Int) ∧ vi = .int .i64 (i : Int) ∧ Hid (MapIs wr bm i (fillF vs (xs ++ ys) i)) ∧ Hid (TmLies wr a5 (xs ++ ys)) ∧ Hid (Below wx.heap.size wx wr)) (fun _ vi _ => M - (intOf vi).toNat)
    case atStart => exact ⟨0, Nat.zero_le _, rfl, rfl, hMap0, hTl, hbwc⟩
    case round =>
      obtain ⟨i, hi, rfl, rfl, hMi, hTi2, hBi⟩ := hrel
      have hBr := Hid.intro (hBx.out.below hBi.out)
      by_cases hlt : i < M
      · obtain ⟨t, ht⟩ : ∃ t, (xs ++ ys)[i]? = some t := ⟨_, List.getElem?_eq_getElem (by rw [List.length_append]; have := hMH.out; have := hM1.out; have := hM2.out; omega)⟩
        obtain ⟨r, hrE⟩ : ∃ r, r = i % m3 := ⟨_, rfl⟩
        have hrl : r < m3 := by rw [hrE]; exact Nat.mod_lt _ hm3pos
        obtain ⟨v, hv⟩ : ∃ v, vs[r]? = some v := ⟨_, List.getElem?_eq_getElem (by have := hM3.out; omega)⟩
        have htm : Int.tmod (i : Int) (m3 : Int) = (r : Int) := by rw [hrE]; exact (Int.ofNat_tmod i m3).symm
        obtain ⟨ga, oa, ha5, hgaS, hTa⟩ : ∃ ga oa, a5 = some ⟨ga, oa, none⟩ ∧ ga < wr.heap.size ∧ ∀ j x, (xs ++ ys)[j]? = some x → TmAt wr ga (oa + j * 2) x := by
          rcases hTi2.out with h | ⟨ga, oa, h1, h2, h3⟩
          · rw [h] at ht; simp at ht
          · exact ⟨ga, oa, h1, h2, h3⟩
        obtain ⟨gv, ov, ha3, hgvS, hTv⟩ : ∃ gv ov, a3 = some ⟨gv, ov, none⟩ ∧ gv < wx.heap.size ∧ ∀ (j : Nat) (x : Int), vs[j]? = some x → wx.cell? ⟨gv, ov + j, none⟩ = some (.int .u32 x) := by
          rcases hBx.out.h3 with h | h
          · exact absurd h (by intro e; rw [e] at hv; simp at hv)
          · exact h
        subst ha3 ha5
        have p0 := (hTa i t ht).1
        have p1 : wr.cell? ⟨gv, ov + r, none⟩ = some (.int .u32 v) := (hBi.out.cell (p := ⟨gv, ov + r, none⟩) hgvS).trans (hTv r v hv)
        obtain ⟨w6, hrun6, hMap6, hg6⟩ := put_run (w := wr.drew) (hMi.out.below ((Below.refl _ _).drew) hMi.out.lt) (by omega) t.name (hNa.out t (List.mem_of_getElem? ht)) v (hVS.out v (List.mem_of_getElem? hv))
        have hbmga : bm < ga := hgl.out ga oa rfl
        have hbmE' := hbmE.out
        have s0 : w6.cell? ⟨ga, oa + i * 2, none⟩ = some (.string (str t.name)) := (hg6.cell_far ⟨ga, oa + i * 2, none⟩ hgaS (by simp; omega)).trans p0
        have s1 : w6.cell? ⟨gv, ov + r, none⟩ = some (.int .u32 v) := (hg6.cell_far ⟨gv, ov + r, none⟩ (Nat.lt_of_lt_of_le hgvS hBi.out.size) (by simp; omega)).trans p1
        have hMap6' : Hid (MapIs w6 bm (i + 1) (fillF vs (xs ++ ys) (i + 1))) := by
          show MapIs _ _ _ _
          rw [fillF_step ht, show vs.getD (i % vs.length) 0 = v by rw [← hM3.out, ← hrE, List.getD_eq_getElem?_getD, hv]; rfl]
          exact hMap6
        have hT6 : Hid (TmLies w6 (some ⟨ga, oa, none⟩) (xs ++ ys)) := .inr ⟨ga, oa, rfl, Nat.lt_of_lt_of_le hgaS hg6.size, fun j x hx => by
          obtain ⟨y0, y1⟩ := hTa j x hx
          exact ⟨(hg6.cell_far ⟨ga, oa + j * 2, none⟩ hgaS (by simp; omega)).trans y0, (hg6.cell_far ⟨ga, oa + j * 2 + 1, none⟩ hgaS (by simp; omega)).trans y1⟩⟩
        have hB6 : Hid (Below wx.heap.size wx w6) := (hBi.out.drew).grown hg6 hBi.out.drew.size (fun k hk => by cases hk; omega)
        have htw : IntKind.i64.wrap (r : Int) = (r : Int) := by rw [IntKind.wrap_i64]; omega
        have htm2 : (i : Int) % (m3 : Int) = (r : Int) := by rw [← htm, Int.tmod_eq_emod_of_nonneg (by omega)]
        have i1 : (0 : Int) ≤ (i : Int) := by omega
        have i2 : (i : Int) < (M : Int) := by omega
        have i3 : (0 : Int) ≤ (r : Int) := by omega
        have i4 : (r : Int) < (m3 : Int) := by omega
        clear hTa hTv hMap6 hg6 ht hv hrE hbmga hbmE'
        go_wp2
        go_region_held3 (fun W => W.cell? ⟨ga, oa + i * 2, none⟩ = some (.string (str t.name)) ∧ W.cell? ⟨gv, ov + r, none⟩ = some (.int .u32 v)) (go_keep) (fail)
        all_goals go_wp2_with fail
        all_goals first | omega | skip
        all_goals go_roundw
        case rel => exact ⟨i + 1, by omega, by go_num, by go_num, hMap6', hT6, hB6⟩
        case measure => simp [intOf]; omega
      · obtain rfl : M = i := by omega
        have hMapF : Hid (MapIs wr bm M F) := by show MapIs _ _ _ _; rw [hFH.out, ← hMH.out]; exact hMi.out
        have hbwr := Hid.intro (chainV hbwx.out hBi.out)
        obtain ⟨_, z0, z1, _, _⟩ := hBr.out.q1
        clear hMi hTi2 hTl hMap0
        go_wp2_with (first
          | (go_at_call 10; (with_reducible refine (hV1.out _ _ _ hBr.out.h1 hMapF.out).mono ?_); rintro e w1 ⟨hb1, rfl⟩; have hBd := Hid.intro (hBr.out.below hb1); have hMap1 := Hid.intro (hMapF.out.below hb1 hMapF.out.lt); have hbw1 := Hid.intro (chainV hbwr.out hb1); clear hb1; obtain ⟨_, s0, s1, _, _⟩ := hBd.out.q2)
          | (go_at_call 10; (with_reducible refine (hV2.out _ _ _ hBd.out.h2 hMap1.out).mono ?_); rintro e w2 ⟨hb2, rfl⟩; have hBe := Hid.intro (hBd.out.below hb2); have hMap2 := Hid.intro (hMap1.out.below hb2 hMap1.out.lt); have hbw2 := Hid.intro (chainV hbw1.out hb2); clear hb2; obtain ⟨_, t0, t1, _, _⟩ := hBe.out.q1; obtain ⟨_, t2, t3, _, _⟩ := hBe.out.q2)
          | (go_at_call 24; (with_reducible refine (hAd.out _ hBe.out.h1 hBe.out.h2).mono ?_); rintro e w3 ⟨hb3, a6, c6, m6, rfl, hm6, hh6⟩; have hBf := Hid.intro (hBe.out.below hb3); have hMap3 := Hid.intro (hMap2.out.below hb3 hMap2.out.lt); have hbw3 := Hid.intro (chainV hbw2.out hb3); replace hm6 := Hid.intro hm6; replace hh6 := Hid.intro hh6; clear hb3)
          | (go_at_call 10; (with_reducible refine (hV3.out _ _ _ _ _ _ hm6.out hh6.out hMap3.out).mono ?_); rintro e w4 ⟨hb4, rfl⟩; have hBg := Hid.intro (hBf.out.below hb4); have hMap4 := Hid.intro (hMap3.out.below hb4 hMap3.out.lt); have hbw4 := Hid.intro (chainV hbw3.out hb4); clear hb4; obtain ⟨_, p0, p1, _, _⟩ := hBg.out.q1)
          | (go_at_call 26; (with_reducible refine (hTi.out _ hBg.out.h1).mono ?_); rintro e w5 ⟨hb5, a7, c7, m7, rfl, hm7, hh7⟩; have hBh := Hid.intro (hBg.out.below hb5); have hMap5 := Hid.intro (hMap4.out.below hb5 hMap4.out.lt); have hbw5 := Hid.intro (chainV hbw4.out hb5); replace hm7 := Hid.intro hm7; replace hh7 := Hid.intro hh7; clear hb5)
          | (go_at_call 10; (with_reducible refine (hV4.out _ _ _ _ _ _ hm7.out hh7.out hMap5.out).mono ?_); rintro e w6 ⟨hb6, rfl⟩; have hBi6 := Hid.intro (hBh.out.below hb6); have hMap6 := Hid.intro (hMap5.out.below hb6 hMap5.out.lt); have hbw6 := Hid.intro (chainV hbw5.out hb6); clear hb6; obtain ⟨_, n0, n1', _, _⟩ := hBi6.out.q1))
        all_goals first | omega | skip
        clear z0 z1 s0 s1 t0 t1 t2 t3 p0 p1 hV1 hV2 hV3 hV4 hAd hTi
        go_loopw [21, 22] (fun v21 vi wz => ∃ (j : Nat) (W : Int), j ≤ m1 ∧ v21 = .int .u32 W ∧ vi = .int .i64 (j : Int) ∧ Hid (W = (k1 + sumV G (xs.take j)) % 4294967296) ∧ Hid (Below w6.heap.size w6 wz)) (fun _ vi _ => m1 - (intOf vi).toNat)
        case atStart => exact ⟨0, k1, Nat.zero_le _, rfl, rfl, (show k1 = (k1 + sumV G (xs.take 0)) % 4294967296 by rw [List.take_zero]; show k1 = (k1 + 0) % 4294967296; have := hK1.out; omega), Below.refl _ _⟩
        case round =>
          obtain ⟨j, W, hj, rfl, rfl, hWj, hBz⟩ := hrel
          have hBq := Hid.intro (hBi6.out.below hBz.out)
          obtain ⟨_, z0, z1, _, _⟩ := hBq.out.q1
          by_cases hlj : j < m1
          · obtain ⟨t, ht⟩ : ∃ t, xs[j]? = some t := ⟨_, List.getElem?_eq_getElem (by have := hM1.out; omega)⟩
            obtain ⟨gx, ox, hax, hgxS, hTx⟩ : ∃ gx ox, a1 = some ⟨gx, ox, none⟩ ∧ gx < wr.heap.size ∧ TmAt wr gx (ox + j * 2) t := by
              rcases hBq.out.h1.lies with h | ⟨gx, ox, e1, e2, e3⟩
              · rw [h] at ht; simp at ht
              · exact ⟨gx, ox, e1, e2, e3 j t ht⟩
            subst hax
            obtain ⟨p0, p1⟩ := hTx
            have hlk : ∀ p : BelowV wr, (Instr.lookup 54 (.map (some bm)) (.string (str t.name)) false).run Tryd.prog p.wd = .ok (.int .u32 (G t.name)) p.wd := fun p => by
              have := look_run ((hMap6.out.below hBz.out hMap6.out.lt).below p.h (hMap6.out.below hBz.out hMap6.out.lt).lt) t.name (hN1.out t (List.mem_of_getElem? ht))
              rw [this, hGH.out]
            have u0 : ∀ p : BelowV wr, p.wd.cell? ⟨w.heap.size, 0, none⟩ = some (.slice (some ⟨gx, ox, none⟩) m1 c1) := fun p => p.cell hBq.out.q1.lt z0
            have u1 : ∀ p : BelowV wr, p.wd.cell? ⟨gx, ox + j * 2, none⟩ = some (.string (str t.name)) := fun p => p.cell hgxS p0
            have u2 : ∀ p : BelowV wr, p.wd.cell? ⟨gx, ox + j * 2 + 1, none⟩ = some (.int .u32 t.coef) := fun p => p.cell hgxS p1
            have hWn : Hid ((W + t.coef * G t.name % 4294967296) % 4294967296 = (k1 + sumV G (xs.take (j + 1))) % 4294967296) := by
              show _ = _
              obtain ⟨hjl, hje⟩ := List.getElem?_eq_some_iff.1 ht
              rw [hWj.out, List.take_succ_eq_append_getElem hjl, hje, sumV_append]
              simp only [sumV]
              omega
            have i1 : (0 : Int) ≤ (j : Int) := by omega
            have i2 : (j : Int) < (m1 : Int) := by omega
            clear ht
            go_wp2
            refine wp_region_quiet_v (by kernel_rfl) (by kernel_rfl) ?_
            repeat (first | (with_reducible refine wpQuiet_skip (by with_unfolding_all rfl) ?_; simp only [Act.put, List.setIfInBounds_toArray, List.set_cons_zero, List.set_cons_succ]) | (with_reducible refine wpQuiet_step (fun K hK => ?_); go_simp; (with_reducible refine hK _ ?_; clear hK K)))
            with_reducible refine wpQuiet_nil ?_
            intro _ hw'
            obtain ⟨pq, hw''⟩ := hw'
            subst hw''
            clear hlk u0 u1 u2
            go_wp2_with fail
            all_goals first | omega | skip
            go_roundw
            case rel => exact ⟨j + 1, _, by omega, rfl, by go_num, hWn, chainV hBz.out pq.h⟩
            case measure => simp [intOf]; omega
          · obtain rfl : m1 = j := by omega
            obtain rfl : A = W := by
              rw [hWj.out, hAH.out, hM1.out, List.take_length]
            go_wp2_with (go_at_call 14; (with_reducible refine (known_any _ hBq.out.P).mono ?_); rintro e wk ⟨hbk, rfl⟩; have hbwk := Hid.intro (chainV (chainV hbw6.out hBz.out) hbk); clear hbk)
            all_goals first | omega | skip
            all_goals go_ret
            all_goals exact ⟨hbwk.out, rfl⟩
end Go.Proofs.YtijdjljnppkhmaaDoor
namespace Go.Proofs.YtijdjljnppkhmaaDoor
open Go.ChangeShapes Go.WideShapes Go.ChangeAt Go.RowKit
set_option linter.unusedVariables false
set_option maxRecDepth 100000

theorem values_any (a1 a2 a3 : Option Addr) (c1 c2 c3 : Nat) (xs ys : List Tm) (vs : List Int) (k1 k2 n : Int) (w : World) (h1 : Held w a1 c1 xs) (h2 : Held w a2 c2 ys) (h3 : IntLies w a3 vs) (hP : Pow w)
    (hl1 : xs.length ≤ 1100000) (hl2 : ys.length ≤ 1100000) (hl3 : vs.length ≤ 1100000) (hn1 : ∀ t ∈ xs, t.name.length ≤ 1100000) (hn2 : ∀ t ∈ ys, t.name.length ≤ 1100000) (hk1 : 0 ≤ k1 ∧ k1 < 4294967296) (hk2 : 0 ≤ k2 ∧ k2 < 4294967296) (hvs : ∀ v ∈ vs, 0 ≤ v ∧ v < 4294967296) :
    Calls Tryd.prog 6 #[linV (.slice a1 xs.length c1) k1, linV (.slice a2 ys.length c2) k2, .int .u32 n, .slice a3 vs.length c3] w fun e w' => Below w.heap.size w w' ∧ e = .returned (.bool true) := by
  cases e1 : rightF none xs with
  | false => exact values_no1 a1 a2 a3 c1 c2 c3 xs ys vs k1 k2 n w h1 h2 h3 hP hl1 hl2 hl3 hn1 hn2 hk1 hk2 hvs _ e1 rfl
  | true =>
    cases e2 : rightF none ys with
    | false => exact values_no2 a1 a2 a3 c1 c2 c3 xs ys vs k1 k2 n w h1 h2 h3 hP hl1 hl2 hl3 hn1 hn2 hk1 hk2 hvs e1 e2
    | true =>
      by_cases hV : vs = []
      · by_cases hX : xs = []
        · exact values_nil0 a1 a2 a3 c1 c2 c3 xs ys vs k1 k2 n w h1 h2 h3 hP hl1 hl2 hl3 hn1 hn2 hk1 hk2 hvs e1 e2 hV hX
        · exact values_nil1 a1 a2 a3 c1 c2 c3 xs ys vs k1 k2 n w h1 h2 h3 hP hl1 hl2 hl3 hn1 hn2 hk1 hk2 hvs e1 e2 hV hX
      · exact values_full a1 a2 a3 c1 c2 c3 xs ys vs k1 k2 n w h1 h2 h3 hP hl1 hl2 hl3 hn1 hn2 hk1 hk2 hvs e1 e2 hV

/-- a list of numbers that came in -/
theorem open_nums {H : Type} {enc : TypeId × Value → H} {W : World} {base : Nat} {v : Value} {d : DataW H} {p : List MemPlace}
    (hval : Value.okWide Tryd.prog W .any base 53 v) (h : DataW.Trod enc Tryd.prog W 0 (fun _ => true) true 53 v d p) :
    ∃ a c, ∃ vs : List Int, v = .slice a vs.length c ∧ IntLies W a vs ∧ (∀ x ∈ vs, 0 ≤ x ∧ x < 4294967296) ∧ vs.length ≤ Rows.uptoBulk d := by
  obtain ⟨a0, len, cap, rfl⟩ := okWide_slice Tryd.underlying53 hval
  obtain ⟨fuel, hf⟩ := h
  rcases open_ints Tryd.underlying53 Tryd.underlying23 cells23 hf with ⟨hc, hx⟩ | ⟨a, len', cap', zs, hc, hb, hlc, hcm, hz, hx, hcell, hw⟩
  · simp only [Value.cells, List.cons.injEq, and_true, Value.slice.injEq] at hc
    obtain ⟨rfl, rfl, rfl⟩ := hc
    exact ⟨none, 0, [], rfl, .inl rfl, fun x hx => (by cases hx), Nat.zero_le _⟩
  · simp only [Value.cells, List.cons.injEq, and_true, Value.slice.injEq] at hc
    obtain ⟨rfl, rfl, rfl⟩ := hc
    simp only [if_true] at hz
    have hlen : (zs.take len).length = len := by rw [List.length_take]; omega
    refine ⟨some a, cap, zs.take len, by rw [hlen], ?_, fun x hx => ?_, ?_⟩
    · by_cases h0 : len = 0
      · subst h0
        exact .inl (List.take_zero)
      · obtain ⟨b, off, spot⟩ := a
        have hc0 := hcell 0 (by omega)
        have hspot : spot = none := by simpa [Addr.add] using World.cell?_spot hc0
        subst hspot
        have hadd : ∀ j, (⟨b, off, none⟩ : Addr).add j = ⟨b, off + j, none⟩ := fun j => by unfold Addr.add; split <;> simp_all
        refine .inr ⟨b, off, rfl, ?_, fun i t ht => ?_⟩
        · apply Decidable.byContradiction
          intro hn
          unfold World.cell? at hc0
          simp [Array.getElem?_eq_none (show W.heap.size ≤ b by omega), hadd] at hc0
        · have hi : i < len := by have := (List.getElem?_eq_some_iff.1 ht).1; omega
          have hci := hcell i (by omega)
          rw [hadd] at hci
          rw [hci]
          rw [List.getElem?_take_of_lt hi] at ht
          rw [List.getD, ht]
          rfl
    · have := bounds_u32 (hw x (List.mem_of_mem_take hx))
      exact ⟨this.1, by omega⟩
    · simp only [Prod.mk.injEq] at hx
      rw [hx.1, hlen]
      have := bulk_all (lits (H := H) .u32 (zs.take len))
      simp only [lits, List.length_map] at this
      rw [hlen] at this
      simp only [Rows.uptoBulk, lits]
      omega
end Go.Proofs.YtijdjljnppkhmaaDoor
namespace Go.Proofs.YtijdjljnppkhmaaDoor.exprValues
open Go.ChangeShapes Go.WideShapes Go.ChangeAt Go.RowKit
set_option linter.unusedVariables false
set_option maxRecDepth 100000

theorem own : ownKnob Tryd.prog.godebug = none := by kernel_rfl
theorem laidOut : laidOutB Tryd.prog = true := by kernel_rfl

theorem contract (H : Type) (enc : TypeId × Value → H) (W : World) (base : Nat) (args : Array Value) (ds gs : List (DataW H)) (before : List MemPlace)
    (hval : ∀ (j : Nat) t v, Tryd.f6.params[j]? = some t → args[j]? = some v → Value.okWide Tryd.prog W .any base t v)
    (hW : DataW.Whole enc Tryd.prog Tryd.f6.params.toList Rows.exprValuesSpec.vars false W args.toList ds gs before) (hL : laidMetH Tryd.prog Rows.exprValuesUptoRow.laid W) (hk : Rows.uptoSmall H (ds ++ gs) = true) :
    Calls Tryd.prog 6 args W fun e W' => ∃ v, e = .returned v ∧ Rows.exprValuesSpec.post enc Tryd.prog Tryd.f6 false true false false W args v W' := by
  have hW' := hW
  obtain ⟨p, q, hA0, hV, rfl, hfz, hnd⟩ := hW
  have hA : DataW.TrodAll enc Tryd.prog W 0 (fun _ => true) true Tryd.f6.params.toList args.toList ds p := hA0
  rw [Tryd.params6] at hA hval
  obtain ⟨v0, vs0, d0, ds0, p0, q0, hargs, rfl, rfl, h0, r0⟩ := trodAll_cons hA
  obtain ⟨v1, vs1, d1, ds1, p1, q1, rfl, rfl, rfl, h1, r1⟩ := trodAll_cons r0
  obtain ⟨v2, vs2, d2, ds2, p2, q2, rfl, rfl, rfl, h2, r2⟩ := trodAll_cons r1
  obtain ⟨v3, vs3, d3, ds3, p3, q3, rfl, rfl, rfl, h3, r3⟩ := trodAll_cons r2
  obtain ⟨rfl, rfl, rfl⟩ := trodAll_nil r3
  obtain rfl : args = #[v0, v1, v2, v3] := by cases args; simp_all
  obtain ⟨rfl, rfl⟩ := trodVars_none hV
  have k0 := h0
  have k1 := h1
  have k3 := h3
  have lt0 : ∀ x ∈ p0, x.block < W.heap.size := by obtain ⟨m, hm⟩ := k0; exact DataW.trod_lt m _ _ _ hm
  have lt1 : ∀ x ∈ p1, x.block < W.heap.size := by obtain ⟨m, hm⟩ := k1; exact DataW.trod_lt m _ _ _ hm
  have lt3 : ∀ x ∈ p3, x.block < W.heap.size := by obtain ⟨m, hm⟩ := k3; exact DataW.trod_lt m _ _ _ hm
  obtain ⟨a1, c1, xs, e1, L1⟩ := open_lin (hval 0 25 v0 rfl rfl) h0
  obtain ⟨a2, c2, ys, e2, L2⟩ := open_lin (hval 1 25 v1 rfl rfl) h1
  obtain ⟨n, rfl, rfl, rfl, w2⟩ := open_int Tryd.underlying23 (hval 2 23 v2 rfl rfl) h2
  obtain ⟨a3, c3, vs, hv3, L3, B3, N3⟩ := open_nums (hval 3 53 v3 rfl rfl) h3
  clear hA0
  simp only [List.append_nil] at hk
  have hsum : Rows.uptoBulkAll [d0, d1, .lit (.int .u32 n), d3] ≤ 1048576 := of_decide_eq_true hk
  simp only [Rows.uptoBulkAll, Rows.uptoBulk] at hsum
  have f1 := L1.few
  have f2 := L2.few
  have hgo := values_any a1 a2 a3 c1 c2 c3 xs ys vs e1 e2 n W L1.held L2.held L3 (pow_of_laid hL) (by omega) (by omega) (by omega)
    (fun t ht => by have := (L1.each t ht).2.2; omega) (fun t ht => by have := (L2.each t ht).2.2; omega) ⟨L1.lo, L1.hi⟩ ⟨L2.lo, L2.hi⟩ B3
  rw [← L1.is, ← L2.is, ← hv3] at hgo
  refine hgo.mono fun e W' ⟨bel, he⟩ => ?_
  subst he
  exact ⟨_, rfl, _, _, _, [], _, [], hW', trodAll_mk1 (shut_bool Tryd.underlying4 _), (trodAll_cons_mk (Below.trod laidOut (by kernel_rfl) (of_decide_eq_true (by kernel_rfl)) k0 bel lt0) (trodAll_cons_mk (Below.trod laidOut (by kernel_rfl) (of_decide_eq_true (by kernel_rfl)) k1 bel lt1) (trodAll_cons_mk (shut_int Tryd.underlying23 w2) (trodAll_cons_mk (Below.trod laidOut (by kernel_rfl) (of_decide_eq_true (by kernel_rfl)) k3 bel lt3) trodAll_mk0)))), rfl, bel.frame _, fun h => by cases h⟩

theorem laid_met (os : Os) (args : Array Value) : laidMet Tryd.prog Rows.exprValuesUptoRow.laid ((laidWorld os).forCall (fun _ _ => 0) ⟨#[], args, []⟩).memory :=
  laidMet_of_run' 8 (by kernel_rfl) (by kernel_rfl)
theorem reads (os : Os) {H : Type} (enc : TypeId × Value → H) : ∃ places, DataW.whole enc Tryd.prog ((laidWorld os).forCall (fun _ _ => 0) ⟨#[], #[linV (.slice none 0 0) 0, linV (.slice none 0 0) 0, .int .u32 0, .slice none 0 0], []⟩).memory Tryd.f6.params.toList Rows.exprValuesSpec.vars false #[linV (.slice none 0 0) 0, linV (.slice none 0 0) 0, .int .u32 0, .slice none 0 0].toList 8 = some ([.agg [.nil, .lit (.int .u32 0)], .agg [.nil, .lit (.int .u32 0)], .lit (.int .u32 0), .nil], [], places) :=
  ⟨[], by kernel_rfl⟩

theorem lifted (os : Os) (started : os.Started) (H : Type) (enc : TypeId × Value → H) (F : Stop.Interp) :
    ReturnsInHanded {} Tryd.checked os 6 .any ((Rows.OpenSpec.upto Rows.exprValuesSpec).preRow enc Tryd.prog Tryd.f6 Rows.exprValuesUptoRow.domain false Rows.exprValuesUptoRow.laid) (((Rows.OpenSpec.upto Rows.exprValuesSpec).at F).post enc Tryd.prog Tryd.f6 false true false false) := by
  obtain ⟨places, hx⟩ := reads os enc
  refine returnsInHanded_of_row (C := Tryd.checked) (s := Rows.OpenSpec.upto Rows.exprValuesSpec) own started (by kernel_rfl) Tryd.func6
    (witness_row_at (enc := enc) (C := Tryd.checked) false (laidWorld os) #[linV (.slice none 0 0) 0, linV (.slice none 0 0) 0, .int .u32 0, .slice none 0 0] rfl (by kernel_rfl) (by kernel_rfl) (by kernel_rfl)
      (OpenSpec.preRow_of_cond 8 hx (by kernel_rfl) (fun k hk => by cases hk; kernel_rfl) (by kernel_rfl) (laid_met os _))) ?_
  intro W base args ds gs before hval hW x1 x2 x3 hL x4 x5
  exact contract H enc W base args ds gs before hval hW hL (by first | exact x1 _ rfl | exact x2 _ rfl | exact x3 _ rfl | exact x4 _ rfl | exact x5 _ rfl)

theorem said : Rows.ExprValuesUptoSaid :=
  OpenClaim.holds_of_cond 6 Tryd.f6 rfl rfl rfl rfl rfl rfl rfl ⟨rfl, rfl, rfl, rfl, rfl⟩ rfl rfl rfl rfl rfl (by kernel_rfl) Tryd.func6 (by kernel_rfl)
    (of_decide_eq_true (by kernel_rfl)) (by unfold Func.isWrapper; first | (rw [if_pos (by decide +kernel)]; kernel_rfl) | (rw [if_neg (by decide +kernel)]; exact ⟨rfl, rfl⟩))
    (fun os started H enc _ F => by rw [OpenClaim.pre_eq_preRow]; exact lifted os started H enc F)

theorem plain (f : FuncId) (fn : Func) (hf : Tryd.pinned.checked.prog.funcNamed "spandrel/spandrellaw4.ExprValues" = some f) (hfn : Tryd.pinned.checked.prog.funcs[f]? = some fn) :
    false = Tryd.pinned.checked.prog.looks [] ∧ ∀ (j : Nat) t, fn.params[j]? = some t → Tryd.pinned.checked.prog.wantsStandIn t = false := by
  obtain rfl : f = 6 := Option.some.inj ((show Tryd.prog.funcNamed "spandrel/spandrellaw4.ExprValues" = some 6 by kernel_rfl).symm.trans hf) |>.symm
  obtain rfl : fn = Tryd.f6 := (Option.some.inj (Tryd.func6.symm.trans hfn)).symm
  refine ⟨by kernel_rfl, fun j t ht => ?_⟩
  rw [Tryd.params6] at ht
  have hm := Array.mem_of_getElem? ht
  have h25 : Tryd.prog.wantsStandIn 25 = false := by kernel_rfl
  have h23 : Tryd.prog.wantsStandIn 23 = false := by kernel_rfl
  have h53 : Tryd.prog.wantsStandIn 53 = false := by kernel_rfl
  simp at hm
  rcases hm with rfl | rfl | rfl
  · exact h25
  · exact h23
  · exact h53

theorem card : Rows.ExprValuesUptoCardSaid :=
  Claim7.holds_tied_plain_at .later [] _ _ _ _ said (fun _ h => by cases h) (by kernel_rfl) (fun _ h => by cases h) exprValuesUpto_row_tie rfl ⟨rfl, rfl⟩ (by kernel_rfl) rfl plain (by kernel_rfl)
end Go.Proofs.YtijdjljnppkhmaaDoor.exprValues
namespace Go.Proofs.YtijdjljnppkhmaaDoor
theorem exprValuesUpto_holds : Rows.ExprValuesUptoCardSaid := exprValues.card
#print axioms exprValuesUpto_holds
end Go.Proofs.YtijdjljnppkhmaaDoor

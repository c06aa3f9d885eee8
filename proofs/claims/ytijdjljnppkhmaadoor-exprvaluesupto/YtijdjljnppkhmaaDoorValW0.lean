/- ExprValues: the walk. -/
import Derived.Test.YtijdjljnppkhmaaDoorValL
import Derived.Test.YtijdjljnppkhmaaDoorQuietB
import Derived.Test.YtijdjljnppkhmaaDoorNumbersW
import Derived.Test.YtijdjljnppkhmaaDoorLinF
import Derived.Deep.RegionWith
import Derived.Deep.RegionHeld3
import Derived.Deep.RegionLaw
import Derived.Deep.AppendLies
import Derived.Deep.DeepCutAuto
import Derived.BigRegion
namespace Go.Proofs.YtijdjljnppkhmaaDoor
open Go.ChangeShapes Go.WideShapes Go.ChangeAt Go.RowKit Go.WideMaps Go.Maps
set_option linter.unusedVariables false
set_option maxRecDepth 100000

theorem addV_held (a1 a2 : Option Addr) (c1 c2 : Nat) (xs ys : List Tm) (k1 k2 : Int) (n1 n2 : Nat) (w : World) (h1 : n1 = xs.length) (h2 : n2 = ys.length) (hx : Held w a1 c1 xs) (hy : Held w a2 c2 ys) (hl1 : xs.length ≤ 4400000) (hl2 : ys.length ≤ 4400000) :
    Calls Tryd.prog 24 #[linV (.slice a1 n1 c1) k1, linV (.slice a2 n2 c2) k2] w fun e w' => Below w.heap.size w w' ∧ ∃ a c m, e = .returned (linV (.slice a m c) ((k1 + k2) % 4294967296)) ∧ m = (addT xs ys).length ∧ Held w' a c (addT xs ys) := by
  subst h1 h2
  refine (add_any a1 a2 c1 c2 xs ys k1 k2 w hx hy hl1 hl2).mono ?_
  rintro e w' ⟨hb, v, rfl, ho⟩
  obtain ⟨a, c, rfl⟩ := own_slice ho
  exact ⟨hb, a, c, _, rfl, rfl, own_held ho⟩

theorem timesV_held (a1 : Option Addr) (c1 : Nat) (xs : List Tm) (k1 n : Int) (n1 : Nat) (w : World) (h1 : n1 = xs.length) (hx : Held w a1 c1 xs) (hl1 : xs.length ≤ 4400000) :
    Calls Tryd.prog 26 #[linV (.slice a1 n1 c1) k1, .int .u32 n] w fun e w' => Below w.heap.size w w' ∧ ∃ a c m, e = .returned (linV (.slice a m c) (k1 * n % 4294967296)) ∧ m = (timesT xs n).length ∧ Held w' a c (timesT xs n) := by
  subst h1
  refine (times_any a1 c1 xs k1 n hl1 w hx.lies).mono ?_
  rintro e w' ⟨hb, v, rfl, ho⟩
  obtain ⟨a, c, rfl⟩ := own_slice ho
  exact ⟨hb, a, c, _, rfl, rfl, own_held ho⟩

theorem valueV (a : Option Addr) (c : Nat) (ts : List Tm) (k : Int) (m : Nat) (hm0 : m = ts.length) (b q : Nat) (F : List UInt8 → Option Int) (R : Option Int) (hR : valueF F k ts = R) (w : World) (hT : Held w a c ts) (hm : ts.length ≤ 9000000) (hN : ∀ t ∈ ts, t.name.length ≤ 1100000) (hM : MapIs w b q F) :
    Calls Tryd.prog 10 #[linV (.slice a m c) k, .map (some b)] w fun e w' => Below w.heap.size w w' ∧ e = .returned (.tuple #[.int .u32 (R.getD 0), .bool R.isSome]) := by
  subst hm0 hR
  exact value_any a c ts k b q F w hT.lies hm hN hM


/-- a world in which all that was in w is as it was -/
structure BelowV (w : World) where
  wd : World
  h : Below w.heap.size w wd
instance {w : World} : Inhabited (BelowV w) := ⟨⟨w, Below.refl _ _⟩⟩
theorem BelowV.cell {w : World} (p : BelowV w) {a : Addr} {v : Value} (ha : a.block < w.heap.size) (h : w.cell? a = some v) : p.wd.cell? a = some v := by rw [p.h.cell ha]; exact h
theorem wp_region_quiet_v {P : Program} {id : Nat} {Q : Exit → Act → World → Prop} {a : Act} {w : World} {l : List Oper} (hm : P.follows .mixedOrders = true) (hB : Region.lexB .any l.toArray = true)
    (h : wpQuiet P l.toArray (fun w' => ∃ p : BelowV w, w' = p.wd) (fun a' => ∀ w', (∃ p : BelowV w, w' = p.wd) → Q .normal a' w') l a) : (Code.region id l.toArray true).wp P Q a w :=
  wp_region_quiet (C := fun w' => ∃ p : BelowV w, w' = p.wd) hm hB ⟨⟨w.drew, (Below.refl _ _).drew⟩, rfl⟩ (by simpa using h)

/-- what comes in -/
structure B2 (W : World) (g1 g2 : Nat) (a1 a2 a3 : Option Addr) (m1 m2 c1 c2 : Nat) (xs ys : List Tm) (vs : List Int) (k1 k2 : Int) : Prop where
  q1 : Two W g1 25 (.slice a1 m1 c1) (.int .u32 k1)
  q2 : Two W g2 25 (.slice a2 m2 c2) (.int .u32 k2)
  h1 : Held W a1 c1 xs
  h2 : Held W a2 c2 ys
  h3 : IntLies W a3 vs
  P : Pow W
theorem B2.below {W W' : World} {g1 g2 : Nat} {a1 a2 a3 : Option Addr} {m1 m2 c1 c2 : Nat} {xs ys : List Tm} {vs : List Int} {k1 k2 : Int} (h : B2 W g1 g2 a1 a2 a3 m1 m2 c1 c2 xs ys vs k1 k2) (hb : Below W.heap.size W W') : B2 W' g1 g2 a1 a2 a3 m1 m2 c1 c2 xs ys vs k1 k2 :=
  ⟨h.q1.below hb h.q1.lt, h.q2.below hb h.q2.lt, h.h1.below hb (Nat.le_refl _), h.h2.below hb (Nat.le_refl _), h.h3.below hb (Nat.le_refl _), h.P.below hb⟩

theorem chainV {w w1 w2 : World} (a : Below w.heap.size w w1) (b : Below w1.heap.size w1 w2) : Below w.heap.size w w2 := a.trans (b.mono a.size)

theorem map_empty {w : World} {b n : Nat} (h : w.ownsMap Tryd.prog 9 (plainElem (H := Unit) Tryd.prog 23) b n (.map [])) : MapIs w b n (fun _ => none) := ⟨_, h, spec_empty.1, spec_empty.2⟩

theorem short_add {a b : List Tm} {N : Nat} (ha : ∀ t ∈ a, t.name.length ≤ N) (hb : ∀ t ∈ b, t.name.length ≤ N) : ∀ t ∈ addT a b, t.name.length ≤ N := by
  intro t ht
  obtain ⟨x, hx, he⟩ := mem_norm ht
  rw [← he]
  rcases List.mem_append.1 hx with hx | hx
  · exact ha x hx
  · exact hb x hx


theorem valueX (a : Option Addr) (c : Nat) (ts : List Tm) (k : Int) (m : Nat) (hm0 : m = ts.length) (b q : Nat) (F : List UInt8 → Option Int) (w : World) (hT : Held w a c ts) (hm : ts.length ≤ 9000000) (hN : ∀ t ∈ ts, t.name.length ≤ 1100000) (hM : MapIs w b q F) :
    Calls Tryd.prog 10 #[linV (.slice a m c) k, .map (some b)] w fun e w' => Below w.heap.size w w' ∧ ∃ r o, e = .returned (.tuple #[.int .u32 r, .bool o]) :=
  (valueV a c ts k m hm0 b q F _ rfl w hT hm hN hM).mono fun e w' ⟨hb, he⟩ => ⟨hb, _, _, he⟩

theorem valueS (a : Option Addr) (c : Nat) (ts : List Tm) (k : Int) (m : Nat) (hm0 : m = ts.length) (b q : Nat) (F : List UInt8 → Option Int) (G : List UInt8 → Int) (hF : ∀ t ∈ ts, F t.name = some (G t.name)) (hk : 0 ≤ k ∧ k < 4294967296) (A : Int) (hA : A = (k + sumV G ts) % 4294967296) (w : World) (hT : Held w a c ts) (hm : ts.length ≤ 9000000) (hN : ∀ t ∈ ts, t.name.length ≤ 1100000) (hM : MapIs w b q F) :
    Calls Tryd.prog 10 #[linV (.slice a m c) k, .map (some b)] w fun e w' => Below w.heap.size w w' ∧ e = .returned (.tuple #[.int .u32 A, .bool true]) := by
  have := valueV a c ts k m hm0 b q F _ (valueF_sum F G ts hF k hk) w hT hm hN hM
  rw [hA]
  exact this

theorem addV_len {xs ys : List Tm} (h1 : xs.length ≤ 1100000) (h2 : ys.length ≤ 1100000) : (addT xs ys).length ≤ 9000000 := by
  have := norm_len (xs ++ ys)
  rw [List.length_append] at this
  unfold addT
  omega
theorem timesV_len {xs : List Tm} (h1 : xs.length ≤ 1100000) (n : Int) : (timesT xs n).length ≤ 9000000 := by
  have := times_len xs n
  omega
theorem short_times {a : List Tm} {N : Nat} (ha : ∀ t ∈ a, t.name.length ≤ N) (n : Int) : ∀ t ∈ timesT a n, t.name.length ≤ N := by
  intro t ht
  obtain ⟨_, _, x, hx, he⟩ := mem_timesT ht
  rw [← he]
  exact ha x hx
theorem names_add {xs ys : List Tm} {F : List UInt8 → Option Int} {G : List UInt8 → Int} (h : ∀ t ∈ xs ++ ys, F t.name = some (G t.name)) : ∀ t ∈ addT xs ys, F t.name = some (G t.name) := by
  intro t ht
  obtain ⟨x, hx, he⟩ := mem_norm ht
  rw [← he]
  exact h x hx
theorem names_times {xs : List Tm} {F : List UInt8 → Option Int} {G : List UInt8 → Int} (h : ∀ t ∈ xs, F t.name = some (G t.name)) (n : Int) : ∀ t ∈ timesT xs n, F t.name = some (G t.name) := by
  intro t ht
  obtain ⟨_, _, x, hx, he⟩ := mem_timesT ht
  rw [← he]
  exact h x hx
theorem sum_add (G : List UInt8 → Int) (xs ys : List Tm) (k1 k2 A B : Int) (hA : A = (k1 + sumV G xs) % 4294967296) (hB : B = (k2 + sumV G ys) % 4294967296) : (A + B) % 4294967296 = ((k1 + k2) % 4294967296 + sumV G (addT xs ys)) % 4294967296 := by
  have := sumV_add G xs ys
  omega
theorem sum_times (G : List UInt8 → Int) (xs : List Tm) (k1 n A : Int) (hA : A = (k1 + sumV G xs) % 4294967296) : A * n % 4294967296 = (k1 * n % 4294967296 + sumV G (timesT xs n)) % 4294967296 := by
  have h1 := sumV_times G xs n
  have h2 := mod_left A (k1 + sumV G xs) n (by rw [hA]; omega)
  have h3 : (k1 + sumV G xs) * n = k1 * n + sumV G xs * n := Int.add_mul _ _ _
  omega
theorem fill_all (vs : List Int) (ts : List Tm) (M : Nat) (hM : M = ts.length) : ∀ t ∈ ts, fillF vs ts M t.name = some ((fillF vs ts M t.name).getD 0) := by
  intro t ht
  obtain ⟨j, hj⟩ := List.getElem?_of_mem ht
  have hl := (List.getElem?_eq_some_iff.1 hj).1
  have := fillF_some vs ts M j t (by omega) hj
  cases hx : fillF vs ts M t.name with
  | none => rw [hx] at this; cases this
  | some v => rfl
theorem map_fill {w : World} {b n : Nat} {F : List UInt8 → Option Int} (h : MapIs w b n F) : ∃ D : DataW Unit, w.ownsMap Tryd.prog 9 (plainElem Tryd.prog 23) b n D ∧ SpecM D F := by
  obtain ⟨D, h1, h2, h3⟩ := h
  exact ⟨D, h1, h2, h3⟩
/-- the value of a name, in whatever world that has the map -/
theorem look_run {w : World} {b n : Nat} {F : List UInt8 → Option Int} (h : MapIs w b n F) (s : List UInt8) (hs : s.length ≤ 1100000) : (Instr.lookup 54 (.map (some b)) (.string (str s)) false).run Tryd.prog w = .ok (.int .u32 ((F s).getD 0)) w := by
  obtain ⟨D, hown, hD1, hD2⟩ := h
  have hsz : (str s).size ≤ maxLen := by
    have h2 : (str s).size = s.length := by simp [str, ByteArray.size]
    unfold maxLen
    omega
  have hkey : keyOf Tryd.prog 9 (.string (str s)) = some (.string s) := keyOf_string_mk Tryd.underlying9 hsz
  obtain ⟨c, hrun, hat, _⟩ := hown.lookup_int (q := .u32) lawS Tryd.underlying54 Tryd.underlying23 (zero23 w) hkey
  rw [hrun]
  rw [(hD2 s).2] at hat
  injection hat with hat
  injection hat with _ hat
  rw [hat]
/-- a value put under a name -/
theorem put_run {w : World} {b n : Nat} {F : List UInt8 → Option Int} (h : MapIs w b n F) (hn : n ≤ 3000000) (s : List UInt8) (hs : s.length ≤ 1100000) (v : Int) (hv : 0 ≤ v ∧ v < 4294967296) :
    ∃ w', (Instr.mapUpdate 54 (.map (some b)) (.string (str s)) (.int .u32 v)).run Tryd.prog w = .ok () w' ∧ MapIs w' b (n + 1) (putF F s v) ∧ w.grownBy w' (some b) := by
  obtain ⟨D, hown, hD⟩ := map_fill h
  have hsz : (str s).size ≤ maxLen := by
    have h2 : (str s).size = s.length := by simp [str, ByteArray.size]
    unfold maxLen
    omega
  have hkey : keyOf Tryd.prog 9 (.string (str s)) = some (.string s) := keyOf_string_mk Tryd.underlying9 hsz
  have hval : plainElem (H := Unit) Tryd.prog 23 (.int .u32 v) = some (.lit (.int .u32 v), []) := plainElem_int Tryd.underlying23 (WalkArith.wf_u32 ⟨hv.1, by omega⟩)
  obtain ⟨w', hrun, r1, r2⟩ := hown.update lawS Tryd.underlying54 (by unfold maxLen; omega) hkey hval
  have := spec_put hD s v
  exact ⟨w', hrun, ⟨_, r1, this.1, this.2⟩, r2⟩

end Go.Proofs.YtijdjljnppkhmaaDoor

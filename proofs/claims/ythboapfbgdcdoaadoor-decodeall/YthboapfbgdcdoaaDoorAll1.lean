/- Instructions in memory; encode.All. -/
import Derived.Test.YthboapfbgdcdoaaDoorEnc3
namespace Go.Proofs.YthboapfbgdcdoaaDoor
open Go.ChangeShapes Go.WideShapes Go.ChangeAt Go.RowKit
set_option linter.unusedVariables false
set_option maxRecDepth 100000

/-- an instruction: operation, A, B, N, form -/
structure Ins where
  o : Int
  a : Int
  b : Int
  n : Int
  f : Int

def Ins.val (x : Ins) : Value := instV x.o x.a x.b x.n x.f
def Ins.cells (x : Ins) : List Value := [.int .i64 x.o, .int .i64 x.a, .int .i64 x.b, .int .i32 x.n, .int .i64 x.f]
def Ins.ok (x : Ins) : Prop := -2147483648 ≤ x.n ∧ x.n ≤ 2147483647
def Ins.chk (x : Ins) : Int := checkN x.o x.a x.b x.n x.f
def Ins.enc (x : Ins) : List Int := encR x.o x.a x.b x.n x.f

/-- at block g, from place off on, lies x -/
structure InsAt (w : World) (g off : Nat) (x : Ins) : Prop where
  o : w.cell? ⟨g, off, none⟩ = some (.int .i64 x.o)
  a : w.cell? ⟨g, off + 1, none⟩ = some (.int .i64 x.a)
  b : w.cell? ⟨g, off + 2, none⟩ = some (.int .i64 x.b)
  n : w.cell? ⟨g, off + 3, none⟩ = some (.int .i32 x.n)
  f : w.cell? ⟨g, off + 4, none⟩ = some (.int .i64 x.f)
theorem InsAt.lt {w : World} {g off : Nat} {x : Ins} (h : InsAt w g off x) : g < w.heap.size := World.block_lt_of_cell? w _ h.o
theorem InsAt.below {w w' : World} {g off B : Nat} {x : Ins} (h : InsAt w g off x) (hb : Below B w w') (hB : g < B) : InsAt w' g off x :=
  ⟨(hb.cell (p := ⟨g, off, none⟩) hB).trans h.o, (hb.cell (p := ⟨g, off + 1, none⟩) hB).trans h.a, (hb.cell (p := ⟨g, off + 2, none⟩) hB).trans h.b, (hb.cell (p := ⟨g, off + 3, none⟩) hB).trans h.n, (hb.cell (p := ⟨g, off + 4, none⟩) hB).trans h.f⟩

/-- the instructions xs lie in w from a on -/
def ILies (w : World) (a : Option Addr) (xs : List Ins) : Prop := (∀ x ∈ xs, x.ok) ∧ (xs = [] ∨ ∃ g off, a = some ⟨g, off, none⟩ ∧ ∀ i x, xs[i]? = some x → InsAt w g (off + i * 5) x)
theorem ILies.below {w w' : World} {a : Option Addr} {xs : List Ins} (h : ILies w a xs) (hb : Below w.heap.size w w') : ILies w' a xs := by
  refine ⟨h.1, ?_⟩
  rcases h.2 with h | ⟨g, off, ha, hc⟩
  · exact .inl h
  · exact .inr ⟨g, off, ha, fun i x hx => (hc i x hx).below hb (hc i x hx).lt⟩

/-- the encodings, one behind the other -/
def encAll (xs : List Ins) : List Int := xs.flatMap Ins.enc
theorem encAll_snoc (xs : List Ins) (x : Ins) : encAll (xs ++ [x]) = encAll xs ++ x.enc := by simp [encAll]
theorem encAll_len (xs : List Ins) : (encAll xs).length ≤ 7 * xs.length := by
  induction xs with
  | nil => simp [encAll]
  | cons x xs ih =>
    have := encR_len x.o x.a x.b x.n x.f
    have e : encAll (x :: xs) = x.enc ++ encAll xs := by simp [encAll]
    rw [e, List.length_append, List.length_cons]
    show (encR x.o x.a x.b x.n x.f).length + _ ≤ _
    omega
theorem encAll_bytes (xs : List Ins) : AreBytes (encAll xs) := by
  intro z hz
  simp only [encAll, List.mem_flatMap] at hz
  obtain ⟨x, _, hz⟩ := hz
  exact encR_bytes _ _ _ _ _ z hz

/-- the place of the first that is none, and why; as many as there are, and 0 -/
def badAt (xs : List Ins) : Nat := xs.findIdx (fun x => decide (x.chk ≠ 0))
def allE (xs : List Ins) : Int := match xs[badAt xs]? with
  | some x => x.chk
  | none => 0
def allN (xs : List Ins) : Int := if allE xs = 0 then 0 else badAt xs
def allL (xs : List Ins) : List Int := if allE xs = 0 then encAll xs else []

theorem badAt_hit {xs : List Ins} {i : Nat} {x : Ins} (hi : xs[i]? = some x) (hb : x.chk ≠ 0) (hf : ∀ (j : Nat) (y : Ins), j < i → xs[j]? = some y → y.chk = 0) : badAt xs = i ∧ allE xs = x.chk := by
  have h : badAt xs = i := by
    obtain ⟨hl, he⟩ := List.getElem?_eq_some_iff.1 hi
    refine (List.findIdx_eq hl).2 ⟨by rw [he]; simpa using hb, fun j hj => ?_⟩
    have := hf j _ hj (List.getElem?_eq_getElem (by omega))
    simpa using this
  exact ⟨h, by rw [allE, h, hi]⟩
theorem badAt_none {xs : List Ins} (hf : ∀ (j : Nat) (y : Ins), xs[j]? = some y → y.chk = 0) : allE xs = 0 := by
  unfold allE
  split
  · rename_i x h
    exact hf _ _ h
  · rfl

theorem allL_bytes (xs : List Ins) : AreBytes (allL xs) := by
  unfold allL
  split
  · exact encAll_bytes xs
  · exact fun z hz => by cases hz

theorem take_snoc {α : Type} {xs : List α} {i : Nat} {x : α} (hi : xs[i]? = some x) : xs.take (i + 1) = xs.take i ++ [x] := by
  obtain ⟨hl, he⟩ := List.getElem?_eq_some_iff.1 hi
  rw [List.take_succ_eq_append_getElem hl, he]

theorem ins_cells (w : World) (x : Ins) : InstAt (w.alloc (.cells #[.int .i64 x.o, .int .i64 x.a, .int .i64 x.b, .int .i32 x.n, .int .i64 x.f] 26)) w.heap.size x.o x.a x.b x.n x.f := inst_new w x.o x.a x.b x.n x.f

theorem app_held {ops : Array Oper} {rest : List Oper} {o : Oper} {a : Act} {Q : Exit → Act → World → Prop} (w : World) (hgd : o.guard = none) (s x : Operand)
    (ho : o.op = .call { callee := .builtin .append, args := #[s, x], argTypes := #[22, 22] }) (base : Nat) (a1 : Option Addr) (m1 c1 : Nat) (zs : List Int) (lo3 : Nat) (a3 : Option Addr) (m3 c3 : Nat) (ts : List Int)
    (hs : a.eval s = .slice a1 m1 c1) (hx : a.eval x = .slice a3 m3 c3) (h1 : SlB w base a1 m1 c1 zs) (h3 : SlB w lo3 a3 m3 c3 ts) (hm : zs.length + ts.length ≤ 140737488355328) (hbase : base ≤ w.heap.size)
    (h : ∀ a' k' c' w', SlB w' base a' k' c' (zs ++ ts) → Below base w w' → wpList Tryd.prog ops Q rest (a.put o.dst (.slice a' k' c')) w') : wpList Tryd.prog ops Q (o :: rest) a w := by
  obtain ⟨rfl, hg1, hz1⟩ := h1
  obtain ⟨rfl, hg3, hz3⟩ := h3
  exact app_law w hgd s x ho base _ zs ts hs hg1 a3 c3 hx (hg3.lies hz3) hg3.none hm hbase fun a' c' w' hg hb => h a' _ c' w' ⟨rfl, hg, areBytes_append hz1 hz3⟩ hb

set_option maxHeartbeats 2000000 in
theorem all_some (g off c : Nat) (xs : List Ins) (m : Nat) (hm : m = xs.length) (w : World) (hT : Tab w) (hok : ∀ x ∈ xs, x.ok) (hl : ∀ i x, xs[i]? = some x → InsAt w g (off + i * 5) x) (hlen : xs.length ≤ 1000) :
    Calls Tryd.prog 16 #[.slice (some ⟨g, off, none⟩) m c] w fun e w' => ∃ a' k c', e = .returned (.tuple #[.slice a' k c', .int .i64 (allN xs), .int .i64 (allE xs)]) ∧ SlB w' w.heap.size a' k c' (allL xs) ∧ Below w.heap.size w w' := by
  have hTH := Hid.intro hT
  have hlH := Hid.intro hl
  have hokH := Hid.intro hok
  have hmH := Hid.intro hm
  have hm1 : (m : Int) ≤ 1000 := by omega
  have hm1' : m ≤ 1000 := by omega
  have hlenH := Hid.intro hlen
  clear hT hl hok hm hlen
  go_enter Tryd.func16, Tryd.ntmps16
  go_wp2
  go_loopw [5, 12] (fun vo vi wr => ∃ (i : Nat) (a1 : Option Addr) (k1 c1 : Nat), i ≤ m ∧ vi = .int .i64 (i : Int) ∧ vo = .slice a1 k1 c1 ∧ Hid (∀ (j : Nat) (y : Ins), j < i → xs[j]? = some y → y.chk = 0) ∧ Hid (SlB wr w.heap.size a1 k1 c1 (encAll (xs.take i))) ∧ Hid (Below w.heap.size w wr)) (fun _ vi _ => m - (intOf vi).toNat)
  case atStart => exact ⟨0, none, 0, 0, by omega, rfl, rfl, fun j y hj => by omega, ⟨rfl, World.ownsRow_nil _ _ _ _, fun z hz => by cases hz⟩, Below.refl _ _⟩
  case round =>
    obtain ⟨i, a1, k1, c1, hi, rfl, rfl, hI, hS, hB⟩ := hrel
    by_cases hlt : i < m
    · obtain ⟨x, hx⟩ : ∃ x, xs[i]? = some x := ⟨_, List.getElem?_eq_getElem (by have := hmH.out; omega)⟩
      have hxH := Hid.intro hx
      obtain ⟨q0, q1, q2, q3, q4⟩ := ((hlH.out i x hx).below hB.out (hlH.out i x hx).lt)
      have hb1 := Hid.intro (chain2 hB.out (below_alloc wr (.cells #[.int .i64 x.o, .int .i64 x.a, .int .i64 x.b, .int .i32 x.n, .int .i64 x.f] 26)))
      have hT1 := Hid.intro (hTH.out.below hb1.out hTH.out.size)
      have hS1 := Hid.intro (hS.out.below (below_alloc wr (.cells #[.int .i64 x.o, .int .i64 x.a, .int .i64 x.b, .int .i32 x.n, .int .i64 x.f] 26)))
      obtain ⟨C, hC⟩ : ∃ C, x.chk = C := ⟨_, rfl⟩
      obtain ⟨L, hL⟩ : ∃ L, x.enc = L := ⟨_, rfl⟩
      have hEn := Hid.intro (fun W hW => encode_at hC hL W hW (hokH.out x (List.mem_of_getElem? hx)))
      have hCH := Hid.intro hC
      have hLH := Hid.intro hL
      have hl7 : Hid (L.length ≤ 7) := by show L.length ≤ 7; rw [← hL]; exact encR_len _ _ _ _ _
      have hl8 : Hid ((encAll (xs.take i)).length ≤ 7000) := by
        show _ ≤ _
        have h1 := encAll_len (xs.take i)
        have h2 := List.length_take_le i xs
        omega
      clear hx hC hL
      by_cases hc : C = 0
      · subst hc
        go_wp2_with (first
          | (go_at_call 14; (with_reducible refine (hEn.out _ hT1.out).mono ?_); rintro e w2 ⟨a2, m2, c2, rfl, hs2, hb2⟩; replace hs2 := Hid.intro hs2; replace hb2 := Hid.intro hb2)
          | (at_builtin; go_must (refine app_held _ rfl (.tmp 26) (.tmp 27) rfl w.heap.size a1 k1 c1 (encAll (xs.take i)) _ a2 m2 c2 L rfl rfl (hS1.out.below hb2.out) hs2.out (by have := hl7.out; have := hl8.out; omega) (Nat.le_trans hb1.out.size hb2.out.size) ?_); intro a3 k3 c3 w3 hs3 hb3; replace hs3 := Hid.intro hs3; replace hb3 := Hid.intro hb3))
        have hI2 : Hid (∀ (j : Nat) (y : Ins), j < i + 1 → xs[j]? = some y → y.chk = 0) := fun j y hj hy => by
          by_cases hji : j = i
          · subst hji
            rw [hxH.out] at hy
            cases hy
            exact hCH.out
          · exact hI.out j y (by omega) hy
        have hS3 : Hid (SlB w3 w.heap.size a3 k3 c3 (encAll (xs.take (i + 1)))) := by
          show SlB _ _ _ _ _ _
          rw [take_snoc hxH.out, encAll_snoc, hLH.out]
          exact hs3.out
        have hB3 : Hid (Below w.heap.size w w3) := (chain2 hb1.out hb2.out).trans hb3.out
        clear hI hS hS1 hs3 hb3 hs2 hb2 hb1 hB
        go_roundw
        case rel => exact ⟨i + 1, a3, k3, c3, by omega, by go_num, rfl, hI2, hS3, hB3⟩
        case measure => simp [intOf]; omega
      · have e0 : (C == 0) = false := by simpa using hc
        have e1 : (C != 0) = true := by simpa using hc
        have hcH := Hid.intro hc
        clear hc
        go_wp2_with (first
          | (go_at_call 14; (with_reducible refine (hEn.out _ hT1.out).mono ?_); rintro e w2 ⟨a2, m2, c2, rfl, hs2, hb2⟩; replace hs2 := Hid.intro hs2; replace hb2 := Hid.intro hb2))
        go_ret3
        obtain ⟨z1, z2⟩ := badAt_hit hxH.out (by rw [hCH.out]; exact hcH.out) hI.out
        rw [hCH.out] at z2
        have z3 : allN xs = (i : Int) := by rw [allN, z2, if_neg hcH.out, z1]
        have z4 : allL xs = [] := by rw [allL, z2, if_neg hcH.out]
        rw [z2, z3, z4]
        exact ⟨none, 0, 0, rfl, ⟨rfl, World.ownsRow_nil _ _ _ _, fun z hz => by cases hz⟩, chain2 hb1.out hb2.out⟩
    · go_wp2
      go_ret3
      have hi2 : i = m := by omega
      subst hi2
      have z2 : allE xs = 0 := badAt_none fun j y hy => hI.out j y (by have := (List.getElem?_eq_some_iff.1 hy).1; have := hmH.out; omega) hy
      have z3 : allN xs = 0 := by rw [allN, if_pos z2]
      have z4 : allL xs = encAll (xs.take i) := by rw [allL, if_pos z2, hmH.out, List.take_length]
      rw [z2, z3, z4]
      exact ⟨a1, k1, c1, rfl, hS.out, hB.out⟩

theorem all_nil (w : World) (a : Option Addr) (c : Nat) :
    Calls Tryd.prog 16 #[.slice a 0 c] w fun e w' => e = .returned (.tuple #[.slice none 0 0, .int .i64 0, .int .i64 0]) ∧ w' = w := by
  go_enter Tryd.func16, Tryd.ntmps16
  go_wp2
  go_loopw [5, 12] (fun vo vi wr => vo = .slice none 0 0 ∧ vi = .int .i64 0 ∧ wr = w) (fun _ _ _ => 0)
  case atStart => exact ⟨rfl, rfl, rfl⟩
  case round =>
    obtain ⟨rfl, rfl, rfl⟩ := hrel
    go_wp2
    go_ret3
    exact ⟨rfl, rfl⟩

theorem all_any (a : Option Addr) (c : Nat) (xs : List Ins) (m : Nat) (hm : m = xs.length) (w : World) (hT : Tab w) (hl : ILies w a xs) (hlen : xs.length ≤ 1000) :
    Calls Tryd.prog 16 #[.slice a m c] w fun e w' => ∃ a' k c', e = .returned (.tuple #[.slice a' k c', .int .i64 (allN xs), .int .i64 (allE xs)]) ∧ SlB w' w.heap.size a' k c' (allL xs) ∧ Below w.heap.size w w' := by
  rcases hl.2 with rfl | ⟨g, off, rfl, hc⟩
  · obtain rfl : m = 0 := hm
    refine (all_nil w a c).mono ?_
    rintro e w' ⟨rfl, rfl⟩
    exact ⟨none, 0, 0, rfl, ⟨rfl, World.ownsRow_nil _ _ _ _, fun z hz => by cases hz⟩, Below.refl _ _⟩
  · exact all_some g off c xs m hm w hT hl.1 hc hlen
end Go.Proofs.YthboapfbgdcdoaaDoor

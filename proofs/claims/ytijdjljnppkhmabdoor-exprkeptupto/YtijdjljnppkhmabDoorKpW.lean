/- ExprKept: the walk. -/
import Derived.Test.YtijdjljnppkhmabDoorBtB
import Derived.Test.YtijdjljnppkhmabDoorKnownE
import Derived.Test.YtijdjljnppkhmabDoorRefRight
import Derived.Deep.RegionHeld3
import Derived.Deep.DeepCutAuto
/- ExprKept: what the law's round holds. -/
namespace Go.Proofs.YtijdjljnppkhmabDoor
open Go.ChangeShapes Go.WideShapes Go.ChangeAt Go.RowKit
set_option linter.unusedVariables false
set_option maxRecDepth 100000

/-- a book that holds m lists, and tokens that stay -/
structure KS (w0 : World) (B m : Nat) (la : Option Addr) (lc : Nat) (ts : List Tok) (lo : Nat) (w : World) : Prop where
  books : Bk.Books w0 w B m w.heap.size
  toks : w.ownsRow lo 60 4 (.slice la ts.length lc) ts.length (rowOf ts)
section
variable {w0 w w1 : World} {B m lc lo : Nat} {la : Option Addr} {ts : List Tok}
theorem KS.bel (h : KS w0 B m la lc ts lo w) : Below B w0 w := h.books.2.1
theorem KS.low (h : KS w0 B m la lc ts lo w) : B = w0.heap.size := h.books.1
theorem KS.below (h : KS w0 B m la lc ts lo w) (hb : Below w.heap.size w w1) : KS w0 B m la lc ts lo w1 := ⟨(h.books.more hb).grow, own_below h.toks hb⟩
theorem own_k5 {T : TypeId} {sz n : Nat} {v : Value} {xs : List Value} (h : w.ownsRow lo T sz v n xs) (hT : T = 30 ∨ T = 60) (hk : Bk.K5 w w1) : w1.ownsRow lo T sz v n xs := by
  refine ⟨h.1, ?_⟩
  rcases h.2 with h | ⟨g, cap, cur, h1, hb, hh, hr⟩
  · exact .inl h
  · exact .inr ⟨g, cap, cur, h1, hb, by rw [hk g T cur hT hh]; exact hh, hr⟩
theorem KS.keep (h : KS w0 B m la lc ts lo w) (hm : m ≤ 99) (hb : Below w.heap.size w w1) {a : Option Addr} {c n : Nat} {L : List Tm} (hn : n = L.length) (hr : Bk.OwnT w1 w.heap.size a c L) (hL : L.length ≤ 9000000) :
    Calls Tryd.prog 9 #[.pointer (some ⟨B, 0, none⟩), .slice a n c] w1 fun e w' => e = .returned (.tuple #[]) ∧ KS w0 B (m + 1) la lc ts lo w' := by
  subst hn
  refine (Bk.keep_books (h.books.more hb) hm hr hL).mono ?_
  rintro e w' ⟨rfl, h1, h2⟩
  exact ⟨rfl, h1, own_k5 (own_below h.toks hb) (.inr rfl) h2⟩
theorem toks_own (h : w.ownsRow lo 60 4 (.slice la ts.length lc) ts.length (rowOf ts)) (hf : ts.length ≤ 1100000) (hs : ∀ t ∈ ts, t.text.length ≤ 1000000) : Toks w la lc ts := by
  rcases h.2 with ⟨hv, h0⟩ | ⟨g, cap, cur, hv, hB, hgh, hle, hcap, _⟩
  · injection hv with hv1 hv2 hv3
    subst hv1 hv3
    exact ⟨.inl (List.eq_nil_of_length_eq_zero h0), fun x hx => by (cases hx), by omega, by omega, by omega, hs⟩
  · injection hv with hv1 hv2 hv3
    subst hv1 hv3
    have hg := (Array.getElem?_eq_some_iff.1 hgh).1
    refine ⟨.inr ⟨g, 0, rfl, hg, fun i t hi => ?_⟩, fun x hx => by (cases hx; exact hg), hle, by unfold maxLen at hcap; omega, by omega, hs⟩
    rw [Nat.zero_add]
    exact tok_own h i t hi
end

/-- a Lin in new memory -/
def NewL (w w' : World) (v : Value) : Prop := Below w.heap.size w w' ∧ ∃ a n c k, v = Value.agg #[.slice a n c, .int .u32 k] ∧ ∃ L : List Tm, n = L.length ∧ L.length ≤ 9000000 ∧ Bk.OwnT w' w.heap.size a c L

theorem newL_of {w w' : World} {v : Value} {k : Int} {L : List Tm} (hb : Below w.heap.size w w') (h : w'.ownsRow w.heap.size 30 2 v L.length (rowT L)) (hL : L.length ≤ 9000000) : NewL w w' (linV v k) := by
  obtain ⟨a, c, rfl⟩ := own_slice h
  exact ⟨hb, a, _, c, k, rfl, L, rfl, hL, trivial, h⟩
theorem add_new (a1 a2 : Option Addr) (c1 c2 n1 n2 : Nat) (xs ys : List Tm) (k1 k2 : Int) (w : World) (e1 : n1 = xs.length) (e2 : n2 = ys.length) (hx : Held w a1 c1 xs) (hy : Held w a2 c2 ys) (hl1 : n1 ≤ 4400000) (hl2 : n2 ≤ 4400000) :
    Calls Tryd.prog 10 #[linV (.slice a1 n1 c1) k1, linV (.slice a2 n2 c2) k2] w fun e w' => ∃ v, e = .returned v ∧ NewL w w' v := by
  subst e1 e2
  refine (add_any a1 a2 c1 c2 xs ys k1 k2 w hx hy hl1 hl2).mono ?_
  rintro e w' ⟨hb, v, rfl, ho⟩
  exact ⟨_, rfl, newL_of hb ho (by have := norm_len (xs ++ ys); rw [List.length_append] at this; unfold addT; omega)⟩
theorem times_new (a : Option Addr) (c n : Nat) (xs : List Tm) (k q : Int) (w : World) (e1 : n = xs.length) (hx : Held w a c xs) (hl : n ≤ 4400000) :
    Calls Tryd.prog 11 #[linV (.slice a n c) k, .int .u32 q] w fun e w' => ∃ v, e = .returned v ∧ NewL w w' v := by
  subst e1
  refine (times_any a c xs k q hl w hx.lies).mono ?_
  rintro e w' ⟨hb, v, rfl, ho⟩
  exact ⟨_, rfl, newL_of hb ho (by have := times_len xs q; omega)⟩
theorem named_new (w : World) : Calls Tryd.prog 12 #[.string ⟨#[97]⟩] w fun e w' => ∃ v, e = .returned v ∧ NewL w w' v := by
  refine (named_any ⟨#[97]⟩ (by decide) w).mono ?_
  rintro e w' ⟨hb, v, rfl, ho⟩
  exact ⟨_, rfl, newL_of (L := [⟨[97], 1⟩]) hb ho (by decide)⟩
theorem parse_new (a : Option Addr) (c n : Nat) (ts : List Tok) (w : World) (e1 : n = ts.length) (hT : Toks w a c ts) :
    Calls Tryd.prog 13 #[.slice a n c] w fun e w' => ∃ v k, e = .returned (.tuple #[v, .int .i64 k]) ∧ NewL w w' v := by
  subst e1
  refine (parse_all a c ts w hT).mono ?_
  rintro e w' ⟨hb, a', n, c', rfl, ho⟩
  refine ⟨_, _, rfl, newL_of hb ho ?_⟩
  have hf := hT.few
  cases hp : parseF ts with
  | error k => simp [outLin]
  | ok x =>
    have : x.terms.length ≤ ts.length := by
      unfold parseF at hp
      cases hs : sumD 33 ts with
      | error e => rw [hs] at hp; cases hp
      | ok q =>
        obtain ⟨y, r⟩ := q
        rw [hs] at hp
        have h1 := (sumD_fine 33).len ts y r hs
        cases r with
        | nil => cases hp; simpa using h1
        | cons t r => cases hp
    show x.terms.length ≤ _
    omega
end Go.Proofs.YtijdjljnppkhmabDoor
namespace Go.Proofs.YtijdjljnppkhmabDoor
open Go.ChangeShapes Go.WideShapes Go.ChangeAt Go.RowKit
set_option linter.unusedVariables false
set_option linter.unusedSimpArgs false
set_option maxRecDepth 100000

abbrev behind : Tm := ⟨[98, 101, 104, 105, 110, 100], 0⟩
theorem chn {w w1 w2 : World} (a : Below w.heap.size w w1) (b : Below w1.heap.size w1 w2) : Below w.heap.size w w2 := a.trans (b.mono a.size)

theorem Two.lt {w : World} {g : Nat} {T : TypeId} {x y : Value} (h : Two w g T x y) : g < w.heap.size := (Array.getElem?_eq_some_iff.1 h.heap).1

theorem fieldL (a : Option Addr) (n c : Nat) (k : Int) (W : World) : (Instr.field 25 (.agg #[.slice a n c, .int .u32 k]) 0).run Tryd.prog W = .ok (.slice a n c) W := by kernel_rfl

set_option maxHeartbeats 8000000 in
theorem exprKept_any (a1 a2 : Option Addr) (c1 c2 : Nat) (xs ys : List Tm) (k1 k2 : Int) (s : ByteArray) (w : World) (hx : Held w a1 c1 xs) (hy : Held w a2 c2 ys) (hP : Pow w) (hs : s.size ≤ 4611686018427387904)
    (m1 : xs.length ≤ 1048576) (m2 : ys.length ≤ 1048576) (N1 : ∀ t ∈ xs, t.name.length ≤ 1100000) (N2 : ∀ t ∈ ys, t.name.length ≤ 1100000) :
    Calls Tryd.prog 3 #[linV (.slice a1 xs.length c1) k1, linV (.slice a2 ys.length c2) k2, .string s] w fun e w' => e = .returned (.bool true) ∧ Below w.heap.size w w' := by
  obtain ⟨n1, e1⟩ : ∃ n1, n1 = xs.length := ⟨_, rfl⟩
  obtain ⟨n2, e2⟩ : ∃ n2, n2 = ys.length := ⟨_, rfl⟩
  rw [← e1, ← e2]
  rw [← e1] at m1
  rw [← e2] at m2
  have hB0 : Below w.heap.size w ((w.alloc (.cells #[.slice a1 n1 c1, .int .u32 k1] 25)).alloc (.cells #[.slice a2 n2 c2, .int .u32 k2] 25)) := (below_alloc w _).alloc (by simp) _
  have hT1 : Two ((w.alloc (.cells #[.slice a1 n1 c1, .int .u32 k1] 25)).alloc (.cells #[.slice a2 n2 c2, .int .u32 k2] 25)) w.heap.size 25 (.slice a1 n1 c1) (.int .u32 k1) := (two_new w 25 _ _).alloc _
  have hT2 : Two ((w.alloc (.cells #[.slice a1 n1 c1, .int .u32 k1] 25)).alloc (.cells #[.slice a2 n2 c2, .int .u32 k2] 25)) (w.heap.size + 1) 25 (.slice a2 n2 c2) (.int .u32 k2) := by
    have := two_new (w.alloc (.cells #[.slice a1 n1 c1, .int .u32 k1] 25)) 25 (.slice a2 n2 c2) (.int .u32 k2)
    rw [show (w.alloc (.cells #[.slice a1 n1 c1, .int .u32 k1] 25)).heap.size = w.heap.size + 1 by simp] at this
    exact this
  have hr1 : Hid (∀ W, Below w.heap.size w W → Calls Tryd.prog 4 #[linV (.slice a1 n1 c1) k1] W fun e w' => e = .returned (.bool (rightF none xs)) ∧ Below W.heap.size W w') := fun W hb => by rw [e1]; exact refRight_any a1 c1 xs k1 W (hx.lies.below hb (Nat.le_refl _)) (by omega) N1
  have hr2 : Hid (∀ W, Below w.heap.size w W → Calls Tryd.prog 4 #[linV (.slice a2 n2 c2) k2] W fun e w' => e = .returned (.bool (rightF none ys)) ∧ Below W.heap.size W w') := fun W hb => by rw [e2]; exact refRight_any a2 c2 ys k2 W (hy.lies.below hb (Nat.le_refl _)) (by omega) N2
  have hkn : Hid (∀ W, Below w.heap.size w W → Calls Tryd.prog 5 #[] W fun e w' => Below W.heap.size W w' ∧ e = .returned (.bool true)) := fun W hb => known_any W (hP.below hb)
  have hRo : Hid (∀ W, Below w.heap.size w W → Calls Tryd.prog 6 #[.slice a1 n1 c1, .agg #[.string ⟨#[98, 101, 104, 105, 110, 100]⟩, .int .u32 0]] W fun e w' => ∃ g, e = .returned (.slice (some ⟨g, 0, none⟩) (n1 + 80) (n1 + 80)) ∧ Hid (W.heap.size < g) ∧ RowM2 w' g (xs ++ List.replicate 80 behind) ∧ Below W.heap.size W w') := fun W hb => roomyT a1 c1 xs n1 e1 behind W (hx.lies.below hb (Nat.le_refl _)) (by omega)
  have hIn : Hid (∀ W g, Below w.heap.size w W → RowM2 W g (xs ++ List.replicate 80 behind) → Calls Tryd.prog 16 #[.slice (some ⟨g, 0, none⟩) (n1 + 80) (n1 + 80), .slice a1 n1 c1, .agg #[.string ⟨#[98, 101, 104, 105, 110, 100]⟩, .int .u32 0]] W fun e w' => e = .returned (.bool true) ∧ Below W.heap.size W w') := fun W g hb hr => intactT a1 g c1 xs n1 e1 behind W (hx.lies.below hb (Nat.le_refl _)) hr (by omega)
  have hfew : Hid (∀ W, Calls Tryd.prog 8 #[.string s, .int .i64 200] W fun e w' => e = .returned (.string (fewS s 200)) ∧ w' = W) := fun W => few_any s 200 hs (by omega) W
  have htok : Hid (∀ W, Calls Tryd.prog 7 #[.string (fewS s 200)] W fun e w' => Below W.heap.size W w' ∧ ∃ (a : Option Addr) (tl c : Nat) (a2 : Option Addr) (c2 : Nat) (b : Bool) (ts : List Tok), e = .returned (.tuple #[.slice a tl c, .slice a2 tl c2, .bool b]) ∧ tl = ts.length ∧ tl ≤ 1100000 ∧ (∀ t ∈ ts, t.text.length ≤ 1000000) ∧ w'.ownsRow W.heap.size 60 4 (.slice a ts.length c) ts.length (rowOf ts)) := fun W => by
    have hsz := fewS_size s 200
    refine (tokens_all (fewS s 200) (by omega) W).mono ?_
    rintro e w' ⟨hb, a, c, a2, c2, rfl, hT, ho, _⟩
    exact ⟨hb, a, _, c, a2, c2, _, scanL (scan (bs (fewS s 200)) 0), rfl, rfl, hT.few, hT.short, ho⟩
  have hHx := Hid.intro hx
  have hHy := Hid.intro hy
  have hE1 := Hid.intro e1
  have hE2 := Hid.intro e2
  have hB0H := Hid.intro hB0
  have hT1H := Hid.intro hT1
  have hT2H := Hid.intro hT2
  clear hx hy hP hs N1 N2 e1 e2 hB0 hT1 hT2
  go_enter Tryd.func3, Tryd.ntmps3
  go_upto_region 1 with fail
  all_goals first | omega | skip
  generalize ((w.alloc (.cells #[.slice a1 n1 c1, .int .u32 k1] 25)).alloc (.cells #[.slice a2 n2 c2, .int .u32 k2] 25)) = W1 at *
  have hlt1 : w.heap.size < W1.heap.size := hT1H.out.lt
  have hlt2 : w.heap.size + 1 < W1.heap.size := hT2H.out.lt
  obtain ⟨_, x0, x1, _, _⟩ := hT1H.out
  generalize rightF none xs = bx at *
  generalize rightF none ys = by_ at *
  cases bx with
  | false =>
    go_wp2_with (first
      | (go_at_call 4; (with_reducible refine (hr1.out _ hB0H.out).mono ?_); rintro e w2 ⟨rfl, hb2⟩; replace hb2 := Hid.intro hb2; have hB2 := Hid.intro (hB0H.out.trans (hb2.out.mono hB0H.out.size)))
      | (go_at_call 5; (with_reducible refine (hkn.out _ hB2.out).mono ?_); rintro e w3 ⟨hb3, rfl⟩))
    all_goals first | omega | skip
    go_ret
    exact ⟨rfl, hB2.out.trans (hb3.mono hB2.out.size)⟩
  | true =>
    cases by_ with
    | false =>
      go_wp2_with (first
        | (go_at_call 4; (with_reducible refine (hr1.out _ hB0H.out).mono ?_); rintro e w2 ⟨rfl, hb2⟩; obtain ⟨_, y0, y1, _, _⟩ := hT2H.out.below hb2 hlt2; replace hb2 := Hid.intro hb2; have hB2 := Hid.intro (hB0H.out.trans (hb2.out.mono hB0H.out.size)))
        | (go_at_call 4; (with_reducible refine (hr2.out _ hB2.out).mono ?_); rintro e w3 ⟨rfl, hb3⟩; replace hb3 := Hid.intro hb3; have hB3 := Hid.intro (hB2.out.trans (hb3.out.mono hB2.out.size)))
        | (go_at_call 5; (with_reducible refine (hkn.out _ hB3.out).mono ?_); rintro e w4 ⟨hb4, rfl⟩))
      all_goals first | omega | skip
      go_ret
      exact ⟨rfl, hB3.out.trans (hb4.mono hB3.out.size)⟩
    | true =>
      go_upto_region 3 with (first
        | (go_at_call 4; (with_reducible refine (hr1.out _ hB0H.out).mono ?_); rintro e w2 ⟨rfl, hb2⟩; obtain ⟨_, y0, y1, _, _⟩ := hT2H.out.below hb2 hlt2; replace hb2 := Hid.intro hb2; have hB2 := Hid.intro (hB0H.out.trans (hb2.out.mono hB0H.out.size)))
        | (go_at_call 4; (with_reducible refine (hr2.out _ hB2.out).mono ?_); rintro e w3 ⟨rfl, hb3⟩; replace hb3 := Hid.intro hb3; have hB3 := Hid.intro (hB2.out.trans (hb3.out.mono hB2.out.size))))
      all_goals first | omega | skip
      have hb13 := Hid.intro (chn hb2.out hb3.out)
      have hX3 := Hid.intro (hT1H.out.below hb13.out hlt1)
      have hY3 := Hid.intro (hT2H.out.below hb13.out hlt2)
      have hlx3 : Hid (w.heap.size < w3.heap.size ∧ w.heap.size + 1 < w3.heap.size) := ⟨hX3.out.lt, hY3.out.lt⟩
      clear hb2 hb3 hB2 hb13 hT1H hT2H hB0H hr1 hr2 y0 y1 x0 x1 hlt1 hlt2
      obtain ⟨_, x0, x1, _, _⟩ := hX3.out
      go_upto_region 4 with (go_at_call 6; (with_reducible refine (hRo.out _ hB3.out).mono ?_); rintro e w4 ⟨g, rfl, hg4, hrow4, hb4⟩; replace hrow4 := Hid.intro hrow4; replace hb4 := Hid.intro hb4)
      all_goals first | omega | skip
      have hB4 := Hid.intro (hB3.out.trans (hb4.out.mono hB3.out.size))
      have hX4 := Hid.intro (hX3.out.below hb4.out hlx3.out.1)
      have hY4 := Hid.intro (hY3.out.below hb4.out hlx3.out.2)
      clear x0 x1 hX3 hY3 hlx3 hb4 hRo hB3
      obtain ⟨_, x0, x1, _, _⟩ := hX4.out
      have nn : ¬ w4.heap.size = w.heap.size := Nat.ne_of_gt hX4.out.lt
      have nn' : ¬ w.heap.size = w4.heap.size := fun e => nn e.symm
      have xA := hX4.out.a0
      have xB := hX4.out.a1
      go_cut [8] (fun v8 wx => ∃ q, v8 = .pointer (some ⟨q, 0, none⟩) ∧ Hid (Two wx q 25 (.slice (some ⟨g, 0, none⟩) n1 (n1 + 80)) (.int .u32 k1)) ∧ Hid (Below w4.heap.size w4 wx))
      case first =>
        go_region
        all_goals first | omega | skip
        all_goals (go_wp2_with fail; go_meet)
        all_goals exact ⟨_, rfl, two_of (heap_alloc_new w4 _), (below_alloc w4 _).drew⟩
      case rest =>
        obtain ⟨q, hv8, hQ5, hb5⟩ := hcut
        subst hv8
        have hlt4 : Hid (w.heap.size < w4.heap.size ∧ w.heap.size + 1 < w4.heap.size ∧ g < w4.heap.size) := ⟨hX4.out.lt, hY4.out.lt, hrow4.out.lt⟩
        have hX5 := Hid.intro (hX4.out.below hb5.out hlt4.out.1)
        have hY5 := Hid.intro (hY4.out.below hb5.out hlt4.out.2.1)
        have hrow5 := Hid.intro (hrow4.out.below hb5.out hlt4.out.2.2)
        have hB5 := Hid.intro (hB4.out.trans (hb5.out.mono hB4.out.size))
        clear hlt4 hX4 hY4 hrow4 hb5 hB4 x0 x1 xA xB nn nn' hg4
        generalize wc = w5 at *
        have hK0 := Hid.intro (Bk.Books.start w5)
        have hbk := Hid.intro (below_alloc w5 (.cells #[.slice none 0 0, .slice none 0 0, .int .i64 0, .bool false] 33))
        -- what stays below the book
        have hst : Hid (∀ W, Below w5.heap.size w5 W → (W.cell? ⟨q, 0, none⟩ = some (.slice (some ⟨g, 0, none⟩) n1 (n1 + 80)) ∧ W.cell? ⟨q, 1, none⟩ = some (.int .u32 k1)) ∧ (W.cell? ⟨w.heap.size + 1, 0, none⟩ = some (.slice a2 n2 c2) ∧ W.cell? ⟨w.heap.size + 1, 1, none⟩ = some (.int .u32 k2)) ∧ W.cell? ⟨w.heap.size, 0, none⟩ = some (.slice a1 n1 c1)) := fun W hb => by
          have h1 := hQ5.out.below hb hQ5.out.lt
          have h2 := hY5.out.below hb hY5.out.lt
          have h3 := hX5.out.below hb hX5.out.lt
          exact ⟨⟨h1.c0, h1.c1⟩, ⟨h2.c0, h2.c1⟩, h3.c0⟩
        have hadd1 : Hid (∀ W, Below w5.heap.size w5 W → Calls Tryd.prog 10 #[linV (.slice (some ⟨g, 0, none⟩) n1 (n1 + 80)) k1, linV (.slice a2 n2 c2) k2] W fun e w' => ∃ v, e = .returned v ∧ NewL W w' v) := fun W hb =>
          add_new _ _ _ _ n1 n2 xs ys k1 k2 W hE1.out hE2.out ⟨(hrow5.out.below hb hrow5.out.lt).lies, fun h => by cases h⟩ (hHy.out.below (hB5.out.trans (hb.mono hB5.out.size)) (Nat.le_refl _)) (by omega) (by omega)
        have hadd2 : Hid (∀ W, Below w5.heap.size w5 W → Calls Tryd.prog 10 #[linV (.slice (some ⟨g, 0, none⟩) n1 (n1 + 80)) k1, linV (.slice none 0 0) 0] W fun e w' => ∃ v, e = .returned v ∧ NewL W w' v) := fun W hb =>
          add_new _ _ _ _ n1 0 xs [] k1 0 W hE1.out rfl ⟨(hrow5.out.below hb hrow5.out.lt).lies, fun h => by cases h⟩ ⟨TmLies.nil _ _, fun _ => ⟨rfl, rfl⟩⟩ (by omega) (by omega)
        have htim : Hid (∀ W, Below w5.heap.size w5 W → Calls Tryd.prog 11 #[linV (.slice (some ⟨g, 0, none⟩) n1 (n1 + 80)) k1, .int .u32 1] W fun e w' => ∃ v, e = .returned v ∧ NewL W w' v) := fun W hb =>
          times_new _ _ n1 xs k1 1 W hE1.out ⟨(hrow5.out.below hb hrow5.out.lt).lies, fun h => by cases h⟩ (by omega)
        have hnam := Hid.intro named_new
        go_wp2_with (first
          | (go_at_call 8; (with_reducible refine (hfew.out _).mono ?_); rintro e w6 ⟨rfl, hw6⟩; subst w6)
          | (go_at_call 7; (with_reducible refine (htok.out _).mono ?_); rintro e w7 ⟨hb7, la, tl, lc, la2, lc2, tb, ts, rfl, htl, htm, hts, hown⟩; replace hown := Hid.intro hown; replace hts := Hid.intro hts; replace hb7 := Hid.intro hb7; replace htl := Hid.intro htl))
        all_goals first | omega | skip
        have hb57 := Hid.intro (chn hbk.out hb7.out)
        have hKS : Hid (KS w5 w5.heap.size 0 la lc ts (w5.alloc (.cells #[.slice none 0 0, .slice none 0 0, .int .i64 0, .bool false] 33)).heap.size w7) := ⟨((hK0.out.grow).more hb7.out).grow, hown.out⟩
        clear hown hb7 hK0 hbk hfew htok
        generalize (w5.alloc (.cells #[.slice none 0 0, .slice none 0 0, .int .i64 0, .bool false] 33)).heap.size = lo at *
        have hpar : Hid (∀ W m, KS w5 w5.heap.size m la lc ts lo W → Calls Tryd.prog 13 #[.slice la tl lc] W fun e w' => ∃ v k, e = .returned (.tuple #[v, .int .i64 k]) ∧ NewL W w' v) := fun W m hK =>
          parse_new la lc tl ts W htl.out (toks_own hK.toks (by have := htl.out; omega) hts.out)
        go_loopw [13] (fun i wr => ∃ j : Nat, j ≤ 2 ∧ i = .int .i64 j ∧ Hid (KS w5 w5.heap.size (j * 5) la lc ts lo wr)) (fun i _ => 2 - (intOf i).toNat)
        case atStart => exact ⟨0, by omega, rfl, hKS⟩
        case round =>
          obtain ⟨j, hj, rfl, hK⟩ := hrel
          clear hKS
          by_cases hlt : j < 2
          · have hK1 := hK
            clear hK
            have hfd := fieldL
            obtain ⟨⟨p0, p1⟩, ⟨y0, y1⟩, _⟩ := hst.out _ hK1.out.bel
            go_upto_region 11 with (first
              | (go_at_call 10; (with_reducible refine (hadd1.out _ hK1.out.bel).mono ?_); rintro e v1 ⟨vv, rfl, hN⟩; obtain ⟨hb1, na, nn, nc, nk, rfl, L, hn, hL, ho⟩ := hN; replace hb1 := Hid.intro hb1; replace ho := Hid.intro ho; replace hn := Hid.intro hn; replace hL := Hid.intro hL)
              | (go_at_call 9; (with_reducible refine (hK1.out.keep (by omega) hb1.out hn.out ho.out hL.out).mono ?_); rintro e u1 ⟨rfl, hK2⟩; replace hK2 := Hid.intro hK2; clear hb1 ho hn hL))
            all_goals first | omega | skip
            clear p0 p1 y0 y1 hK1
            obtain ⟨⟨p0, p1⟩, ⟨y0, y1⟩, _⟩ := hst.out _ hK2.out.bel
            go_upto_region 12 with (first
              | (go_at_call 10; (with_reducible refine (hadd2.out _ hK2.out.bel).mono ?_); rintro e v2 ⟨vv, rfl, hN⟩; obtain ⟨hb2, na, nn, nc, nk, rfl, L, hn, hL, ho⟩ := hN; replace hb2 := Hid.intro hb2; replace ho := Hid.intro ho; replace hn := Hid.intro hn; replace hL := Hid.intro hL)
              | (go_at_call 9; (with_reducible refine (hK2.out.keep (by omega) hb2.out hn.out ho.out hL.out).mono ?_); rintro e u2 ⟨rfl, hK3⟩; replace hK3 := Hid.intro hK3; clear hb2 ho hn hL))
            all_goals first | omega | skip
            clear p0 p1 y0 y1 hK2
            obtain ⟨⟨p0, p1⟩, ⟨y0, y1⟩, _⟩ := hst.out _ hK3.out.bel
            go_upto_region 13 with (first
              | (go_at_call 11; (with_reducible refine (htim.out _ hK3.out.bel).mono ?_); rintro e v3 ⟨vv, rfl, hN⟩; obtain ⟨hb3, na, nn, nc, nk, rfl, L, hn, hL, ho⟩ := hN; replace hb3 := Hid.intro hb3; replace ho := Hid.intro ho; replace hn := Hid.intro hn; replace hL := Hid.intro hL)
              | (go_at_call 9; (with_reducible refine (hK3.out.keep (by omega) hb3.out hn.out ho.out hL.out).mono ?_); rintro e u3 ⟨rfl, hK4⟩; replace hK4 := Hid.intro hK4; clear hb3 ho hn hL))
            all_goals first | omega | skip
            clear p0 p1 y0 y1 hK3
            obtain ⟨⟨p0, p1⟩, ⟨y0, y1⟩, _⟩ := hst.out _ hK4.out.bel
            go_upto_region 14 with (first
              | (go_at_call 12; (with_reducible refine (hnam.out _).mono ?_); rintro e v4 ⟨vv, rfl, hN⟩; obtain ⟨hb4, na, nn, nc, nk, rfl, L, hn, hL, ho⟩ := hN; replace hb4 := Hid.intro hb4; replace ho := Hid.intro ho; replace hn := Hid.intro hn; replace hL := Hid.intro hL)
              | (go_at_call 9; (with_reducible refine (hK4.out.keep (by omega) hb4.out hn.out ho.out hL.out).mono ?_); rintro e u4 ⟨rfl, hK5⟩; replace hK5 := Hid.intro hK5; clear hb4 ho hn hL))
            all_goals first | omega | skip
            clear p0 p1 y0 y1 hK4
            go_upto_region 9 with (first
              | (go_at_call 13; (with_reducible refine (hpar.out _ _ hK5.out).mono ?_); rintro e v5 ⟨vv, kk, rfl, hN⟩; obtain ⟨hb5, na, nn, nc, nk, rfl, L, hn, hL, ho⟩ := hN; have hb5' := Hid.intro (hb5.alloc hb5.size (.cells #[.slice na nn nc, .int .u32 nk] 25)); have ho' : Hid (Bk.OwnT (v5.alloc (.cells #[.slice na nn nc, .int .u32 nk] 25)) u4.heap.size na nc L) := ⟨trivial, own_below ho.2 (below_alloc v5 _)⟩; clear hb5 ho; replace hn := Hid.intro hn; replace hL := Hid.intro hL)
              | (go_at_call 9; (with_reducible refine (hK5.out.keep (by omega) hb5'.out hn.out ho'.out hL.out).mono ?_); rintro e u5 ⟨rfl, hK6⟩; replace hK6 := Hid.intro hK6))
            all_goals first | omega | skip
            go_wp2
            all_goals first | omega | skip
            go_roundw
            case rel => exact ⟨j + 1, by omega, by go_num, by rw [show (j + 1) * 5 = j * 5 + 1 + 1 + 1 + 1 + 1 by omega]; exact hK6⟩
            case measure => simp [intOf]; omega
          · obtain rfl : j = 2 := by omega
            have hap := Hid.intro (Bk.apart_books hK.out.books (by omega) (by omega))
            go_wp2_with (first
              | (go_at_call 14; (with_reducible refine (hap.out).mono ?_); rintro e u1 ⟨rfl, hb1⟩; obtain ⟨_, _, x0⟩ := hst.out _ hb1; have hr1 := Hid.intro (hrow5.out.below hb1 hrow5.out.lt); have hBu := Hid.intro (hB5.out.trans (hb1.mono hB5.out.size)))
              | (go_at_call 16; (with_reducible refine (hIn.out _ g hBu.out hr1.out).mono ?_); rintro e u2 ⟨rfl, hb2⟩; have hBv := Hid.intro (hBu.out.trans (hb2.mono hBu.out.size)))
              | (go_at_call 5; (with_reducible refine (hkn.out _ hBv.out).mono ?_); rintro e u3 ⟨hb3, rfl⟩))
            all_goals first | omega | skip
            go_ret
            exact ⟨rfl, hBv.out.trans (hb3.mono hBv.out.size)⟩
end Go.Proofs.YtijdjljnppkhmabDoor

/- expr's part. -/
import Derived.Test.YtijdjljnppkhmabDoorFactor
namespace Go.Proofs.YtijdjljnppkhmabDoor
open Go.ChangeShapes Go.WideShapes Go.ChangeAt Go.RowKit
set_option linter.unusedVariables false
set_option maxRecDepth 100000

theorem own_ne {w : World} {lo : Nat} {v : Value} {n : Nat} {xs : List Value} {p : Nat} {x y : Value} (h : w.ownsRow lo 30 2 v n xs) (hp : Two w p 25 x y) : v.ownBlock ≠ some p := by
  intro e
  obtain ⟨cur, h1⟩ := own_type h e
  rw [hp.heap] at h1
  injection h1 with h1
  injection h1 with _ h1
  cases h1

/-- what is left of a part: x was read, at p -/
structure PMem (w : World) (g p : Nat) (wr : World) : Prop where
  grown : w.grownBy wr (some g)
  res : Two wr w.heap.size 25 (.slice none 0 0) (.int .u32 0)
  size : p + 1 ≤ wr.heap.size
  lt : w.heap.size < p

structure PSt (w : World) (g p : Nat) (W : List Tok → PRes) (N : Nat) (R0 : PRes) (ts : List Tok) (x : Lin) (a : Option Addr) (n c : Nat) (wr : World) : Prop where
  mem : PMem w g p wr
  eq : ∃ f, ts.length ≤ f ∧ R0 = partL W f x ts
  good : GoodL x
  few : x.terms.length + ts.length ≤ N
  rd : ∃ a c, Rd wr g a c ts
  lin : Two wr p 25 (.slice a n c) (.int .u32 x.const)
  own : wr.ownsRow (w.heap.size + 1) 30 2 (.slice a n c) x.terms.length (rowT x.terms)

structure PErr (w : World) (g p : Nat) (R0 : PRes) (k : Int) (wr : World) : Prop where
  mem : PMem w g p wr
  eq : R0 = .error k
  ne : k = 20 ∨ k = 21
  lin : ∃ a n c q, Two wr p 25 (.slice a n c) (.int .u32 q)

theorem partL_no {W : List Tok → PRes} {f : Nat} {x : Lin} {ts : List Tok} (h : headIs 42 ts = false) : partL W f x ts = .ok (x, ts) := by
  cases f with
  | zero => rw [partL]
  | succ f =>
    cases ts with
    | nil => rw [partL]
    | cons t r => rw [partL, if_neg (by rw [show isS t 42 = false from h]; decide)]

theorem partL_yes {W : List Tok → PRes} {f : Nat} {x : Lin} {t : Tok} {r : List Tok} (h : isS t 42 = true) : partL W (f + 1) x (t :: r) = match factorF W r with | .error e => .error e | .ok (y, r') => match productF x y with | none => .error 21 | some z => partL W f z r' := by
  rw [partL, if_pos h]
  cases factorF W r with
  | error e => rfl
  | ok p => obtain ⟨y, q⟩ := p; simp only; cases productF x y <;> rfl

theorem own_kept {w w' : World} {lo : Nat} {T : TypeId} {sz : Nat} {v : Value} {n : Nat} {xs : List Value} {q : Nat} (h : w.ownsRow lo T sz v n xs) (hg : w.grownBy w' (some q)) (hne : v.ownBlock ≠ some q) : w'.ownsRow lo T sz v n xs := h.kept hg (.inr hne)

theorem prod_own (a1 a2 : Option Addr) (n1 c1 n2 c2 : Nat) (x y : Lin) (B1 B2 : Nat) (w : World) (hx : w.ownsRow B1 30 2 (.slice a1 n1 c1) x.terms.length (rowT x.terms)) (hy : w.ownsRow B2 30 2 (.slice a2 n2 c2) y.terms.length (rowT y.terms)) (hl1 : x.terms.length ≤ 4400000) (hl2 : y.terms.length ≤ 4400000) :
    Calls Tryd.prog 43 #[linV (.slice a1 n1 c1) x.const, linV (.slice a2 n2 c2) y.const] w fun e w' => Below w.heap.size w w' ∧
      match productF x y with
      | none => e = .returned (.tuple #[linZ, .int .i64 21])
      | some z => LinOut w.heap.size w' z e := by
  have e1 := own_len hx
  have e2 := own_len hy
  subst e1 e2
  exact product_any a1 a2 c1 c2 x y w (own_tmLies hx) (own_tmLies hy) hl1 hl2

/-- a measure: what is left, while nothing was refused -/
def pleft (g : Nat) (v : Value) (w : World) : Nat := if intOf v = 0 then leftOf g w + 1 else 0

theorem PMem.grown_g {w : World} {g p : Nat} {wr w' : World} (h : PMem w g p wr) (hglt : g < w.heap.size) (hg : wr.grownBy w' (some g)) : PMem w g p w' :=
  ⟨grown_trans h.grown hg, h.res.grown hg (by simp; omega), Nat.le_trans h.size hg.size, h.lt⟩
theorem PMem.below {w : World} {g p : Nat} {wr w' : World} (h : PMem w g p wr) (hb : Below wr.heap.size wr w') : PMem w g p w' :=
  ⟨grown_trans h.grown (grown_wide (grown_of_below hb) _), h.res.below hb (by have := h.size; have := h.lt; omega), Nat.le_trans h.size hb.size, h.lt⟩
/-- a block above the result's is set -/
theorem PMem.high {w : World} {g p : Nat} {wr w' : World} (h : PMem w g p wr) {q : Nat} (hq : w.heap.size < q) (s2 : wr.grownBy w' (some q)) : PMem w g p w' :=
  ⟨⟨s2.os.trans h.grown.os, s2.tape.trans h.grown.tape, s2.output.trans h.grown.output, Nat.le_trans h.grown.size s2.size, fun k hk hne => by rw [s2.block k (Nat.lt_of_lt_of_le hk h.grown.size) (fun e => by injection e with e; omega), h.grown.block k hk hne]⟩, h.res.grown s2 (by simp; omega), Nat.le_trans h.size s2.size, h.lt⟩

set_option maxHeartbeats 4000000 in
theorem part_any (a0 : Option Addr) (c0 g : Nat) (I : World → Prop) (lb : Array Value) (W : List Tok → PRes) (hW : Within g I lb W) (ts0 : List Tok) (w : World) (hI : I w) (h : Rd w g a0 c0 ts0) :
    Calls Tryd.prog 29 #[.pointer (some ⟨g, 0, none⟩), .func (.func 27) #[] lb] w fun e w' => FOut w g (partF W ts0) e w' := by
  have hglt := h.lt
  have hfew := h.few
  have hWH := Hid.intro hW
  have hIH := Hid.intro hI
  have hkeep := Hid.intro (fun wr (hg : w.grownBy wr (some g)) => hW.keep w wr hI hg)
  have hfac := Hid.intro (fun (w1 : World) (a : Option Addr) (c : Nat) (ts : List Tok) (hI1 : I w1) (hR : Rd w1 g a c ts) => factor_any a c g I lb W hW ts w1 hI1 hR)
  have hff := Hid.intro (factorF_fine hW.fine)
  have h0 := Hid.intro (hfac.out (w.alloc (.cells #[.slice none 0 0, .int .u32 0] 25)) a0 c0 ts0 (hW.keep w _ hI (World.grownBy_alloc w _ _)) (h.below (below_alloc w _)))
  obtain ⟨R0, hR0⟩ : ∃ R0, R0 = partF W ts0 := ⟨_, rfl⟩
  rw [← hR0]
  have ht0 := two_new w 25 (.slice none 0 0) (.int .u32 0)
  have hsz0 : (w.alloc (.cells #[.slice none 0 0, .int .u32 0] 25)).heap.size = w.heap.size + 1 := by simp
  -- the loop, whatever the first factor gave
  have hloopE : ∀ (k : Int), factorF W ts0 = .error k → R0 = .error k := fun k hk => by rw [hR0]; unfold partF; rw [hk]
  have hloopO : ∀ (x : Lin) (r : List Tok), factorF W ts0 = .ok (x, r) → R0 = partL W r.length x r := fun x r hk => by rw [hR0]; unfold partF; rw [hk]
  have hst : Hid (∀ e w1, FOut (w.alloc (.cells #[.slice none 0 0, .int .u32 0] 25)) g (factorF W ts0) e w1 → ∃ a n c q k, e = .returned (.tuple #[linV (.slice a n c) q, .int .i64 k]) ∧
      ((k = 0 ∧ ∃ ts x, q = x.const ∧ PSt w g w1.heap.size W ts0.length R0 ts x a n c (w1.alloc (.cells #[.slice a n c, .int .u32 q] 25))) ∨ PErr w g w1.heap.size R0 k (w1.alloc (.cells #[.slice a n c, .int .u32 q] 25)))) := by
    intro e w1 hF
    have hg := hF.1
    have hs := hg.size
    rw [hsz0] at hs
    have hmem : ∀ o, PMem w g w1.heap.size (w1.alloc o) := fun o =>
      ⟨grown_trans (grown_trans (World.grownBy_alloc w _ _) hg) (World.grownBy_alloc _ _ _), (ht0.grown hg (by simp; omega)).alloc _, by simp, by omega⟩
    cases hf : factorF W ts0 with
    | error k =>
      have h2 := hF.2
      rw [hf] at h2
      obtain ⟨a, n, c, q, rfl⟩ := h2
      exact ⟨a, n, c, q, k, rfl, .inr ⟨hmem _, hloopE k hf, hff.out.2 _ _ hf, a, n, c, q, two_new _ _ _ _⟩⟩
    | ok p =>
      obtain ⟨x, r⟩ := p
      have h2 := hF.2
      rw [hf] at h2
      obtain ⟨⟨a, n, c, rfl, hown⟩, a1, c1, hR⟩ := h2
      have hl := hff.out.1 _ _ _ hf
      rw [hsz0] at hown
      exact ⟨a, n, c, x.const, 0, rfl, .inl ⟨rfl, r, x, rfl, hmem _, ⟨r.length, Nat.le_refl _, hloopO x r hf⟩, hl.2.2, hl.2.1, ⟨a1, c1, hR.below (below_alloc _ _)⟩, two_new _ _ _ _, hown.alloc _⟩⟩
  clear h hW hI hR0 hloopE hloopO ht0
  go_enter Tryd.func29, Tryd.ntmps29
  go_wp2_with (go_at_call 42; (with_reducible refine (h0.out).mono ?_); intro e w1 hF; obtain ⟨a, n, c, q, k, rfl, hS0⟩ := hst.out e w1 hF; replace hS0 := Hid.intro hS0; clear hF)
  all_goals first | omega | skip
  obtain ⟨p, hp⟩ : ∃ p, p = w1.heap.size := ⟨_, rfl⟩
  rw [← hp] at hS0 ⊢
  clear hp h0 hst
  go_loopw [7] (fun v7 wr => ∃ (k : Int), v7 = .int .i64 k ∧ Hid ((k = 0 ∧ ∃ ts x a n c, PSt w g p W ts0.length R0 ts x a n c wr) ∨ PErr w g p R0 k wr)) (fun v7 wr => pleft g v7 wr)
  case atStart =>
    refine ⟨k, rfl, ?_⟩
    rcases hS0.out with ⟨hk, ts, x, hq, hS⟩ | hE
    · exact .inl ⟨hk, ts, x, a, n, c, hS⟩
    · exact .inr hE
  case round =>
    clear hS0
    obtain ⟨k, rfl, hS⟩ := hrel
    rcases hS.out with ⟨rfl, ts, x, a2, n2, c2, hA⟩ | hE
    · have hAH := Hid.intro hA
      obtain ⟨_, x0, x1, xf0, xf1⟩ := hA.lin
      obtain ⟨a3, c3, hR⟩ := hA.rd
      have hRH := Hid.intro hR
      have hN := hA.few
      have hm1 := hA.mem.size
      have hm2 := hA.mem.lt
      clear hA hR hS
      cases hm : headIs 42 ts
      · have hno := Hid.intro (take_no a3 c3 g 42 ts wr hRH.out hm)
        have hF : Hid (R0 = .ok (x, ts)) := by
          obtain ⟨f, _, hf⟩ := hAH.out.eq
          show R0 = _
          rw [hf, partL_no hm]
        clear hm
        go_wp2_with (go_at_call 28; with_reducible refine (hno.out).mono ?_; rintro e w2 ⟨rfl, hg2, a4, c4, hR2⟩; replace hR2 := Hid.intro hR2; obtain ⟨_, y0, y1, _, _⟩ := hAH.out.lin.grown hg2 (by simp; omega); obtain ⟨th, t0, t1, tf0, tf1⟩ := hAH.out.mem.res.grown hg2 (by simp; omega); replace th := Hid.intro th)
        all_goals first | omega | skip
        obtain ⟨s1, s2⟩ := two_set th.out rfl (.slice a2 n2 c2) (.int .u32 x.const)
        generalize (((w2).setCell ⟨w.heap.size, 0, none⟩ (.slice a2 n2 c2)).setCell ⟨w.heap.size, 1, none⟩ (.int .u32 x.const)) = w9 at s1 s2 ⊢
        obtain ⟨_, z0, z1, _, _⟩ := s1
        refine bodyPost_ret (by simp [results, Tryd.results29, go_sem, z0, z1]; try rfl) rfl ?_
        rw [hF.out]
        have hs2 := hg2.size
        exact ⟨grown_res (grown_trans hAH.out.mem.grown hg2) s2, ⟨_, _, _, rfl, own_weaken (own_low (own_low hAH.out.own hg2 (by omega)) s2 (by omega)) (by omega)⟩, a4, c4, hR2.out.grown s2 (by simp; omega) (fun x hx => by have := hR2.out.ne x hx; simp; omega)⟩
      · obtain ⟨t, r, rfl, ht⟩ : ∃ t r, ts = t :: r ∧ isS t 42 = true := by
          cases ts with
          | nil => cases hm
          | cons t r => exact ⟨t, r, rfl, hm⟩
        have hyes := Hid.intro (take_yes a3 c3 g 42 t r wr hRH.out ht)
        obtain ⟨f, hf1, hf2⟩ := hAH.out.eq
        simp only [List.length_cons] at hf1 hN
        obtain ⟨f, rfl⟩ : ∃ f', f = f' + 1 := ⟨f - 1, by omega⟩
        rw [partL_yes ht] at hf2
        have hleft := Hid.intro hRH.out.left
        clear hm ht
        have hfr := fun (w2 : World) (a4 : Option Addr) (c4 : Nat) (hg2 : wr.grownBy w2 (some g)) (hR2 : Rd w2 g a4 c4 r) => hfac.out (w2.alloc (.cells #[.slice none 0 0, .int .u32 0] 25)) a4 c4 r (hWH.out.keep _ _ (hkeep.out _ (grown_trans hAH.out.mem.grown hg2)) (World.grownBy_alloc _ _ _)) (hR2.below (below_alloc _ _))
        cases hfR : factorF W r with
        | error k =>
          have hk := hff.out.2 _ _ hfR
          have hkz : (k == 0) = false := by rcases hk with rfl | rfl <;> rfl
          have hkH := Hid.intro hk
          rw [hfR] at hfr hf2
          have hfrH := Hid.intro hfr
          have hFE : Hid (R0 = .error k) := hf2
          clear hfr hf2 hfR hk
          go_wp2_with (first
            | (go_at_call 28; with_reducible refine (hyes.out).mono ?_; rintro e w2 ⟨rfl, hg2, a4, c4, hR2⟩; replace hR2 := Hid.intro hR2)
            | (go_at_call 42; (with_reducible refine (hfrH.out _ _ _ hg2 hR2.out).mono ?_); rintro e w3 ⟨hg3, ay, ny, cy, qy, rfl⟩; have hg23 := grown_trans hg2 (grown_trans (World.grownBy_alloc _ _ _) hg3); have hw2s := hg2.size; obtain ⟨yh, y0, y1, yf0, yf1⟩ := (two_new w2 25 (.slice none 0 0) (.int .u32 0)).grown hg3 (by simp; omega); replace yh := Hid.intro yh))
          all_goals first | omega | skip
          go_roundw
          case rel =>
            obtain ⟨s1, s2⟩ := two_set yh.out rfl (.slice ay ny cy) (.int .u32 qy)
            have hl3 := (hAH.out.lin.grown hg23 (by simp; omega)).grown s2 (by simp; omega)
            exact ⟨k, rfl, Hid.intro (.inr ⟨(hAH.out.mem.grown_g hglt hg23).high (by omega) s2, hFE.out, hkH.out, a2, n2, c2, x.const, hl3⟩)⟩
          case measure =>
            have hk0 : k ≠ 0 := by rcases hkH.out with rfl | rfl <;> decide
            simp [pleft, intOf, hk0]
        | ok yr =>
          obtain ⟨y, r'⟩ := yr
          have hless := hff.out.1 _ _ _ hfR
          have hl1 := hless.1
          have hl2 := hless.2.1
          have hgy := Hid.intro hless.2.2
          rw [hfR] at hfr hf2
          simp only at hf2
          have hfrH := Hid.intro hfr
          have hpr := fun (w5 : World) (a1 b1 : Option Addr) (n1 d1 m1 e1 : Nat) (B1 B2 : Nat) (h1 : w5.ownsRow B1 30 2 (.slice a1 n1 d1) x.terms.length (rowT x.terms)) (h2 : w5.ownsRow B2 30 2 (.slice b1 m1 e1) y.terms.length (rowT y.terms)) => prod_own a1 b1 n1 d1 m1 e1 x y B1 B2 w5 h1 h2 (by omega) (by omega)
          cases hP : productF x y with
          | none =>
            rw [hP] at hpr hf2
            have hprH := Hid.intro hpr
            have hFE : Hid (R0 = .error 21) := hf2
            clear hfr hf2 hfR hpr hP hless
            go_wp2_with (first
              | (go_at_call 28; with_reducible refine (hyes.out).mono ?_; rintro e w2 ⟨rfl, hg2, a4, c4, hR2⟩; replace hR2 := Hid.intro hR2)
              | (go_at_call 42; (with_reducible refine (hfrH.out _ _ _ hg2 hR2.out).mono ?_); rintro e w3 ⟨hg3, ⟨ay, ny, cy, rfl, hownY⟩, a5, c5, hR5⟩; replace hownY := Hid.intro hownY; replace hR5 := Hid.intro hR5; have hg23 := grown_trans hg2 (grown_trans (World.grownBy_alloc _ _ _) hg3); have hw2s := hg2.size; have hyy := (two_new w2 25 (.slice none 0 0) (.int .u32 0)).grown hg3 (by simp; omega); have hyset := Hid.intro (two_set hyy.heap rfl (.slice ay ny cy) (.int .u32 y.const)); have hyyH := Hid.intro hyy; obtain ⟨_, y0, y1, yf0, yf1⟩ := hyy; have hxx := hAH.out.lin.grown hg23 (by simp; omega); have hxxH := Hid.intro hxx; obtain ⟨_, z0, z1, zf0, zf1⟩ := hxx; have hne1 : ¬ p = w2.heap.size := (by omega); have hne2 : ¬ w2.heap.size = p := (by omega); have hownX := Hid.intro (own_low hAH.out.own hg23 (by omega)); have hX2 := Hid.intro (own_kept hownX.out hyset.out.2 (own_ne hownX.out hyyH.out)); have hY2 := Hid.intro (own_kept hownY.out hyset.out.2 (own_ne hownY.out hyyH.out)))
              | (go_at_call 43; (with_reducible refine (hprH.out _ _ _ _ _ _ _ _ _ hX2.out hY2.out).mono ?_); rintro e w5 ⟨hb5, rfl⟩; obtain ⟨ph, p0, p1, pf0, pf1⟩ := (hxxH.out.grown hyset.out.2 (by simp; omega)).below hb5 (by have := hyset.out.2.size; have := hg23.size; omega); replace ph := Hid.intro ph))
            all_goals first | omega | skip
            go_roundw
            case rel =>
              obtain ⟨s1, s2⟩ := two_set ph.out rfl (.slice none 0 0) (.int .u32 0)
              exact ⟨21, rfl, Hid.intro (.inr ⟨(((hAH.out.mem.grown_g hglt hg23).high (by omega) hyset.out.2).below hb5).high hm2 s2, hFE.out, .inr rfl, none, 0, 0, 0, s1⟩)⟩
            case measure => simp [pleft, intOf]
          | some z =>
            rw [hP] at hpr hf2
            have hprH := Hid.intro hpr
            have hgz := Hid.intro (productF_good hAH.out.good hgy.out hP)
            have hFE : Hid (R0 = partL W f z r') := hf2
            clear hfr hf2 hfR hpr hP hless
            go_wp2_with (first
              | (go_at_call 28; with_reducible refine (hyes.out).mono ?_; rintro e w2 ⟨rfl, hg2, a4, c4, hR2⟩; replace hR2 := Hid.intro hR2)
              | (go_at_call 42; (with_reducible refine (hfrH.out _ _ _ hg2 hR2.out).mono ?_); rintro e w3 ⟨hg3, ⟨ay, ny, cy, rfl, hownY⟩, a5, c5, hR5⟩; replace hownY := Hid.intro hownY; replace hR5 := Hid.intro hR5; have hg23 := grown_trans hg2 (grown_trans (World.grownBy_alloc _ _ _) hg3); have hw2s := hg2.size; have hyy := (two_new w2 25 (.slice none 0 0) (.int .u32 0)).grown hg3 (by simp; omega); have hyset := Hid.intro (two_set hyy.heap rfl (.slice ay ny cy) (.int .u32 y.const)); have hyyH := Hid.intro hyy; obtain ⟨_, y0, y1, yf0, yf1⟩ := hyy; have hxx := hAH.out.lin.grown hg23 (by simp; omega); have hxxH := Hid.intro hxx; obtain ⟨_, z0, z1, zf0, zf1⟩ := hxx; have hne1 : ¬ p = w2.heap.size := (by omega); have hne2 : ¬ w2.heap.size = p := (by omega); have hownX := Hid.intro (own_low hAH.out.own hg23 (by omega)); have hX2 := Hid.intro (own_kept hownX.out hyset.out.2 (own_ne hownX.out hyyH.out)); have hY2 := Hid.intro (own_kept hownY.out hyset.out.2 (own_ne hownY.out hyyH.out)))
              | (go_at_call 43; (with_reducible refine (hprH.out _ _ _ _ _ _ _ _ _ hX2.out hY2.out).mono ?_); rintro e w5 ⟨hb5, az, nz, cz, rfl, hownZ⟩; replace hownZ := Hid.intro hownZ; obtain ⟨ph, p0, p1, pf0, pf1⟩ := (hxxH.out.grown hyset.out.2 (by simp; omega)).below hb5 (by have := hyset.out.2.size; have := hg23.size; omega); replace ph := Hid.intro ph))
            all_goals first | omega | skip
            go_roundw
            case rel =>
              obtain ⟨s1, s2⟩ := two_set ph.out rfl (.slice az nz cz) (.int .u32 z.const)
              have hz5 := hyset.out.2.size
              have hz6 := hg23.size
              have hz7 := hb5.size
              refine ⟨0, rfl, Hid.intro (.inl ⟨rfl, r', z, az, nz, cz, (((hAH.out.mem.grown_g hglt hg23).high (by omega) hyset.out.2).below hb5).high hm2 s2, ⟨f, by omega, hFE.out⟩, hgz.out.1, ?_, ⟨a5, c5, ?_⟩, s1, ?_⟩)⟩
              · rcases hgz.out.2 with h | h <;> omega
              · exact ((hR5.out.grown hyset.out.2 (by simp; omega) (fun x hx => by have := hR5.out.ne x hx; simp; omega)).below hb5).grown s2 (by simp; omega) (fun x hx => by have := hR5.out.ne x hx; simp; omega)
              · exact own_weaken (own_low hownZ.out s2 (by omega)) (by omega)
            case measure =>
              obtain ⟨s1, s2⟩ := two_set ph.out rfl (.slice az nz cz) (.int .u32 z.const)
              have hR9 := ((hR5.out.grown hyset.out.2 (by simp; omega) (fun x hx => by have := hR5.out.ne x hx; simp; omega)).below hb5).grown s2 (by simp; omega) (fun x hx => by have := hR5.out.ne x hx; simp; omega)
              simp only [pleft, intOf, if_true]
              rw [hR9.left, hleft.out]
              simp
              omega
    · obtain ⟨a5, n5, c5, q5, hlin⟩ := hE.lin
      have hEH := Hid.intro hE
      have hkz : (k == 0) = false := by rcases hE.ne with rfl | rfl <;> rfl
      obtain ⟨_, x0, x1, _, _⟩ := hlin
      obtain ⟨th, t0, t1, tf0, tf1⟩ := hE.mem.res
      replace th := Hid.intro th
      clear hE hS
      go_wp2
      all_goals first | omega | skip
      obtain ⟨s1, s2⟩ := two_set th.out rfl (.slice a5 n5 c5) (.int .u32 q5)
      generalize (((wr).setCell ⟨w.heap.size, 0, none⟩ (.slice a5 n5 c5)).setCell ⟨w.heap.size, 1, none⟩ (.int .u32 q5)) = w9 at s1 s2 ⊢
      obtain ⟨_, z0, z1, _, _⟩ := s1
      refine bodyPost_ret (by simp [results, Tryd.results29, go_sem, z0, z1]; try rfl) rfl ?_
      rw [hEH.out.eq]
      exact ⟨grown_res hEH.out.mem.grown s2, _, _, _, _, rfl⟩
end Go.Proofs.YtijdjljnppkhmabDoor

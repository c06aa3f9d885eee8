/- expr's factor. -/
import Derived.Test.YtijdjljnppkhmabDoorSingle
namespace Go.Proofs.YtijdjljnppkhmabDoor
open Go.ChangeShapes Go.WideShapes Go.ChangeAt Go.RowKit
set_option linter.unusedVariables false
set_option maxRecDepth 100000

/-- what a sum answers: of a refusal the empty Lin -/
def WOut (w : World) (g : Nat) (R : PRes) (e : Ending) (w' : World) : Prop := w.grownBy w' (some g) ∧
  match R with
  | .ok (x, r) => LinOut w.heap.size w' x e ∧ ∃ a c, Rd w' g a c r
  | .error k => e = .returned (.tuple #[linZ, .int .i64 k])

/-- what a factor, a part answers: of a refusal some Lin -/
def FOut (w : World) (g : Nat) (R : PRes) (e : Ending) (w' : World) : Prop := w.grownBy w' (some g) ∧
  match R with
  | .ok (x, r) => LinOut w.heap.size w' x e ∧ ∃ a c, Rd w' g a c r
  | .error k => ∃ a n c q, e = .returned (.tuple #[linV (.slice a n c) q, .int .i64 k])

/-- what within is: a closure that reads as W says, wherever I holds -/
structure Within (g : Nat) (I : World → Prop) (lb : Array Value) (W : List Tok → PRes) : Prop where
  keep : ∀ w w', I w → w.grownBy w' (some g) → I w'
  fine : Fine W
  runs : ∀ w a c ts, I w → Rd w g a c ts → Calls Tryd.prog 27 lb w fun e w' => WOut w g (W ts) e w'

theorem minus_yes {t : Tok} {r : List Tok} {c : Int} (h : isS t 45 = true) : minusF (t :: r) c = minusF r ((-c) % 4294967296) := by rw [minusF, if_pos h]
theorem minus_no {ts : List Tok} {c : Int} (h : headIs 45 ts = false) : minusF ts c = (c, ts) := by
  cases ts with
  | nil => rfl
  | cons t r => rw [minusF, if_neg (by rw [show isS t 45 = false from h]; decide)]

/-- how many tokens are left, by the reader's cell -/
def leftOf (g : Nat) (w : World) : Nat :=
  match w.cell? ⟨g, 0, none⟩ with
  | some (.slice _ n _) => n
  | _ => 0

theorem Rd.left {w : World} {g : Nat} {a : Option Addr} {c : Nat} {ts : List Tok} (h : Rd w g a c ts) : leftOf g w = ts.length := by
  unfold leftOf
  rw [h.c0]

/-- ahead of a factor: what is left, the coefficient -/
structure FSt (w : World) (g : Nat) (ts0 : List Tok) (ts : List Tok) (k : Int) (wr : World) : Prop where
  eq : minusF ts0 1 = minusF ts k
  rd : ∃ a c, Rd wr g a c ts
  grown : w.grownBy wr (some g)
  res : Two wr w.heap.size 25 (.slice none 0 0) (.int .u32 0)
  size : w.heap.size + 1 ≤ wr.heap.size

theorem FSt.step {w : World} {g : Nat} {ts0 ts ts' : List Tok} {k k' : Int} {wr w' : World} (h : FSt w g ts0 ts k wr) (hglt : g < w.heap.size) (hg : wr.grownBy w' (some g)) (hr : ∃ a c, Rd w' g a c ts') (he : minusF ts k = minusF ts' k') : FSt w g ts0 ts' k' w' :=
  ⟨h.eq.trans he, hr, grown_trans h.grown hg, h.res.grown hg (by simp; omega), Nat.le_trans h.size hg.size⟩

theorem single_cases (k : Int) (W : List Tok → PRes) (ts : List Tok) (h : headIs 40 ts = false) :
    (bareF W k ts = .error 20 ∧ ∀ w g a c, Rd w g a c ts → Calls Tryd.prog 50 #[.pointer (some ⟨g, 0, none⟩)] w fun e w' => e = .returned (.tuple #[linZ, .int .i64 20]) ∧ w.grownBy w' (some g)) ∨
    ∃ x r, Canon x.terms ∧ x.terms.length ≤ 1 ∧ bareF W k ts = .ok (timesL x k, r) ∧ ∀ w g a c, Rd w g a c ts → Calls Tryd.prog 50 #[.pointer (some ⟨g, 0, none⟩)] w fun e w' => LinOut w.heap.size w' x e ∧ w.grownBy w' (some g) ∧ ∃ a c, Rd w' g a c r := by
  cases ts with
  | nil =>
    refine .inl ⟨rfl, fun w g a c hR => (single_any a c g [] w hR).mono ?_⟩
    rintro e w' ⟨h1, h2⟩
    exact ⟨h2, h1⟩
  | cons t r =>
    have hb : bareF W k (t :: r) = match singleF t with | none => .error 20 | some x => .ok (timesL x k, r) := by rw [bareF, if_neg (by rw [show isS t 40 = false from h]; decide)]; cases singleF t <;> rfl
    cases hs : singleF t with
    | none =>
      refine .inl ⟨by rw [hb, hs], fun w g a c hR => (single_any a c g (t :: r) w hR).mono ?_⟩
      rintro e w' ⟨h1, h2, h3⟩
      rw [hs] at h3
      exact ⟨h3, h1⟩
    | some x =>
      refine .inr ⟨x, r, singleF_good hs, singleF_len hs, by rw [hb, hs], fun w g a c hR => (single_any a c g (t :: r) w hR).mono ?_⟩
      rintro e w' ⟨h1, h2, h3⟩
      rw [hs] at h3
      exact ⟨h3, h1, h2⟩

theorem grown_res {w w4 w9 : World} {g : Nat} (h : w.grownBy w4 (some g)) (s2 : w4.grownBy w9 (some w.heap.size)) : w.grownBy w9 (some g) :=
  ⟨s2.os.trans h.os, s2.tape.trans h.tape, s2.output.trans h.output, Nat.le_trans h.size s2.size, fun k hk hne => by rw [s2.block k (Nat.lt_of_lt_of_le hk h.size) (fun e => by injection e with e; omega), h.block k hk hne]⟩

/-- Times, at the end of a factor -/
theorem times_nil (k : Int) (w : World) : Calls Tryd.prog 11 #[linZ, .int .u32 k] w fun e w' => Below w.heap.size w w' ∧ ∃ a c q, e = .returned (linV (.slice a 0 c) q) := by
  refine (times_any none 0 [] 0 k (by simp) w (TmLies.nil _ _)).mono ?_
  rintro e w' ⟨hb, v, rfl, hown⟩
  obtain ⟨a, c, rfl⟩ := own_slice hown
  exact ⟨hb, a, c, _, rfl⟩

theorem times_lin (x : Lin) (k : Int) (B : Nat) (a : Option Addr) (n c : Nat) (hl : x.terms.length ≤ 4400000) (w : World) (h : w.ownsRow B 30 2 (.slice a n c) x.terms.length (rowT x.terms)) :
    Calls Tryd.prog 11 #[linV (.slice a n c) x.const, .int .u32 k] w fun e w' => Below w.heap.size w w' ∧ ∃ a' n' c', e = .returned (linV (.slice a' n' c') (timesL x k).const) ∧ w'.ownsRow w.heap.size 30 2 (.slice a' n' c') (timesL x k).terms.length (rowT (timesL x k).terms) := by
  have hn := own_len h
  subst hn
  refine (times_any a c x.terms x.const k hl w (own_tmLies h)).mono ?_
  rintro e w' ⟨hb, v, rfl, hown⟩
  obtain ⟨a', c', rfl⟩ := own_slice hown
  exact ⟨hb, a', _, c', rfl, hown⟩

/-- the same, one block further on -/
theorem take_no1 (a : Option Addr) (cc g : Nat) (c : UInt8) (ts : List Tok) (W : World) (O : Obj) (h : Rd W g a cc ts) (hs : headIs c ts = false) :
    Calls Tryd.prog 28 #[.pointer (some ⟨g, 0, none⟩), .slice (some ⟨W.heap.size + 1, 0, none⟩) 1 1] ((W.alloc O).alloc (.cells #[.string ⟨#[c]⟩] 9)) fun e w' => e = .returned (.string ⟨#[]⟩) ∧ (W.alloc O).grownBy w' (some g) ∧ ∃ a' c', Rd w' g a' c' ts := by
  have := take_no a cc g c ts (W.alloc O) (h.below (below_alloc W O)) hs
  rwa [show (W.alloc O).heap.size = W.heap.size + 1 by simp] at this
theorem take_yes1 (a : Option Addr) (cc g : Nat) (c : UInt8) (t : Tok) (r : List Tok) (W : World) (O : Obj) (h : Rd W g a cc (t :: r)) (hs : isS t c = true) :
    Calls Tryd.prog 28 #[.pointer (some ⟨g, 0, none⟩), .slice (some ⟨W.heap.size + 1, 0, none⟩) 1 1] ((W.alloc O).alloc (.cells #[.string ⟨#[c]⟩] 9)) fun e w' => e = .returned (.string ⟨#[c]⟩) ∧ (W.alloc O).grownBy w' (some g) ∧ ∃ a' c', Rd w' g a' c' r := by
  have := take_yes a cc g c t r (W.alloc O) (h.below (below_alloc W O)) hs
  rwa [show (W.alloc O).heap.size = W.heap.size + 1 by simp] at this

set_option maxHeartbeats 2000000 in
theorem factor_any (a0 : Option Addr) (c0 g : Nat) (I : World → Prop) (lb : Array Value) (W : List Tok → PRes) (hW : Within g I lb W) (ts0 : List Tok) (w : World) (hI : I w) (h : Rd w g a0 c0 ts0) :
    Calls Tryd.prog 42 #[.pointer (some ⟨g, 0, none⟩), .func (.func 27) #[] lb] w fun e w' => FOut w g (factorF W ts0) e w' := by
  have hglt := h.lt
  have hstart : Hid (FSt w g ts0 ts0 1 (w.alloc (.cells #[.slice none 0 0, .int .u32 0] 25))) := ⟨rfl, ⟨a0, c0, h.below (below_alloc w _)⟩, World.grownBy_alloc w _ _, two_new w 25 _ _, by simp⟩
  have hWH := Hid.intro hW
  have hIH := Hid.intro hI
  obtain ⟨R0, hR0⟩ : ∃ R0, R0 = factorF W ts0 := ⟨_, rfl⟩
  rw [← hR0]
  have hR0H := Hid.intro hR0
  clear h hW hI hR0
  go_enter Tryd.func42, Tryd.ntmps42
  go_wp2
  go_loopw [6] (fun v6 wr => ∃ (ts : List Tok) (k : Int), v6 = .int .u32 k ∧ Hid (FSt w g ts0 ts k wr)) (fun v6 wr => leftOf g wr)
  case atStart => exact ⟨ts0, 1, rfl, hstart⟩
  case round =>
    clear hstart
    obtain ⟨ts, k, rfl, hS⟩ := hrel
    obtain ⟨a1, c1, hR⟩ := hS.out.rd
    have hRH := Hid.intro hR
    clear hR
    cases hm : headIs 45 ts
    · have hno := Hid.intro (take_no a1 c1 g 45 ts wr hRH.out hm)
      have hF : Hid (R0 = bareF W k ts) := by show R0 = _; rw [hR0H.out]; unfold factorF; rw [hS.out.eq, minus_no hm]
      clear hm
      cases hp : headIs 40 ts
      · have hp2 := Hid.intro (fun (w1 : World) (a2 : Option Addr) (c2 : Nat) (h : Rd w1 g a2 c2 ts) => take_no a2 c2 g 40 ts w1 h hp)
        rcases single_cases k W ts hp with ⟨hb, hsg⟩ | ⟨x, r, hx1, hx2, hb, hsg⟩
        · have hFE : Hid (R0 = .error 20) := by show R0 = _; rw [hF.out, hb]
          replace hsg := Hid.intro hsg
          clear hb hp hF
          have hsres := fun (w3 : World) (h1 : wr.grownBy w3 (some g)) => hS.out.res.grown h1 (by simp; omega)
          have hsz := hS.out.size
          go_wp2_with (first
            | (go_at_call 28; with_reducible refine (hno.out).mono ?_; rintro e w1 ⟨rfl, hg1, a2, c2, hR2⟩; replace hR2 := Hid.intro hR2)
            | (go_at_call 28; with_reducible refine (hp2.out _ _ _ hR2.out).mono ?_; rintro e w2 ⟨rfl, hg2, a3, c3, hR3⟩; replace hR3 := Hid.intro hR3)
            | (go_at_call 50; (with_reducible refine (hsg.out _ _ _ _ hR3.out).mono ?_); rintro e w3 ⟨rfl, hg3⟩; have hg13 := grown_trans (grown_trans hg1 hg2) hg3)
            | (go_at_call 11; with_reducible refine (times_nil k _).mono ?_; rintro e w4 ⟨hb4, a5, c5, q5, rfl⟩; obtain ⟨th, t0, t1, tf0, tf1⟩ := (hsres _ hg13).below (one_below hb4) (by have := hg13.size; omega); replace th := Hid.intro th))
          all_goals first | omega | skip
          obtain ⟨s1, s2⟩ := two_set th.out rfl (.slice a5 0 c5) (.int .u32 q5)
          generalize (((w4).setCell ⟨w.heap.size, 0, none⟩ (.slice a5 0 c5)).setCell ⟨w.heap.size, 1, none⟩ (.int .u32 q5)) = w9 at s1 s2 ⊢
          obtain ⟨_, z0, z1, _, _⟩ := s1
          refine bodyPost_ret (by simp [results, Tryd.results42, go_sem, z0, z1]; try rfl) rfl ?_
          rw [hFE.out]
          exact ⟨grown_res (grown_trans hS.out.grown (grown_trans hg13 (grown_wide (grown_of_below (one_below hb4)) _))) s2, _, _, _, _, rfl⟩
        · have hFE : Hid (R0 = .ok (timesL x k, r)) := by show R0 = _; rw [hF.out, hb]
          replace hsg := Hid.intro hsg
          have hx2H := Hid.intro hx2
          have hTL := Hid.intro (fun (B : Nat) (a : Option Addr) (n c : Nat) (w : World) h => times_lin x k B a n c (by omega) w h)
          clear hb hp hF hx1 hx2
          have hsres := fun (w3 : World) (h1 : wr.grownBy w3 (some g)) => hS.out.res.grown h1 (by simp; omega)
          have hsz := hS.out.size
          go_wp2_with (first
            | (go_at_call 28; with_reducible refine (hno.out).mono ?_; rintro e w1 ⟨rfl, hg1, a2, c2, hR2⟩; replace hR2 := Hid.intro hR2)
            | (go_at_call 28; with_reducible refine (hp2.out _ _ _ hR2.out).mono ?_; rintro e w2 ⟨rfl, hg2, a3, c3, hR3⟩; replace hR3 := Hid.intro hR3)
            | (go_at_call 50; (with_reducible refine (hsg.out _ _ _ _ hR3.out).mono ?_); rintro e w3 ⟨⟨a4, n4, c4, rfl, hown4⟩, hg3, a6, c6, hR6⟩; replace hR6 := Hid.intro hR6; replace hown4 := Hid.intro hown4; have hg13 := grown_trans (grown_trans hg1 hg2) hg3)
            | (go_at_call 11; with_reducible refine (hTL.out _ _ _ _ _ (hown4.out.alloc _)).mono ?_; rintro e w4 ⟨hb4, a5, n5, c5, rfl, hown5⟩; replace hown5 := Hid.intro hown5; obtain ⟨th, t0, t1, tf0, tf1⟩ := (hsres _ hg13).below (one_below hb4) (by have := hg13.size; omega); replace th := Hid.intro th))
          all_goals first | omega | skip
          obtain ⟨s1, s2⟩ := two_set th.out rfl (.slice a5 n5 c5) (.int .u32 (timesL x k).const)
          generalize (((w4).setCell ⟨w.heap.size, 0, none⟩ (.slice a5 n5 c5)).setCell ⟨w.heap.size, 1, none⟩ (.int .u32 (timesL x k).const)) = w9 at s1 s2 ⊢
          obtain ⟨_, z0, z1, _, _⟩ := s1
          refine bodyPost_ret (by simp [results, Tryd.results42, go_sem, z0, z1]; try rfl) rfl ?_
          rw [hFE.out]
          have hz3 := hg13.size
          have hown6 := hown5.out
          simp only [World.size_alloc] at hown6
          exact ⟨grown_res (grown_trans hS.out.grown (grown_trans hg13 (grown_wide (grown_of_below (one_below hb4)) _))) s2, ⟨_, _, _, rfl, own_weaken (own_low hown6 s2 (by omega)) (by omega)⟩, a6, c6, (hR6.out.below (one_below hb4)).grown s2 (by simp; omega) (fun x hx => by have := hR6.out.ne x hx; simp; omega)⟩
      · obtain ⟨t, r, rfl, ht⟩ : ∃ t r, ts = t :: r ∧ isS t 40 = true := by
          cases ts with
          | nil => cases hp
          | cons t r => exact ⟨t, r, rfl, hp⟩
        have hp2 := Hid.intro (fun (w1 : World) (a2 : Option Addr) (c2 : Nat) (h : Rd w1 g a2 c2 (t :: r)) => take_yes a2 c2 g 40 t r w1 h ht)
        have hF2 : Hid (R0 = closeF k (W r)) := by show R0 = _; rw [hF.out, bareF, if_pos ht]
        have hrun := Hid.intro (fun w a c hI hR => hWH.out.runs w a c r hI hR)
        have hfe := fun e he => hWH.out.fine.err r e he
        have hfl := fun x q he => hWH.out.fine.len r x q he
        have hfew := hRH.out.few
        simp only [List.length_cons] at hfew
        clear hp hF ht
        have hsres := fun (w3 : World) (h1 : wr.grownBy w3 (some g)) => hS.out.res.grown h1 (by simp; omega)
        have hsz := hS.out.size
        cases hWr : W r with
        | error k' =>
          have hk' := hfe _ hWr
          have hkz : (k' == 0) = false := by rcases hk' with rfl | rfl <;> rfl
          have hFE : Hid (R0 = .error k') := by show R0 = _; rw [hF2.out, hWr]; rfl
          rw [hWr] at hrun
          clear hWr hk' hF2 hfe hfl
          go_wp2_with (first
            | (go_at_call 28; with_reducible refine (hno.out).mono ?_; rintro e w1 ⟨rfl, hg1, a2, c2, hR2⟩; replace hR2 := Hid.intro hR2)
            | (go_at_call 28; with_reducible refine (hp2.out _ _ _ hR2.out).mono ?_; rintro e w2 ⟨rfl, hg2, a3, c3, hR3⟩; replace hR3 := Hid.intro hR3; have hI2 := Hid.intro (hWH.out.keep _ _ hIH.out (grown_trans hS.out.grown (grown_trans hg1 hg2))))
            | (go_at_call 27; (with_reducible refine (hrun.out _ _ _ hI2.out hR3.out).mono ?_); rintro e w3 ⟨hg3, rfl⟩; have hg13 := grown_trans (grown_trans hg1 hg2) hg3)
            | (go_at_call 11; with_reducible refine (times_nil k _).mono ?_; rintro e w4 ⟨hb4, a5, c5, q5, rfl⟩; obtain ⟨th, t0, t1, tf0, tf1⟩ := (hsres _ hg13).below (one_below hb4) (by have := hg13.size; omega); replace th := Hid.intro th))
          all_goals first | omega | skip
          obtain ⟨s1, s2⟩ := two_set th.out rfl (.slice a5 0 c5) (.int .u32 q5)
          generalize (((w4).setCell ⟨w.heap.size, 0, none⟩ (.slice a5 0 c5)).setCell ⟨w.heap.size, 1, none⟩ (.int .u32 q5)) = w9 at s1 s2 ⊢
          obtain ⟨_, z0, z1, _, _⟩ := s1
          refine bodyPost_ret (by simp [results, Tryd.results42, go_sem, z0, z1]; try rfl) rfl ?_
          rw [hFE.out]
          exact ⟨grown_res (grown_trans hS.out.grown (grown_trans hg13 (grown_wide (grown_of_below (one_below hb4)) _))) s2, _, _, _, _, rfl⟩
        | ok xr =>
          obtain ⟨x, q⟩ := xr
          have hxl := hfl _ _ hWr
          rw [hWr] at hrun hF2
          clear hWr hfe hfl
          cases hc : headIs 41 q
          · have hFE : Hid (R0 = .error 20) := by
              show R0 = _
              rw [hF2.out]
              cases q with
              | nil => rfl
              | cons u q => rw [closeF, if_neg (by rw [show isS u 41 = false from hc]; decide)]
            have hp3 := Hid.intro (fun (w1 : World) (O : Obj) (a2 : Option Addr) (c2 : Nat) (h : Rd w1 g a2 c2 q) => take_no1 a2 c2 g 41 q w1 O h hc)
            clear hc hF2
            go_wp2_with (first
              | (go_at_call 28; with_reducible refine (hno.out).mono ?_; rintro e w1 ⟨rfl, hg1, a2, c2, hR2⟩; replace hR2 := Hid.intro hR2)
              | (go_at_call 28; with_reducible refine (hp2.out _ _ _ hR2.out).mono ?_; rintro e w2 ⟨rfl, hg2, a3, c3, hR3⟩; replace hR3 := Hid.intro hR3; have hI2 := Hid.intro (hWH.out.keep _ _ hIH.out (grown_trans hS.out.grown (grown_trans hg1 hg2))))
              | (go_at_call 27; (with_reducible refine (hrun.out _ _ _ hI2.out hR3.out).mono ?_); rintro e w3 ⟨hg3, ⟨a4, n4, c4, rfl, hown4⟩, a6, c6, hR6⟩; replace hR6 := Hid.intro hR6; have hg13 := grown_trans (grown_trans hg1 hg2) hg3)
              | (go_at_call 28; with_reducible refine (hp3.out _ _ _ _ hR6.out).mono ?_; rintro e w4 ⟨rfl, hg4, a7, c7, hR7⟩; obtain ⟨th, t0, t1, tf0, tf1⟩ := (((hsres _ hg13).alloc _).grown hg4 (by simp; omega)); replace th := Hid.intro th))
            all_goals first | omega | skip
            obtain ⟨s1, s2⟩ := two_set th.out rfl (.slice none 0 0) (.int .u32 0)
            generalize (((w4).setCell ⟨w.heap.size, 0, none⟩ (.slice none 0 0)).setCell ⟨w.heap.size, 1, none⟩ (.int .u32 0)) = w9 at s1 s2 ⊢
            obtain ⟨_, z0, z1, _, _⟩ := s1
            refine bodyPost_ret (by simp [results, Tryd.results42, go_sem, z0, z1]; try rfl) rfl ?_
            rw [hFE.out]
            exact ⟨grown_res (grown_trans hS.out.grown (grown_trans hg13 (grown_trans (World.grownBy_alloc _ _ _) hg4))) s2, _, _, _, _, rfl⟩
          · obtain ⟨u, q', rfl, hu⟩ : ∃ u q', q = u :: q' ∧ isS u 41 = true := by
              cases q with
              | nil => cases hc
              | cons u q => exact ⟨u, q, rfl, hc⟩
            have hFE : Hid (R0 = .ok (timesL x k, q')) := by show R0 = _; rw [hF2.out, closeF, if_pos hu]
            have hp3 := Hid.intro (fun (w1 : World) (O : Obj) (a2 : Option Addr) (c2 : Nat) (h : Rd w1 g a2 c2 (u :: q')) => take_yes1 a2 c2 g 41 u q' w1 O h hu)
            have hTL := Hid.intro (fun (B : Nat) (a : Option Addr) (n c : Nat) (w : World) h => times_lin x k B a n c (by omega) w h)
            clear hc hF2 hu
            go_wp2_with (first
              | (go_at_call 28; with_reducible refine (hno.out).mono ?_; rintro e w1 ⟨rfl, hg1, a2, c2, hR2⟩; replace hR2 := Hid.intro hR2)
              | (go_at_call 28; with_reducible refine (hp2.out _ _ _ hR2.out).mono ?_; rintro e w2 ⟨rfl, hg2, a3, c3, hR3⟩; replace hR3 := Hid.intro hR3; have hI2 := Hid.intro (hWH.out.keep _ _ hIH.out (grown_trans hS.out.grown (grown_trans hg1 hg2))))
              | (go_at_call 27; (with_reducible refine (hrun.out _ _ _ hI2.out hR3.out).mono ?_); rintro e w3 ⟨hg3, ⟨a4, n4, c4, rfl, hown4⟩, a6, c6, hR6⟩; replace hR6 := Hid.intro hR6; replace hown4 := Hid.intro hown4; have hg13 := grown_trans (grown_trans hg1 hg2) hg3; have hglt2 := Hid.intro (Nat.lt_of_lt_of_le hglt (grown_trans hS.out.grown (grown_trans hg1 hg2)).size))
              | (go_at_call 28; with_reducible refine (hp3.out _ _ _ _ hR6.out).mono ?_; rintro e w5 ⟨rfl, hg5, a7, c7, hR7⟩; replace hR7 := Hid.intro hR7; have hown5 := Hid.intro (own_low (hown4.out.alloc _) hg5 hglt2.out); have hg15 := grown_trans hg13 (grown_trans (World.grownBy_alloc _ _ _) hg5); obtain ⟨_, y0, y1, _, _⟩ := (two_new w3 25 (.slice a4 n4 c4) (.int .u32 x.const)).grown hg5 (by have := hg13.size; simp; omega))
              | (go_at_call 11; with_reducible refine (hTL.out _ _ _ _ _ hown5.out).mono ?_; rintro e w4 ⟨hb4, a5, n5, c5, rfl, hown6⟩; replace hown6 := Hid.intro hown6; obtain ⟨th, t0, t1, tf0, tf1⟩ := (hsres _ hg15).below hb4 (by have := hg15.size; omega); replace th := Hid.intro th))
            all_goals first | omega | skip
            obtain ⟨s1, s2⟩ := two_set th.out rfl (.slice a5 n5 c5) (.int .u32 (timesL x k).const)
            generalize (((w4).setCell ⟨w.heap.size, 0, none⟩ (.slice a5 n5 c5)).setCell ⟨w.heap.size, 1, none⟩ (.int .u32 (timesL x k).const)) = w9 at s1 s2 ⊢
            obtain ⟨_, z0, z1, _, _⟩ := s1
            refine bodyPost_ret (by simp [results, Tryd.results42, go_sem, z0, z1]; try rfl) rfl ?_
            rw [hFE.out]
            have hz3 := hg15.size
            exact ⟨grown_res (grown_trans hS.out.grown (grown_trans hg15 (grown_wide (grown_of_below hb4) _))) s2, ⟨_, _, _, rfl, own_weaken (own_low hown6.out s2 (by omega)) (by omega)⟩, a7, c7, (hR7.out.below hb4).grown s2 (by simp; omega) (fun x hx => by have := hR7.out.ne x hx; simp; omega)⟩
    · obtain ⟨t, r, rfl, ht⟩ : ∃ t r, ts = t :: r ∧ isS t 45 = true := by
        cases ts with
        | nil => cases hm
        | cons t r => exact ⟨t, r, rfl, hm⟩
      have hyes := Hid.intro (take_yes a1 c1 g 45 t r wr hRH.out ht)
      have hl := Hid.intro hRH.out.left
      have htH := Hid.intro ht
      clear hm ht
      go_wp2_with (go_at_call 28; with_reducible refine (hyes.out).mono ?_; rintro e w1 ⟨rfl, hg1, a2, c2, hR2⟩; replace hR2 := Hid.intro hR2)
      all_goals first | omega | skip
      go_roundw
      case rel => exact ⟨r, (-k) % 4294967296, rfl, Hid.intro (hS.out.step hglt hg1 ⟨_, _, hR2.out⟩ (minus_yes htH.out))⟩
      case measure => rw [hR2.out.left, hl.out]; simp
end Go.Proofs.YtijdjljnppkhmabDoor

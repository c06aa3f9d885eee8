/- expr's part. -/
import Derived.Test.YtogkchgjpflmjaaGreatDoorSingle
/- expr's factor. -/
namespace Go.Proofs.YtogkchgjpflmjaaGreatDoor
open Go.ChangeShapes Go.WideShapes Go.ChangeAt Go.RowKit
set_option linter.unusedVariables false
set_option maxRecDepth 100000
def WOut (w : World) (g : Nat) (R : PRes) (e : Ending) (w' : World) : Prop := w.grownBy w' (some g) ∧
  match R with
  | .ok (x, r) => LinOut w.heap.size w' x e ∧ ∃ a c, Rd w' g a c r
  | .error k => e = .returned (.tuple #[linZ, .int .i64 k])
def FOut (w : World) (g : Nat) (R : PRes) (e : Ending) (w' : World) : Prop := w.grownBy w' (some g) ∧
  match R with
  | .ok (x, r) => LinOut w.heap.size w' x e ∧ ∃ a c, Rd w' g a c r
  | .error k => ∃ a n c q, e = .returned (.tuple #[linV (.slice a n c) q, .int .i64 k])
structure Within (g : Nat) (I : World → Prop) (lb : Array Value) (W : List Tok → PRes) : Prop where
  keep : ∀ w w', I w → w.grownBy w' (some g) → I w'
  fine : Fine W
  runs : ∀ w a c ts, I w → Rd w g a c ts → Calls Tryz.prog 233 lb w fun e w' => WOut w g (W ts) e w'
theorem minus_yes {t : Tok} {r : List Tok} {c : Int} (h : isS t 45 = true) : minusF (t :: r) c = minusF r ((-c) % 4294967296) := by rw [minusF, if_pos h]
theorem minus_no {ts : List Tok} {c : Int} (h : headIs 45 ts = false) : minusF ts c = (c, ts) := by
  cases ts with
  | nil => rfl
  | cons t r => rw [minusF, if_neg (by rw [show isS t 45 = false from h]; decide)]
def leftOf (g : Nat) (w : World) : Nat :=
  match w.cell? ⟨g, 0, none⟩ with
  | some (.slice _ n _) => n
  | _ => 0
theorem Rd.left {w : World} {g : Nat} {a : Option Addr} {c : Nat} {ts : List Tok} (h : Rd w g a c ts) : leftOf g w = ts.length := by
  unfold leftOf
  rw [h.c0]
structure FSt (w : World) (g : Nat) (ts0 : List Tok) (ts : List Tok) (k : Int) (wr : World) : Prop where
  eq : minusF ts0 1 = minusF ts k
  rd : ∃ a c, Rd wr g a c ts
  grown : w.grownBy wr (some g)
  res : Two wr w.heap.size 89 (.slice none 0 0) (.int .u32 0)
  size : w.heap.size + 1 ≤ wr.heap.size
theorem FSt.step {w : World} {g : Nat} {ts0 ts ts' : List Tok} {k k' : Int} {wr w' : World} (h : FSt w g ts0 ts k wr) (hglt : g < w.heap.size) (hg : wr.grownBy w' (some g)) (hr : ∃ a c, Rd w' g a c ts') (he : minusF ts k = minusF ts' k') : FSt w g ts0 ts' k' w' :=
  ⟨h.eq.trans he, hr, grown_trans h.grown hg, h.res.grown hg (by simp; omega), Nat.le_trans h.size hg.size⟩
theorem single_cases (k : Int) (W : List Tok → PRes) (ts : List Tok) (h : headIs 40 ts = false) :
    (bareF W k ts = .error 20 ∧ ∀ w g a c, Rd w g a c ts → Calls Tryz.prog 245 #[.pointer (some ⟨g, 0, none⟩)] w fun e w' => e = .returned (.tuple #[linZ, .int .i64 20]) ∧ w.grownBy w' (some g)) ∨
    ∃ x r, Canon x.terms ∧ x.terms.length ≤ 1 ∧ bareF W k ts = .ok (timesL x k, r) ∧ ∀ w g a c, Rd w g a c ts → Calls Tryz.prog 245 #[.pointer (some ⟨g, 0, none⟩)] w fun e w' => LinOut w.heap.size w' x e ∧ w.grownBy w' (some g) ∧ ∃ a c, Rd w' g a c r := by
  cases ts with
  | nil =>
    refine .inl ⟨rfl, fun w g a c hR => (single_any a c g [] w hR).mono ?_⟩
    rintro e w' ⟨h1, h2⟩
    exact ⟨h2, h1⟩
  | cons t r =>
    have hb : bareF W k (t :: r) = match singleF t with | none => .error 20 | some x => .ok (timesL x k, r) := by rw [bareF, if_neg (by rw [show isS t 40 = false from h]; decide)]; cases singleF t <;> rfl
    cases hs : singleF t with
    | none =>
      refine .inl ⟨by rw [hb, hs], fun w g a c hR => (single_any a c g (t :: r) w hR).mono ?_⟩
      rintro e w' ⟨h1, h2, h3⟩
      rw [hs] at h3
      exact ⟨h3, h1⟩
    | some x =>
      refine .inr ⟨x, r, singleF_good hs, singleF_len hs, by rw [hb, hs], fun w g a c hR => (single_any a c g (t :: r) w hR).mono ?_⟩
      rintro e w' ⟨h1, h2, h3⟩
      rw [hs] at h3
      exact ⟨h3, h1, h2⟩
theorem grown_res {w w4 w9 : World} {g : Nat} (h : w.grownBy w4 (some g)) (s2 : w4.grownBy w9 (some w.heap.size)) : w.grownBy w9 (some g) :=
  ⟨s2.os.trans h.os, s2.tape.trans h.tape, s2.output.trans h.output, Nat.le_trans h.size s2.size, fun k hk hne => by rw [s2.block k (Nat.lt_of_lt_of_le hk h.size) (fun e => by injection e with e; omega), h.block k hk hne]⟩
theorem times_nil (k : Int) (w : World) : Calls Tryz.prog 236 #[linZ, .int .u32 k] w fun e w' => Below w.heap.size w w' ∧ ∃ a c q, e = .returned (linV (.slice a 0 c) q) := by
  refine (times_any none 0 [] 0 k (by simp) w (TmLies.nil _ _)).mono ?_
  rintro e w' ⟨hb, v, rfl, hown⟩
  obtain ⟨a, c, rfl⟩ := own_slice hown
  exact ⟨hb, a, c, _, rfl⟩
theorem times_lin (x : Lin) (k : Int) (B : Nat) (a : Option Addr) (n c : Nat) (hl : x.terms.length ≤ 4400000) (w : World) (h : w.ownsRow B 123 2 (.slice a n c) x.terms.length (rowT x.terms)) :
    Calls Tryz.prog 236 #[linV (.slice a n c) x.const, .int .u32 k] w fun e w' => Below w.heap.size w w' ∧ ∃ a' n' c', e = .returned (linV (.slice a' n' c') (timesL x k).const) ∧ w'.ownsRow w.heap.size 123 2 (.slice a' n' c') (timesL x k).terms.length (rowT (timesL x k).terms) := by
  have hn := own_len h
  subst hn
  refine (times_any a c x.terms x.const k hl w (own_tmLies h)).mono ?_
  rintro e w' ⟨hb, v, rfl, hown⟩
  obtain ⟨a', c', rfl⟩ := own_slice hown
  exact ⟨hb, a', _, c', rfl, hown⟩
theorem take_no1 (a : Option Addr) (cc g : Nat) (c : UInt8) (ts : List Tok) (W : World) (O : Obj) (h : Rd W g a cc ts) (hs : headIs c ts = false) :
    Calls Tryz.prog 234 #[.pointer (some ⟨g, 0, none⟩), .slice (some ⟨W.heap.size + 1, 0, none⟩) 1 1] ((W.alloc O).alloc (.cells #[.string ⟨#[c]⟩] 9)) fun e w' => e = .returned (.string ⟨#[]⟩) ∧ (W.alloc O).grownBy w' (some g) ∧ ∃ a' c', Rd w' g a' c' ts := by
  have := take_no a cc g c ts (W.alloc O) (h.below (below_alloc W O)) hs
  rwa [show (W.alloc O).heap.size = W.heap.size + 1 by simp] at this
theorem take_yes1 (a : Option Addr) (cc g : Nat) (c : UInt8) (t : Tok) (r : List Tok) (W : World) (O : Obj) (h : Rd W g a cc (t :: r)) (hs : isS t c = true) :
    Calls Tryz.prog 234 #[.pointer (some ⟨g, 0, none⟩), .slice (some ⟨W.heap.size + 1, 0, none⟩) 1 1] ((W.alloc O).alloc (.cells #[.string ⟨#[c]⟩] 9)) fun e w' => e = .returned (.string ⟨#[c]⟩) ∧ (W.alloc O).grownBy w' (some g) ∧ ∃ a' c', Rd w' g a' c' r := by
  have := take_yes a cc g c t r (W.alloc O) (h.below (below_alloc W O)) hs
  rwa [show (W.alloc O).heap.size = W.heap.size + 1 by simp] at this
set_option maxHeartbeats 2000000 in
theorem factor_any (a0 : Option Addr) (c0 g : Nat) (I : World → Prop) (lb : Array Value) (W : List Tok → PRes) (hW : Within g I lb W) (ts0 : List Tok) (w : World) (hI : I w) (h : Rd w g a0 c0 ts0) :
    Calls Tryz.prog 239 #[.pointer (some ⟨g, 0, none⟩), .func (.func 233) #[] lb] w fun e w' => FOut w g (factorF W ts0) e w' := by
  have hglt := h.lt
  have hstart : Hid (FSt w g ts0 ts0 1 (w.alloc (.cells #[.slice none 0 0, .int .u32 0] 89))) := ⟨rfl, ⟨a0, c0, h.below (below_alloc w _)⟩, World.grownBy_alloc w _ _, two_new w 89 _ _, by simp⟩
  have hWH := Hid.intro hW
  have hIH := Hid.intro hI
  obtain ⟨R0, hR0⟩ : ∃ R0, R0 = factorF W ts0 := ⟨_, rfl⟩
  rw [← hR0]
  have hR0H := Hid.intro hR0
  clear h hW hI hR0
  go_enter Tryz.func239, Tryz.ntmps239
  go_wp2
  go_loopw [6] (fun v6 wr => ∃ (ts : List Tok) (k : Int), v6 = .int .u32 k ∧ Hid (FSt w g ts0 ts k wr)) (fun v6 wr => leftOf g wr)
  case atStart => exact ⟨ts0, 1, rfl, hstart⟩
  case round =>
    clear hstart
    obtain ⟨ts, k, rfl, hS⟩ := hrel
    obtain ⟨a1, c1, hR⟩ := hS.out.rd
    have hRH := Hid.intro hR
    clear hR
    cases hm : headIs 45 ts
    · have hno := Hid.intro (take_no a1 c1 g 45 ts wr hRH.out hm)
      have hF : Hid (R0 = bareF W k ts) := by show R0 = _; rw [hR0H.out]; unfold factorF; rw [hS.out.eq, minus_no hm]
      clear hm
      cases hp : headIs 40 ts
      · have hp2 := Hid.intro (fun (w1 : World) (a2 : Option Addr) (c2 : Nat) (h : Rd w1 g a2 c2 ts) => take_no a2 c2 g 40 ts w1 h hp)
        rcases single_cases k W ts hp with ⟨hb, hsg⟩ | ⟨x, r, hx1, hx2, hb, hsg⟩
        · have hFE : Hid (R0 = .error 20) := by show R0 = _; rw [hF.out, hb]
          replace hsg := Hid.intro hsg
          clear hb hp hF
          have hsres := fun (w3 : World) (h1 : wr.grownBy w3 (some g)) => hS.out.res.grown h1 (by simp; omega)
          have hsz := hS.out.size
          go_wp2_with (first
            | (go_at_call 234; with_reducible refine (hno.out).mono ?_; rintro e w1 ⟨rfl, hg1, a2, c2, hR2⟩; replace hR2 := Hid.intro hR2)
            | (go_at_call 234; with_reducible refine (hp2.out _ _ _ hR2.out).mono ?_; rintro e w2 ⟨rfl, hg2, a3, c3, hR3⟩; replace hR3 := Hid.intro hR3)
            | (go_at_call 245; (with_reducible refine (hsg.out _ _ _ _ hR3.out).mono ?_); rintro e w3 ⟨rfl, hg3⟩; have hg13 := grown_trans (grown_trans hg1 hg2) hg3)
            | (go_at_call 236; with_reducible refine (times_nil k _).mono ?_; rintro e w4 ⟨hb4, a5, c5, q5, rfl⟩; obtain ⟨th, t0, t1, tf0, tf1⟩ := (hsres _ hg13).below (one_below hb4) (by have := hg13.size; omega); replace th := Hid.intro th))
          all_goals first | omega | skip
          obtain ⟨s1, s2⟩ := two_set th.out rfl (.slice a5 0 c5) (.int .u32 q5)
          generalize (((w4).setCell ⟨w.heap.size, 0, none⟩ (.slice a5 0 c5)).setCell ⟨w.heap.size, 1, none⟩ (.int .u32 q5)) = w9 at s1 s2 ⊢
          obtain ⟨_, z0, z1, _, _⟩ := s1
          refine bodyPost_ret (by simp [results, Tryz.results239, go_sem, z0, z1]; try rfl) rfl ?_
          rw [hFE.out]
          exact ⟨grown_res (grown_trans hS.out.grown (grown_trans hg13 (grown_wide (grown_of_below (one_below hb4)) _))) s2, _, _, _, _, rfl⟩
        · have hFE : Hid (R0 = .ok (timesL x k, r)) := by show R0 = _; rw [hF.out, hb]
          replace hsg := Hid.intro hsg
          have hx2H := Hid.intro hx2
          have hTL := Hid.intro (fun (B : Nat) (a : Option Addr) (n c : Nat) (w : World) h => times_lin x k B a n c (by omega) w h)
          clear hb hp hF hx1 hx2
          have hsres := fun (w3 : World) (h1 : wr.grownBy w3 (some g)) => hS.out.res.grown h1 (by simp; omega)
          have hsz := hS.out.size
          go_wp2_with (first
            | (go_at_call 234; with_reducible refine (hno.out).mono ?_; rintro e w1 ⟨rfl, hg1, a2, c2, hR2⟩; replace hR2 := Hid.intro hR2)
            | (go_at_call 234; with_reducible refine (hp2.out _ _ _ hR2.out).mono ?_; rintro e w2 ⟨rfl, hg2, a3, c3, hR3⟩; replace hR3 := Hid.intro hR3)
            | (go_at_call 245; (with_reducible refine (hsg.out _ _ _ _ hR3.out).mono ?_); rintro e w3 ⟨⟨a4, n4, c4, rfl, hown4⟩, hg3, a6, c6, hR6⟩; replace hR6 := Hid.intro hR6; replace hown4 := Hid.intro hown4; have hg13 := grown_trans (grown_trans hg1 hg2) hg3)
            | (go_at_call 236; with_reducible refine (hTL.out _ _ _ _ _ (hown4.out.alloc _)).mono ?_; rintro e w4 ⟨hb4, a5, n5, c5, rfl, hown5⟩; replace hown5 := Hid.intro hown5; obtain ⟨th, t0, t1, tf0, tf1⟩ := (hsres _ hg13).below (one_below hb4) (by have := hg13.size; omega); replace th := Hid.intro th))
          all_goals first | omega | skip
          obtain ⟨s1, s2⟩ := two_set th.out rfl (.slice a5 n5 c5) (.int .u32 (timesL x k).const)
          generalize (((w4).setCell ⟨w.heap.size, 0, none⟩ (.slice a5 n5 c5)).setCell ⟨w.heap.size, 1, none⟩ (.int .u32 (timesL x k).const)) = w9 at s1 s2 ⊢
          obtain ⟨_, z0, z1, _, _⟩ := s1
          refine bodyPost_ret (by simp [results, Tryz.results239, go_sem, z0, z1]; try rfl) rfl ?_
          rw [hFE.out]
          have hz3 := hg13.size
          have hown6 := hown5.out
          simp only [World.size_alloc] at hown6
          exact ⟨grown_res (grown_trans hS.out.grown (grown_trans hg13 (grown_wide (grown_of_below (one_below hb4)) _))) s2, ⟨_, _, _, rfl, own_weaken (own_low hown6 s2 (by omega)) (by omega)⟩, a6, c6, (hR6.out.below (one_below hb4)).grown s2 (by simp; omega) (fun x hx => by have := hR6.out.ne x hx; simp; omega)⟩
      · obtain ⟨t, r, rfl, ht⟩ : ∃ t r, ts = t :: r ∧ isS t 40 = true := by
          cases ts with
          | nil => cases hp
          | cons t r => exact ⟨t, r, rfl, hp⟩
        have hp2 := Hid.intro (fun (w1 : World) (a2 : Option Addr) (c2 : Nat) (h : Rd w1 g a2 c2 (t :: r)) => take_yes a2 c2 g 40 t r w1 h ht)
        have hF2 : Hid (R0 = closeF k (W r)) := by show R0 = _; rw [hF.out, bareF, if_pos ht]
        have hrun := Hid.intro (fun w a c hI hR => hWH.out.runs w a c r hI hR)
        have hfe := fun e he => hWH.out.fine.err r e he
        have hfl := fun x q he => hWH.out.fine.len r x q he
        have hfew := hRH.out.few
        simp only [List.length_cons] at hfew
        clear hp hF ht
        have hsres := fun (w3 : World) (h1 : wr.grownBy w3 (some g)) => hS.out.res.grown h1 (by simp; omega)
        have hsz := hS.out.size
        cases hWr : W r with
        | error k' =>
          have hk' := hfe _ hWr
          have hkz : (k' == 0) = false := by rcases hk' with rfl | rfl <;> rfl
          have hFE : Hid (R0 = .error k') := by show R0 = _; rw [hF2.out, hWr]; rfl
          rw [hWr] at hrun
          clear hWr hk' hF2 hfe hfl
          go_wp2_with (first
            | (go_at_call 234; with_reducible refine (hno.out).mono ?_; rintro e w1 ⟨rfl, hg1, a2, c2, hR2⟩; replace hR2 := Hid.intro hR2)
            | (go_at_call 234; with_reducible refine (hp2.out _ _ _ hR2.out).mono ?_; rintro e w2 ⟨rfl, hg2, a3, c3, hR3⟩; replace hR3 := Hid.intro hR3; have hI2 := Hid.intro (hWH.out.keep _ _ hIH.out (grown_trans hS.out.grown (grown_trans hg1 hg2))))
            | (go_at_call 233; (with_reducible refine (hrun.out _ _ _ hI2.out hR3.out).mono ?_); rintro e w3 ⟨hg3, rfl⟩; have hg13 := grown_trans (grown_trans hg1 hg2) hg3)
            | (go_at_call 236; with_reducible refine (times_nil k _).mono ?_; rintro e w4 ⟨hb4, a5, c5, q5, rfl⟩; obtain ⟨th, t0, t1, tf0, tf1⟩ := (hsres _ hg13).below (one_below hb4) (by have := hg13.size; omega); replace th := Hid.intro th))
          all_goals first | omega | skip
          obtain ⟨s1, s2⟩ := two_set th.out rfl (.slice a5 0 c5) (.int .u32 q5)
          generalize (((w4).setCell ⟨w.heap.size, 0, none⟩ (.slice a5 0 c5)).setCell ⟨w.heap.size, 1, none⟩ (.int .u32 q5)) = w9 at s1 s2 ⊢
          obtain ⟨_, z0, z1, _, _⟩ := s1
          refine bodyPost_ret (by simp [results, Tryz.results239, go_sem, z0, z1]; try rfl) rfl ?_
          rw [hFE.out]
          exact ⟨grown_res (grown_trans hS.out.grown (grown_trans hg13 (grown_wide (grown_of_below (one_below hb4)) _))) s2, _, _, _, _, rfl⟩
        | ok xr =>
          obtain ⟨x, q⟩ := xr
          have hxl := hfl _ _ hWr
          rw [hWr] at hrun hF2
          clear hWr hfe hfl
          cases hc : headIs 41 q
          · have hFE : Hid (R0 = .error 20) := by
              show R0 = _
              rw [hF2.out]
              cases q with
              | nil => rfl
              | cons u q => rw [closeF, if_neg (by rw [show isS u 41 = false from hc]; decide)]
            have hp3 := Hid.intro (fun (w1 : World) (O : Obj) (a2 : Option Addr) (c2 : Nat) (h : Rd w1 g a2 c2 q) => take_no1 a2 c2 g 41 q w1 O h hc)
            clear hc hF2
            go_wp2_with (first
              | (go_at_call 234; with_reducible refine (hno.out).mono ?_; rintro e w1 ⟨rfl, hg1, a2, c2, hR2⟩; replace hR2 := Hid.intro hR2)
              | (go_at_call 234; with_reducible refine (hp2.out _ _ _ hR2.out).mono ?_; rintro e w2 ⟨rfl, hg2, a3, c3, hR3⟩; replace hR3 := Hid.intro hR3; have hI2 := Hid.intro (hWH.out.keep _ _ hIH.out (grown_trans hS.out.grown (grown_trans hg1 hg2))))
              | (go_at_call 233; (with_reducible refine (hrun.out _ _ _ hI2.out hR3.out).mono ?_); rintro e w3 ⟨hg3, ⟨a4, n4, c4, rfl, hown4⟩, a6, c6, hR6⟩; replace hR6 := Hid.intro hR6; have hg13 := grown_trans (grown_trans hg1 hg2) hg3)
              | (go_at_call 234; with_reducible refine (hp3.out _ _ _ _ hR6.out).mono ?_; rintro e w4 ⟨rfl, hg4, a7, c7, hR7⟩; obtain ⟨th, t0, t1, tf0, tf1⟩ := (((hsres _ hg13).alloc _).grown hg4 (by simp; omega)); replace th := Hid.intro th))
            all_goals first | omega | skip
            obtain ⟨s1, s2⟩ := two_set th.out rfl (.slice none 0 0) (.int .u32 0)
            generalize (((w4).setCell ⟨w.heap.size, 0, none⟩ (.slice none 0 0)).setCell ⟨w.heap.size, 1, none⟩ (.int .u32 0)) = w9 at s1 s2 ⊢
            obtain ⟨_, z0, z1, _, _⟩ := s1
            refine bodyPost_ret (by simp [results, Tryz.results239, go_sem, z0, z1]; try rfl) rfl ?_
            rw [hFE.out]
            exact ⟨grown_res (grown_trans hS.out.grown (grown_trans hg13 (grown_trans (World.grownBy_alloc _ _ _) hg4))) s2, _, _, _, _, rfl⟩
          · obtain ⟨u, q', rfl, hu⟩ : ∃ u q', q = u :: q' ∧ isS u 41 = true := by
              cases q with
              | nil => cases hc
              | cons u q => exact ⟨u, q, rfl, hc⟩
            have hFE : Hid (R0 = .ok (timesL x k, q')) := by show R0 = _; rw [hF2.out, closeF, if_pos hu]
            have hp3 := Hid.intro (fun (w1 : World) (O : Obj) (a2 : Option Addr) (c2 : Nat) (h : Rd w1 g a2 c2 (u :: q')) => take_yes1 a2 c2 g 41 u q' w1 O h hu)
            have hTL := Hid.intro (fun (B : Nat) (a : Option Addr) (n c : Nat) (w : World) h => times_lin x k B a n c (by omega) w h)
            clear hc hF2 hu
            go_wp2_with (first
              | (go_at_call 234; with_reducible refine (hno.out).mono ?_; rintro e w1 ⟨rfl, hg1, a2, c2, hR2⟩; replace hR2 := Hid.intro hR2)
              | (go_at_call 234; with_reducible refine (hp2.out _ _ _ hR2.out).mono ?_; rintro e w2 ⟨rfl, hg2, a3, c3, hR3⟩; replace hR3 := Hid.intro hR3; have hI2 := Hid.intro (hWH.out.keep _ _ hIH.out (grown_trans hS.out.grown (grown_trans hg1 hg2))))
              | (go_at_call 233; (with_reducible refine (hrun.out _ _ _ hI2.out hR3.out).mono ?_); rintro e w3 ⟨hg3, ⟨a4, n4, c4, rfl, hown4⟩, a6, c6, hR6⟩; replace hR6 := Hid.intro hR6; replace hown4 := Hid.intro hown4; have hg13 := grown_trans (grown_trans hg1 hg2) hg3; have hglt2 := Hid.intro (Nat.lt_of_lt_of_le hglt (grown_trans hS.out.grown (grown_trans hg1 hg2)).size))
              | (go_at_call 234; with_reducible refine (hp3.out _ _ _ _ hR6.out).mono ?_; rintro e w5 ⟨rfl, hg5, a7, c7, hR7⟩; replace hR7 := Hid.intro hR7; have hown5 := Hid.intro (own_low (hown4.out.alloc _) hg5 hglt2.out); have hg15 := grown_trans hg13 (grown_trans (World.grownBy_alloc _ _ _) hg5); obtain ⟨_, y0, y1, _, _⟩ := (two_new w3 89 (.slice a4 n4 c4) (.int .u32 x.const)).grown hg5 (by have := hg13.size; simp; omega))
              | (go_at_call 236; with_reducible refine (hTL.out _ _ _ _ _ hown5.out).mono ?_; rintro e w4 ⟨hb4, a5, n5, c5, rfl, hown6⟩; replace hown6 := Hid.intro hown6; obtain ⟨th, t0, t1, tf0, tf1⟩ := (hsres _ hg15).below hb4 (by have := hg15.size; omega); replace th := Hid.intro th))
            all_goals first | omega | skip
            obtain ⟨s1, s2⟩ := two_set th.out rfl (.slice a5 n5 c5) (.int .u32 (timesL x k).const)
            generalize (((w4).setCell ⟨w.heap.size, 0, none⟩ (.slice a5 n5 c5)).setCell ⟨w.heap.size, 1, none⟩ (.int .u32 (timesL x k).const)) = w9 at s1 s2 ⊢
            obtain ⟨_, z0, z1, _, _⟩ := s1
            refine bodyPost_ret (by simp [results, Tryz.results239, go_sem, z0, z1]; try rfl) rfl ?_
            rw [hFE.out]
            have hz3 := hg15.size
            exact ⟨grown_res (grown_trans hS.out.grown (grown_trans hg15 (grown_wide (grown_of_below hb4) _))) s2, ⟨_, _, _, rfl, own_weaken (own_low hown6.out s2 (by omega)) (by omega)⟩, a7, c7, (hR7.out.below hb4).grown s2 (by simp; omega) (fun x hx => by have := hR7.out.ne x hx; simp; omega)⟩
    · obtain ⟨t, r, rfl, ht⟩ : ∃ t r, ts = t :: r ∧ isS t 45 = true := by
        cases ts with
        | nil => cases hm
        | cons t r => exact ⟨t, r, rfl, hm⟩
      have hyes := Hid.intro (take_yes a1 c1 g 45 t r wr hRH.out ht)
      have hl := Hid.intro hRH.out.left
      have htH := Hid.intro ht
      clear hm ht
      go_wp2_with (go_at_call 234; with_reducible refine (hyes.out).mono ?_; rintro e w1 ⟨rfl, hg1, a2, c2, hR2⟩; replace hR2 := Hid.intro hR2)
      all_goals first | omega | skip
      go_roundw
      case rel => exact ⟨r, (-k) % 4294967296, rfl, Hid.intro (hS.out.step hglt hg1 ⟨_, _, hR2.out⟩ (minus_yes htH.out))⟩
      case measure => rw [hR2.out.left, hl.out]; simp
end Go.Proofs.YtogkchgjpflmjaaGreatDoor
namespace Go.Proofs.YtogkchgjpflmjaaGreatDoor
open Go.ChangeShapes Go.WideShapes Go.ChangeAt Go.RowKit
set_option linter.unusedVariables false
set_option maxRecDepth 100000
theorem own_ne {w : World} {lo : Nat} {v : Value} {n : Nat} {xs : List Value} {p : Nat} {x y : Value} (h : w.ownsRow lo 123 2 v n xs) (hp : Two w p 89 x y) : v.ownBlock ≠ some p := by
  intro e
  obtain ⟨cur, h1⟩ := own_type h e
  rw [hp.heap] at h1
  injection h1 with h1
  injection h1 with _ h1
  cases h1
structure PMem (w : World) (g p : Nat) (wr : World) : Prop where
  grown : w.grownBy wr (some g)
  res : Two wr w.heap.size 89 (.slice none 0 0) (.int .u32 0)
  size : p + 1 ≤ wr.heap.size
  lt : w.heap.size < p
structure PSt (w : World) (g p : Nat) (W : List Tok → PRes) (N : Nat) (R0 : PRes) (ts : List Tok) (x : Lin) (a : Option Addr) (n c : Nat) (wr : World) : Prop where
  mem : PMem w g p wr
  eq : ∃ f, ts.length ≤ f ∧ R0 = partL W f x ts
  good : GoodL x
  few : x.terms.length + ts.length ≤ N
  rd : ∃ a c, Rd wr g a c ts
  lin : Two wr p 89 (.slice a n c) (.int .u32 x.const)
  own : wr.ownsRow (w.heap.size + 1) 123 2 (.slice a n c) x.terms.length (rowT x.terms)
structure PErr (w : World) (g p : Nat) (R0 : PRes) (k : Int) (wr : World) : Prop where
  mem : PMem w g p wr
  eq : R0 = .error k
  ne : k = 20 ∨ k = 21
  lin : ∃ a n c q, Two wr p 89 (.slice a n c) (.int .u32 q)
theorem partL_no {W : List Tok → PRes} {f : Nat} {x : Lin} {ts : List Tok} (h : headIs 42 ts = false) : partL W f x ts = .ok (x, ts) := by
  cases f with
  | zero => rw [partL]
  | succ f =>
    cases ts with
    | nil => rw [partL]
    | cons t r => rw [partL, if_neg (by rw [show isS t 42 = false from h]; decide)]
theorem partL_yes {W : List Tok → PRes} {f : Nat} {x : Lin} {t : Tok} {r : List Tok} (h : isS t 42 = true) : partL W (f + 1) x (t :: r) = match factorF W r with | .error e => .error e | .ok (y, r') => match productF x y with | none => .error 21 | some z => partL W f z r' := by
  rw [partL, if_pos h]
  cases factorF W r with
  | error e => rfl
  | ok p => obtain ⟨y, q⟩ := p; simp only; cases productF x y <;> rfl
theorem own_kept {w w' : World} {lo : Nat} {T : TypeId} {sz : Nat} {v : Value} {n : Nat} {xs : List Value} {q : Nat} (h : w.ownsRow lo T sz v n xs) (hg : w.grownBy w' (some q)) (hne : v.ownBlock ≠ some q) : w'.ownsRow lo T sz v n xs := h.kept hg (.inr hne)
theorem prod_own (a1 a2 : Option Addr) (n1 c1 n2 c2 : Nat) (x y : Lin) (B1 B2 : Nat) (w : World) (hx : w.ownsRow B1 123 2 (.slice a1 n1 c1) x.terms.length (rowT x.terms)) (hy : w.ownsRow B2 123 2 (.slice a2 n2 c2) y.terms.length (rowT y.terms)) (hl1 : x.terms.length ≤ 4400000) (hl2 : y.terms.length ≤ 4400000) :
    Calls Tryz.prog 240 #[linV (.slice a1 n1 c1) x.const, linV (.slice a2 n2 c2) y.const] w fun e w' => Below w.heap.size w w' ∧
      match productF x y with
      | none => e = .returned (.tuple #[linZ, .int .i64 21])
      | some z => LinOut w.heap.size w' z e := by
  have e1 := own_len hx
  have e2 := own_len hy
  subst e1 e2
  exact product_any a1 a2 c1 c2 x y w (own_tmLies hx) (own_tmLies hy) hl1 hl2
def pleft (g : Nat) (v : Value) (w : World) : Nat := if intOf v = 0 then leftOf g w + 1 else 0
theorem PMem.grown_g {w : World} {g p : Nat} {wr w' : World} (h : PMem w g p wr) (hglt : g < w.heap.size) (hg : wr.grownBy w' (some g)) : PMem w g p w' :=
  ⟨grown_trans h.grown hg, h.res.grown hg (by simp; omega), Nat.le_trans h.size hg.size, h.lt⟩
theorem PMem.below {w : World} {g p : Nat} {wr w' : World} (h : PMem w g p wr) (hb : Below wr.heap.size wr w') : PMem w g p w' :=
  ⟨grown_trans h.grown (grown_wide (grown_of_below hb) _), h.res.below hb (by have := h.size; have := h.lt; omega), Nat.le_trans h.size hb.size, h.lt⟩
theorem PMem.high {w : World} {g p : Nat} {wr w' : World} (h : PMem w g p wr) {q : Nat} (hq : w.heap.size < q) (s2 : wr.grownBy w' (some q)) : PMem w g p w' :=
  ⟨⟨s2.os.trans h.grown.os, s2.tape.trans h.grown.tape, s2.output.trans h.grown.output, Nat.le_trans h.grown.size s2.size, fun k hk hne => by rw [s2.block k (Nat.lt_of_lt_of_le hk h.grown.size) (fun e => by injection e with e; omega), h.grown.block k hk hne]⟩, h.res.grown s2 (by simp; omega), Nat.le_trans h.size s2.size, h.lt⟩
set_option maxHeartbeats 4000000 in
theorem part_any (a0 : Option Addr) (c0 g : Nat) (I : World → Prop) (lb : Array Value) (W : List Tok → PRes) (hW : Within g I lb W) (ts0 : List Tok) (w : World) (hI : I w) (h : Rd w g a0 c0 ts0) :
    Calls Tryz.prog 235 #[.pointer (some ⟨g, 0, none⟩), .func (.func 233) #[] lb] w fun e w' => FOut w g (partF W ts0) e w' := by
  have hglt := h.lt
  have hfew := h.few
  have hWH := Hid.intro hW
  have hIH := Hid.intro hI
  have hkeep := Hid.intro (fun wr (hg : w.grownBy wr (some g)) => hW.keep w wr hI hg)
  have hfac := Hid.intro (fun (w1 : World) (a : Option Addr) (c : Nat) (ts : List Tok) (hI1 : I w1) (hR : Rd w1 g a c ts) => factor_any a c g I lb W hW ts w1 hI1 hR)
  have hff := Hid.intro (factorF_fine hW.fine)
  have h0 := Hid.intro (hfac.out (w.alloc (.cells #[.slice none 0 0, .int .u32 0] 89)) a0 c0 ts0 (hW.keep w _ hI (World.grownBy_alloc w _ _)) (h.below (below_alloc w _)))
  obtain ⟨R0, hR0⟩ : ∃ R0, R0 = partF W ts0 := ⟨_, rfl⟩
  rw [← hR0]
  have ht0 := two_new w 89 (.slice none 0 0) (.int .u32 0)
  have hsz0 : (w.alloc (.cells #[.slice none 0 0, .int .u32 0] 89)).heap.size = w.heap.size + 1 := by simp
  -- the loop, whatever the first factor gave
  have hloopE : ∀ (k : Int), factorF W ts0 = .error k → R0 = .error k := fun k hk => by rw [hR0]; unfold partF; rw [hk]
  have hloopO : ∀ (x : Lin) (r : List Tok), factorF W ts0 = .ok (x, r) → R0 = partL W r.length x r := fun x r hk => by rw [hR0]; unfold partF; rw [hk]
  have hst : Hid (∀ e w1, FOut (w.alloc (.cells #[.slice none 0 0, .int .u32 0] 89)) g (factorF W ts0) e w1 → ∃ a n c q k, e = .returned (.tuple #[linV (.slice a n c) q, .int .i64 k]) ∧
      ((k = 0 ∧ ∃ ts x, q = x.const ∧ PSt w g w1.heap.size W ts0.length R0 ts x a n c (w1.alloc (.cells #[.slice a n c, .int .u32 q] 89))) ∨ PErr w g w1.heap.size R0 k (w1.alloc (.cells #[.slice a n c, .int .u32 q] 89)))) := by
    intro e w1 hF
    have hg := hF.1
    have hs := hg.size
    rw [hsz0] at hs
    have hmem : ∀ o, PMem w g w1.heap.size (w1.alloc o) := fun o =>
      ⟨grown_trans (grown_trans (World.grownBy_alloc w _ _) hg) (World.grownBy_alloc _ _ _), (ht0.grown hg (by simp; omega)).alloc _, by simp, by omega⟩
    cases hf : factorF W ts0 with
    | error k =>
      have h2 := hF.2
      rw [hf] at h2
      obtain ⟨a, n, c, q, rfl⟩ := h2
      exact ⟨a, n, c, q, k, rfl, .inr ⟨hmem _, hloopE k hf, hff.out.2 _ _ hf, a, n, c, q, two_new _ _ _ _⟩⟩
    | ok p =>
      obtain ⟨x, r⟩ := p
      have h2 := hF.2
      rw [hf] at h2
      obtain ⟨⟨a, n, c, rfl, hown⟩, a1, c1, hR⟩ := h2
      have hl := hff.out.1 _ _ _ hf
      rw [hsz0] at hown
      exact ⟨a, n, c, x.const, 0, rfl, .inl ⟨rfl, r, x, rfl, hmem _, ⟨r.length, Nat.le_refl _, hloopO x r hf⟩, hl.2.2, hl.2.1, ⟨a1, c1, hR.below (below_alloc _ _)⟩, two_new _ _ _ _, hown.alloc _⟩⟩
  clear h hW hI hR0 hloopE hloopO ht0
  go_enter Tryz.func235, Tryz.ntmps235
  go_wp2_with (go_at_call 239; (with_reducible refine (h0.out).mono ?_); intro e w1 hF; obtain ⟨a, n, c, q, k, rfl, hS0⟩ := hst.out e w1 hF; replace hS0 := Hid.intro hS0; clear hF)
  all_goals first | omega | skip
  obtain ⟨p, hp⟩ : ∃ p, p = w1.heap.size := ⟨_, rfl⟩
  rw [← hp] at hS0 ⊢
  clear hp h0 hst
  go_loopw [7] (fun v7 wr => ∃ (k : Int), v7 = .int .i64 k ∧ Hid ((k = 0 ∧ ∃ ts x a n c, PSt w g p W ts0.length R0 ts x a n c wr) ∨ PErr w g p R0 k wr)) (fun v7 wr => pleft g v7 wr)
  case atStart =>
    refine ⟨k, rfl, ?_⟩
    rcases hS0.out with ⟨hk, ts, x, hq, hS⟩ | hE
    · exact .inl ⟨hk, ts, x, a, n, c, hS⟩
    · exact .inr hE
  case round =>
    clear hS0
    obtain ⟨k, rfl, hS⟩ := hrel
    rcases hS.out with ⟨rfl, ts, x, a2, n2, c2, hA⟩ | hE
    · have hAH := Hid.intro hA
      obtain ⟨_, x0, x1, xf0, xf1⟩ := hA.lin
      obtain ⟨a3, c3, hR⟩ := hA.rd
      have hRH := Hid.intro hR
      have hN := hA.few
      have hm1 := hA.mem.size
      have hm2 := hA.mem.lt
      clear hA hR hS
      cases hm : headIs 42 ts
      · have hno := Hid.intro (take_no a3 c3 g 42 ts wr hRH.out hm)
        have hF : Hid (R0 = .ok (x, ts)) := by
          obtain ⟨f, _, hf⟩ := hAH.out.eq
          show R0 = _
          rw [hf, partL_no hm]
        clear hm
        go_wp2_with (go_at_call 234; with_reducible refine (hno.out).mono ?_; rintro e w2 ⟨rfl, hg2, a4, c4, hR2⟩; replace hR2 := Hid.intro hR2; obtain ⟨_, y0, y1, _, _⟩ := hAH.out.lin.grown hg2 (by simp; omega); obtain ⟨th, t0, t1, tf0, tf1⟩ := hAH.out.mem.res.grown hg2 (by simp; omega); replace th := Hid.intro th)
        all_goals first | omega | skip
        obtain ⟨s1, s2⟩ := two_set th.out rfl (.slice a2 n2 c2) (.int .u32 x.const)
        generalize (((w2).setCell ⟨w.heap.size, 0, none⟩ (.slice a2 n2 c2)).setCell ⟨w.heap.size, 1, none⟩ (.int .u32 x.const)) = w9 at s1 s2 ⊢
        obtain ⟨_, z0, z1, _, _⟩ := s1
        refine bodyPost_ret (by simp [results, Tryz.results235, go_sem, z0, z1]; try rfl) rfl ?_
        rw [hF.out]
        have hs2 := hg2.size
        exact ⟨grown_res (grown_trans hAH.out.mem.grown hg2) s2, ⟨_, _, _, rfl, own_weaken (own_low (own_low hAH.out.own hg2 (by omega)) s2 (by omega)) (by omega)⟩, a4, c4, hR2.out.grown s2 (by simp; omega) (fun x hx => by have := hR2.out.ne x hx; simp; omega)⟩
      · obtain ⟨t, r, rfl, ht⟩ : ∃ t r, ts = t :: r ∧ isS t 42 = true := by
          cases ts with
          | nil => cases hm
          | cons t r => exact ⟨t, r, rfl, hm⟩
        have hyes := Hid.intro (take_yes a3 c3 g 42 t r wr hRH.out ht)
        obtain ⟨f, hf1, hf2⟩ := hAH.out.eq
        simp only [List.length_cons] at hf1 hN
        obtain ⟨f, rfl⟩ : ∃ f', f = f' + 1 := ⟨f - 1, by omega⟩
        rw [partL_yes ht] at hf2
        have hleft := Hid.intro hRH.out.left
        clear hm ht
        have hfr := fun (w2 : World) (a4 : Option Addr) (c4 : Nat) (hg2 : wr.grownBy w2 (some g)) (hR2 : Rd w2 g a4 c4 r) => hfac.out (w2.alloc (.cells #[.slice none 0 0, .int .u32 0] 89)) a4 c4 r (hWH.out.keep _ _ (hkeep.out _ (grown_trans hAH.out.mem.grown hg2)) (World.grownBy_alloc _ _ _)) (hR2.below (below_alloc _ _))
        cases hfR : factorF W r with
        | error k =>
          have hk := hff.out.2 _ _ hfR
          have hkz : (k == 0) = false := by rcases hk with rfl | rfl <;> rfl
          have hkH := Hid.intro hk
          rw [hfR] at hfr hf2
          have hfrH := Hid.intro hfr
          have hFE : Hid (R0 = .error k) := hf2
          clear hfr hf2 hfR hk
          go_wp2_with (first
            | (go_at_call 234; with_reducible refine (hyes.out).mono ?_; rintro e w2 ⟨rfl, hg2, a4, c4, hR2⟩; replace hR2 := Hid.intro hR2)
            | (go_at_call 239; (with_reducible refine (hfrH.out _ _ _ hg2 hR2.out).mono ?_); rintro e w3 ⟨hg3, ay, ny, cy, qy, rfl⟩; have hg23 := grown_trans hg2 (grown_trans (World.grownBy_alloc _ _ _) hg3); have hw2s := hg2.size; obtain ⟨yh, y0, y1, yf0, yf1⟩ := (two_new w2 89 (.slice none 0 0) (.int .u32 0)).grown hg3 (by simp; omega); replace yh := Hid.intro yh))
          all_goals first | omega | skip
          go_roundw
          case rel =>
            obtain ⟨s1, s2⟩ := two_set yh.out rfl (.slice ay ny cy) (.int .u32 qy)
            have hl3 := (hAH.out.lin.grown hg23 (by simp; omega)).grown s2 (by simp; omega)
            exact ⟨k, rfl, Hid.intro (.inr ⟨(hAH.out.mem.grown_g hglt hg23).high (by omega) s2, hFE.out, hkH.out, a2, n2, c2, x.const, hl3⟩)⟩
          case measure =>
            have hk0 : k ≠ 0 := by rcases hkH.out with rfl | rfl <;> decide
            simp [pleft, intOf, hk0]
        | ok yr =>
          obtain ⟨y, r'⟩ := yr
          have hless := hff.out.1 _ _ _ hfR
          have hl1 := hless.1
          have hl2 := hless.2.1
          have hgy := Hid.intro hless.2.2
          rw [hfR] at hfr hf2
          simp only at hf2
          have hfrH := Hid.intro hfr
          have hpr := fun (w5 : World) (a1 b1 : Option Addr) (n1 d1 m1 e1 : Nat) (B1 B2 : Nat) (h1 : w5.ownsRow B1 123 2 (.slice a1 n1 d1) x.terms.length (rowT x.terms)) (h2 : w5.ownsRow B2 123 2 (.slice b1 m1 e1) y.terms.length (rowT y.terms)) => prod_own a1 b1 n1 d1 m1 e1 x y B1 B2 w5 h1 h2 (by omega) (by omega)
          cases hP : productF x y with
          | none =>
            rw [hP] at hpr hf2
            have hprH := Hid.intro hpr
            have hFE : Hid (R0 = .error 21) := hf2
            clear hfr hf2 hfR hpr hP hless
            go_wp2_with (first
              | (go_at_call 234; with_reducible refine (hyes.out).mono ?_; rintro e w2 ⟨rfl, hg2, a4, c4, hR2⟩; replace hR2 := Hid.intro hR2)
              | (go_at_call 239; (with_reducible refine (hfrH.out _ _ _ hg2 hR2.out).mono ?_); rintro e w3 ⟨hg3, ⟨ay, ny, cy, rfl, hownY⟩, a5, c5, hR5⟩; replace hownY := Hid.intro hownY; replace hR5 := Hid.intro hR5; have hg23 := grown_trans hg2 (grown_trans (World.grownBy_alloc _ _ _) hg3); have hw2s := hg2.size; have hyy := (two_new w2 89 (.slice none 0 0) (.int .u32 0)).grown hg3 (by simp; omega); have hyset := Hid.intro (two_set hyy.heap rfl (.slice ay ny cy) (.int .u32 y.const)); have hyyH := Hid.intro hyy; obtain ⟨_, y0, y1, yf0, yf1⟩ := hyy; have hxx := hAH.out.lin.grown hg23 (by simp; omega); have hxxH := Hid.intro hxx; obtain ⟨_, z0, z1, zf0, zf1⟩ := hxx; have hne1 : ¬ p = w2.heap.size := (by omega); have hne2 : ¬ w2.heap.size = p := (by omega); have hownX := Hid.intro (own_low hAH.out.own hg23 (by omega)); have hX2 := Hid.intro (own_kept hownX.out hyset.out.2 (own_ne hownX.out hyyH.out)); have hY2 := Hid.intro (own_kept hownY.out hyset.out.2 (own_ne hownY.out hyyH.out)))
              | (go_at_call 240; (with_reducible refine (hprH.out _ _ _ _ _ _ _ _ _ hX2.out hY2.out).mono ?_); rintro e w5 ⟨hb5, rfl⟩; obtain ⟨ph, p0, p1, pf0, pf1⟩ := (hxxH.out.grown hyset.out.2 (by simp; omega)).below hb5 (by have := hyset.out.2.size; have := hg23.size; omega); replace ph := Hid.intro ph))
            all_goals first | omega | skip
            go_roundw
            case rel =>
              obtain ⟨s1, s2⟩ := two_set ph.out rfl (.slice none 0 0) (.int .u32 0)
              exact ⟨21, rfl, Hid.intro (.inr ⟨(((hAH.out.mem.grown_g hglt hg23).high (by omega) hyset.out.2).below hb5).high hm2 s2, hFE.out, .inr rfl, none, 0, 0, 0, s1⟩)⟩
            case measure => simp [pleft, intOf]
          | some z =>
            rw [hP] at hpr hf2
            have hprH := Hid.intro hpr
            have hgz := Hid.intro (productF_good hAH.out.good hgy.out hP)
            have hFE : Hid (R0 = partL W f z r') := hf2
            clear hfr hf2 hfR hpr hP hless
            go_wp2_with (first
              | (go_at_call 234; with_reducible refine (hyes.out).mono ?_; rintro e w2 ⟨rfl, hg2, a4, c4, hR2⟩; replace hR2 := Hid.intro hR2)
              | (go_at_call 239; (with_reducible refine (hfrH.out _ _ _ hg2 hR2.out).mono ?_); rintro e w3 ⟨hg3, ⟨ay, ny, cy, rfl, hownY⟩, a5, c5, hR5⟩; replace hownY := Hid.intro hownY; replace hR5 := Hid.intro hR5; have hg23 := grown_trans hg2 (grown_trans (World.grownBy_alloc _ _ _) hg3); have hw2s := hg2.size; have hyy := (two_new w2 89 (.slice none 0 0) (.int .u32 0)).grown hg3 (by simp; omega); have hyset := Hid.intro (two_set hyy.heap rfl (.slice ay ny cy) (.int .u32 y.const)); have hyyH := Hid.intro hyy; obtain ⟨_, y0, y1, yf0, yf1⟩ := hyy; have hxx := hAH.out.lin.grown hg23 (by simp; omega); have hxxH := Hid.intro hxx; obtain ⟨_, z0, z1, zf0, zf1⟩ := hxx; have hne1 : ¬ p = w2.heap.size := (by omega); have hne2 : ¬ w2.heap.size = p := (by omega); have hownX := Hid.intro (own_low hAH.out.own hg23 (by omega)); have hX2 := Hid.intro (own_kept hownX.out hyset.out.2 (own_ne hownX.out hyyH.out)); have hY2 := Hid.intro (own_kept hownY.out hyset.out.2 (own_ne hownY.out hyyH.out)))
              | (go_at_call 240; (with_reducible refine (hprH.out _ _ _ _ _ _ _ _ _ hX2.out hY2.out).mono ?_); rintro e w5 ⟨hb5, az, nz, cz, rfl, hownZ⟩; replace hownZ := Hid.intro hownZ; obtain ⟨ph, p0, p1, pf0, pf1⟩ := (hxxH.out.grown hyset.out.2 (by simp; omega)).below hb5 (by have := hyset.out.2.size; have := hg23.size; omega); replace ph := Hid.intro ph))
            all_goals first | omega | skip
            go_roundw
            case rel =>
              obtain ⟨s1, s2⟩ := two_set ph.out rfl (.slice az nz cz) (.int .u32 z.const)
              have hz5 := hyset.out.2.size
              have hz6 := hg23.size
              have hz7 := hb5.size
              refine ⟨0, rfl, Hid.intro (.inl ⟨rfl, r', z, az, nz, cz, (((hAH.out.mem.grown_g hglt hg23).high (by omega) hyset.out.2).below hb5).high hm2 s2, ⟨f, by omega, hFE.out⟩, hgz.out.1, ?_, ⟨a5, c5, ?_⟩, s1, ?_⟩)⟩
              · rcases hgz.out.2 with h | h <;> omega
              · exact ((hR5.out.grown hyset.out.2 (by simp; omega) (fun x hx => by have := hR5.out.ne x hx; simp; omega)).below hb5).grown s2 (by simp; omega) (fun x hx => by have := hR5.out.ne x hx; simp; omega)
              · exact own_weaken (own_low hownZ.out s2 (by omega)) (by omega)
            case measure =>
              obtain ⟨s1, s2⟩ := two_set ph.out rfl (.slice az nz cz) (.int .u32 z.const)
              have hR9 := ((hR5.out.grown hyset.out.2 (by simp; omega) (fun x hx => by have := hR5.out.ne x hx; simp; omega)).below hb5).grown s2 (by simp; omega) (fun x hx => by have := hR5.out.ne x hx; simp; omega)
              simp only [pleft, intOf, if_true]
              rw [hR9.left, hleft.out]
              simp
              omega
    · obtain ⟨a5, n5, c5, q5, hlin⟩ := hE.lin
      have hEH := Hid.intro hE
      have hkz : (k == 0) = false := by rcases hE.ne with rfl | rfl <;> rfl
      obtain ⟨_, x0, x1, _, _⟩ := hlin
      obtain ⟨th, t0, t1, tf0, tf1⟩ := hE.mem.res
      replace th := Hid.intro th
      clear hE hS
      go_wp2
      all_goals first | omega | skip
      obtain ⟨s1, s2⟩ := two_set th.out rfl (.slice a5 n5 c5) (.int .u32 q5)
      generalize (((wr).setCell ⟨w.heap.size, 0, none⟩ (.slice a5 n5 c5)).setCell ⟨w.heap.size, 1, none⟩ (.int .u32 q5)) = w9 at s1 s2 ⊢
      obtain ⟨_, z0, z1, _, _⟩ := s1
      refine bodyPost_ret (by simp [results, Tryz.results235, go_sem, z0, z1]; try rfl) rfl ?_
      rw [hEH.out.eq]
      exact ⟨grown_res hEH.out.mem.grown s2, _, _, _, _, rfl⟩
end Go.Proofs.YtogkchgjpflmjaaGreatDoor

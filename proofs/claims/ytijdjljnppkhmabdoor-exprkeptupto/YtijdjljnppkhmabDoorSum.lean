/- expr.Parse: sums, within each other. -/
import Derived.Test.YtijdjljnppkhmabDoorPart
namespace Go.Proofs.YtijdjljnppkhmabDoor
open Go.ChangeShapes Go.WideShapes Go.ChangeAt Go.RowKit
set_option linter.unusedVariables false
set_option maxRecDepth 100000

theorem sumL_stable {W : List Tok → PRes} (hW : Fine W) : ∀ (f f' : Nat) (acc : List Tm) (n : Int) (ts : List Tok), ts.length ≤ f → ts.length ≤ f' → sumL W f acc n ts = sumL W f' acc n ts := by
  intro f
  induction f with
  | zero =>
    intro f' acc n ts h1 h2
    have : ts = [] := List.eq_nil_of_length_eq_zero (by omega)
    subst this
    cases f' <;> rfl
  | succ f ih =>
    intro f' acc n ts h1 h2
    cases ts with
    | nil => cases f' <;> rfl
    | cons t r =>
      simp only [List.length_cons] at h1 h2
      obtain ⟨f', rfl⟩ : ∃ k, f' = k + 1 := ⟨f' - 1, by omega⟩
      rw [sumL, sumL]
      cases hP : partF W r with
      | error e => rfl
      | ok p =>
        obtain ⟨x, r'⟩ := p
        have hl := ((partF_fine hW).1 _ _ _ hP).1
        simp only
        rw [ih f' (acc ++ x.terms) _ r' (by omega) (by omega), ih f' (acc ++ timesT x.terms 4294967295) _ r' (by omega) (by omega)]

/-- the rest of a sum -/
def sumS (W : List Tok → PRes) (acc : List Tm) (n : Int) (ts : List Tok) : PRes := sumL W ts.length acc n ts

def contP (W : List Tok → PRes) (acc : List Tm) (n : Int) : PRes → PRes
  | .error e => .error e
  | .ok (x, r) => sumS W (acc ++ x.terms) ((n + x.const) % 4294967296) r
def contM (W : List Tok → PRes) (acc : List Tm) (n : Int) : PRes → PRes
  | .error e => .error e
  | .ok (x, r) => sumS W (acc ++ timesT x.terms 4294967295) ((n + x.const * 4294967295 % 4294967296) % 4294967296) r

theorem sumF_cont {W : List Tok → PRes} (hW : Fine W) (ts : List Tok) : sumF W ts = contP W [] 0 (partF W ts) := by
  unfold sumF
  cases hP : partF W ts with
  | error e => rfl
  | ok p =>
    obtain ⟨x, r⟩ := p
    have hg := ((partF_fine hW).1 _ _ _ hP).2.2
    simp only [contP, List.nil_append, Int.zero_add]
    rw [Int.emod_eq_of_lt hg.lo hg.hi]
    rfl

theorem sumS_plus {W : List Tok → PRes} (hW : Fine W) {acc : List Tm} {n : Int} {t : Tok} {r : List Tok} (h : isS t 43 = true) : sumS W acc n (t :: r) = contP W acc n (partF W r) := by
  unfold sumS
  rw [List.length_cons, sumL, if_pos h]
  cases hP : partF W r with
  | error e => rfl
  | ok p =>
    obtain ⟨x, r'⟩ := p
    have hl := ((partF_fine hW).1 _ _ _ hP).1
    exact sumL_stable hW _ _ _ _ _ (by omega) (Nat.le_refl _)

theorem isS_other {t : Tok} {c d : UInt8} (h : isS t c = true) (hne : c ≠ d) : isS t d = false := by
  have ht := isS_text h
  simp [isS, ht, hne]

theorem sumS_minus {W : List Tok → PRes} (hW : Fine W) {acc : List Tm} {n : Int} {t : Tok} {r : List Tok} (h : isS t 45 = true) : sumS W acc n (t :: r) = contM W acc n (partF W r) := by
  unfold sumS
  rw [List.length_cons, sumL, if_neg (by rw [isS_other h (by decide)]; decide), if_pos h]
  cases hP : partF W r with
  | error e => rfl
  | ok p =>
    obtain ⟨x, r'⟩ := p
    have hl := ((partF_fine hW).1 _ _ _ hP).1
    exact sumL_stable hW _ _ _ _ _ (by omega) (Nat.le_refl _)

theorem sumS_end {W : List Tok → PRes} {acc : List Tm} {n : Int} {ts : List Tok} (h1 : headIs 43 ts = false) (h2 : headIs 45 ts = false) : sumS W acc n ts = .ok (⟨norm acc, n⟩, ts) := by
  unfold sumS
  cases ts with
  | nil => rfl
  | cons t r => rw [List.length_cons, sumL, if_neg (by rw [show isS t 43 = false from h1]; decide), if_neg (by rw [show isS t 45 = false from h2]; decide)]

/-- take("+", "-") -/
theorem take_pm (a : Option Addr) (cc g : Nat) (ts : List Tok) (W : World) (h : Rd W g a cc ts) :
    Calls Tryd.prog 28 #[.pointer (some ⟨g, 0, none⟩), .slice (some ⟨W.heap.size, 0, none⟩) 2 2] (W.alloc (.cells #[.string ⟨#[43]⟩, .string ⟨#[45]⟩] 9)) fun e w' => e = .returned (.string (str (takenS [43, 45] ts))) ∧ W.grownBy w' (some g) ∧ ∃ a' c', Rd w' g a' c' (takenR [43, 45] ts) := by
  refine (take_any a cc g W.heap.size 2 [43, 45] ts (W.alloc (.cells #[.string ⟨#[43]⟩, .string ⟨#[45]⟩] 9)) (by simp) (h.below (below_alloc W _)) ?_).mono ?_
  · intro j x hj
    rw [cell_of_row _ _ _ _ 9 (0, 0) (heap_alloc_new W _)]
    match j, hj with
    | 0, hj => simp at hj; subst hj; rfl
    | 1, hj => simp at hj; subst hj; rfl
  · rintro e w' ⟨rfl, hg, hR⟩
    exact ⟨rfl, grown_trans (grown_wide (grown_of_below (below_alloc W _)) _) hg, hR⟩

/-- what stands behind a sign that was taken -/
inductive Sg (W : List Tok → PRes) (R0 : PRes) (acc : List Tm) (n : Int) (ts : List Tok) : List UInt8 → Prop
  | plus : R0 = contP W acc n (partF W ts) → Sg W R0 acc n ts [43]
  | minus : R0 = contM W acc n (partF W ts) → Sg W R0 acc n ts [45]
  | done : R0 = .ok (⟨norm acc, n⟩, ts) → Sg W R0 acc n ts []

theorem sg_taken {W : List Tok → PRes} (hW : Fine W) {R0 : PRes} {acc : List Tm} {n : Int} {ts : List Tok} (h : R0 = sumS W acc n ts) : Sg W R0 acc n (takenR [43, 45] ts) (takenS [43, 45] ts) := by
  cases ts with
  | nil => exact .done (by rw [h]; exact sumS_end rfl rfl)
  | cons t r =>
    cases h1 : isS t 43
    · cases h2 : isS t 45
      · have ho : oneOf [43, 45] t = false := by simp [oneOf, h1, h2]
        have e1 : takenS [43, 45] (t :: r) = [] := by simp [takenS, ho]
        have e2 : takenR [43, 45] (t :: r) = t :: r := by simp [takenR, ho]
        rw [e1, e2]
        exact .done (by rw [h]; exact sumS_end h1 h2)
      · have ho : oneOf [43, 45] t = true := by simp [oneOf, h2]
        have e1 : takenS [43, 45] (t :: r) = [45] := by simp [takenS, ho, isS_text h2]
        have e2 : takenR [43, 45] (t :: r) = r := by simp [takenR, ho]
        rw [e1, e2]
        exact .minus (by rw [h]; exact sumS_minus hW h2)
    · have ho : oneOf [43, 45] t = true := by simp [oneOf, h1]
      have e1 : takenS [43, 45] (t :: r) = [43] := by simp [takenS, ho, isS_text h1]
      have e2 : takenR [43, 45] (t :: r) = r := by simp [takenR, ho]
      rw [e1, e2]
      exact .plus (by rw [h]; exact sumS_plus hW h1)

theorem takenR_len (ss : List UInt8) (ts : List Tok) : (takenR ss ts).length ≤ ts.length := by
  cases ts with
  | nil => simp [takenR]
  | cons t r => simp only [takenR]; split <;> simp

/-- the closure sum, in its own variable -/
structure Cap (w : World) (gs g : Nat) : Prop where
  fn : w.cell? ⟨gs, 0, none⟩ = some (.func (.func 26) #[] #[.pointer (some ⟨gs, 0, none⟩), .pointer (some ⟨g, 0, none⟩)])
  ne : gs ≠ g
  lt : gs < w.heap.size

theorem Cap.keep {w w' : World} {gs g : Nat} (h : Cap w gs g) (hg : w.grownBy w' (some g)) : Cap w' gs g := ⟨hg.cell h.fn (fun e => h.ne (by injection e)), h.ne, Nat.lt_of_lt_of_le h.lt hg.size⟩

theorem Rd.low {w w' : World} {g : Nat} {a : Option Addr} {c : Nat} {ts : List Tok} {B : Nat} (h : Rd w g a c ts) (hb : Below B w w') (hB : g < B) : Rd w' g a c ts := by
  refine ⟨by rw [hb.block g hB]; exact h.heap, ?_, h.ne, h.cap, h.most, h.few, h.short⟩
  rcases h.lies with hl | ⟨gt, o, ha, hgt, hl⟩
  · exact .inl hl
  · have hlt := h.ne _ ha
    simp only at hlt
    refine .inr ⟨gt, o, ha, Nat.lt_of_lt_of_le hgt hb.size, fun i t hi => ?_⟩
    obtain ⟨q0, q1, q2, q3⟩ := hl i t hi
    exact ⟨by rw [hb.cell (p := ⟨gt, _, none⟩) (by simp only; omega)]; exact q0, by rw [hb.cell (p := ⟨gt, _, none⟩) (by simp only; omega)]; exact q1, by rw [hb.cell (p := ⟨gt, _, none⟩) (by simp only; omega)]; exact q2, by rw [hb.cell (p := ⟨gt, _, none⟩) (by simp only; omega)]; exact q3⟩

theorem grown_low {w wr w2 : World} {g B : Nat} (h : w.grownBy wr (some g)) (hb : Below B wr w2) (hB : w.heap.size ≤ B) : w.grownBy w2 (some g) :=
  ⟨hb.os.trans h.os, hb.tape.trans h.tape, hb.output.trans h.output, Nat.le_trans h.size hb.size, fun k hk hne => by rw [hb.block k (by omega), h.block k hk hne]⟩

theorem grown_high {w w4 w9 : World} {g q : Nat} (h : w.grownBy w4 (some g)) (s2 : w4.grownBy w9 (some q)) (hq : w.heap.size ≤ q) : w.grownBy w9 (some g) :=
  ⟨s2.os.trans h.os, s2.tape.trans h.tape, s2.output.trans h.output, Nat.le_trans h.size s2.size, fun k hk hne => by rw [s2.block k (Nat.lt_of_lt_of_le hk h.size) (fun e => by injection e with e; omega), h.block k hk hne]⟩

theorem grown_own {w w4 w9 : World} {g : Nat} {v : Value} (h : w.grownBy w4 (some g)) (s2 : w4.grownBy w9 v.ownBlock) (hq : ∀ k, v.ownBlock = some k → w.heap.size ≤ k) : w.grownBy w9 (some g) :=
  ⟨s2.os.trans h.os, s2.tape.trans h.tape, s2.output.trans h.output, Nat.le_trans h.size s2.size, fun k hk hne => by rw [s2.block k (Nat.lt_of_lt_of_le hk h.size) (fun e => by have := hq k e.symm; omega), h.block k hk hne]⟩

/-- where a sum stands -/
structure SSt (w : World) (g gs op : Nat) (W : List Tok → PRes) (N : Nat) (R0 : PRes) (acc : List Tm) (n : Int) (ts : List Tok) (sg : List UInt8) (a : Option Addr) (m c : Nat) (wr : World) : Prop where
  sg : Sg W R0 acc n ts sg
  few : acc.length + ts.length ≤ N
  rd : ∃ a c, Rd wr g a c ts
  own : wr.ownsRow (w.heap.size + 1 + 1) 30 2 (.slice a m c) acc.length (rowT acc)
  grown : w.grownBy wr (some g)
  cap : Cap wr gs g
  box : wr.cell? ⟨w.heap.size, 0, none⟩ = some (.int .i64 (op : Int))
  res : Two wr (w.heap.size + 1) 25 (.slice none 0 0) (.int .u32 0)
  size : w.heap.size + 1 + 1 ≤ wr.heap.size
  low : gs < w.heap.size

def SumOK (d : Nat) : Prop := ∀ (op : Nat) (w : World) (g gs : Nat) (a : Option Addr) (c : Nat) (ts : List Tok), op + d = 33 → Rd w g a c ts → Cap w gs g → Calls Tryd.prog 26 #[.int .i64 (op : Int), .pointer (some ⟨gs, 0, none⟩), .pointer (some ⟨g, 0, none⟩)] w fun e w' => WOut w g (sumD d ts) e w'

theorem within_runs (d op g gs go : Nat) (hod : op + 1 + d = 33) (hgo : go ≠ g) (ih : SumOK d) : Within g (fun w => Cap w gs g ∧ w.cell? ⟨go, 0, none⟩ = some (.int .i64 (op : Int))) #[.pointer (some ⟨gs, 0, none⟩), .pointer (some ⟨go, 0, none⟩)] (sumD d) := by
  refine ⟨fun w w' ⟨h1, h2⟩ hg => ⟨h1.keep hg, hg.cell h2 (fun e => hgo (by injection e))⟩, sumD_fine d, fun w a c ts ⟨hC, ho⟩ hR => ?_⟩
  have hf : ∀ o, (w.alloc o).cell? ⟨gs, 0, none⟩ = some (.func (.func 26) #[] #[.pointer (some ⟨gs, 0, none⟩), .pointer (some ⟨g, 0, none⟩)]) := fun o => (World.grownBy_alloc w o none).cell hC.fn (by simp)
  have ho' : ∀ o, (w.alloc o).cell? ⟨go, 0, none⟩ = some (.int .i64 (op : Int)) := fun o => (World.grownBy_alloc w o none).cell ho (by simp)
  have hop : op ≤ 32 := by omega
  have hrun := fun o => ih (op + 1) (w.alloc o) g gs a c ts hod (hR.below (below_alloc w o)) (hC.keep (World.grownBy_alloc w o _))
  rw [show ((op + 1 : Nat) : Int) = (op : Int) + 1 by omega] at hrun
  have hglt := hR.lt
  cases hS : sumD d ts with
  | error k =>
    rw [hS] at hrun
    have hrunH := Hid.intro hrun
    clear hrun hR hC ho hS
    go_enter Tryd.func27, Tryd.ntmps27
    go_wp2_with (go_at_call 26; (with_reducible refine (hrunH.out _).mono ?_); rintro e w1 ⟨hg1, rfl⟩; obtain ⟨th, t0, t1, tf0, tf1⟩ := (two_new w 25 (.slice none 0 0) (.int .u32 0)).grown hg1 (by simp; omega); replace th := Hid.intro th)
    all_goals first | omega | skip
    obtain ⟨s1, s2⟩ := two_set th.out rfl (.slice none 0 0) (.int .u32 0)
    generalize (((w1).setCell ⟨w.heap.size, 0, none⟩ (.slice none 0 0)).setCell ⟨w.heap.size, 1, none⟩ (.int .u32 0)) = w9 at s1 s2 ⊢
    obtain ⟨_, z0, z1, _, _⟩ := s1
    refine bodyPost_ret (by simp [results, Tryd.results27, go_sem, z0, z1]; try rfl) rfl ?_
    exact ⟨grown_res (grown_trans (World.grownBy_alloc w _ _) hg1) s2, rfl⟩
  | ok p =>
    obtain ⟨x, r⟩ := p
    rw [hS] at hrun
    have hrunH := Hid.intro hrun
    clear hrun hR hC ho hS
    go_enter Tryd.func27, Tryd.ntmps27
    go_wp2_with (go_at_call 26; (with_reducible refine (hrunH.out _).mono ?_); rintro e w1 ⟨hg1, ⟨a1, n1, c1, rfl, hown⟩, a2, c2, hR2⟩; replace hown := Hid.intro hown; replace hR2 := Hid.intro hR2; obtain ⟨th, t0, t1, tf0, tf1⟩ := (two_new w 25 (.slice none 0 0) (.int .u32 0)).grown hg1 (by simp; omega); replace th := Hid.intro th)
    all_goals first | omega | skip
    obtain ⟨s1, s2⟩ := two_set th.out rfl (.slice a1 n1 c1) (.int .u32 x.const)
    generalize (((w1).setCell ⟨w.heap.size, 0, none⟩ (.slice a1 n1 c1)).setCell ⟨w.heap.size, 1, none⟩ (.int .u32 x.const)) = w9 at s1 s2 ⊢
    obtain ⟨_, z0, z1, _, _⟩ := s1
    refine bodyPost_ret (by simp [results, Tryd.results27, go_sem, z0, z1]; try rfl) rfl ?_
    have hown2 := hown.out
    simp only [World.size_alloc] at hown2
    exact ⟨grown_res (grown_trans (World.grownBy_alloc w _ _) hg1) s2, ⟨_, _, _, rfl, own_weaken (own_low hown2 s2 (by omega)) (by omega)⟩, a2, c2, hR2.out.grown s2 (by simp; omega) (fun x hx => by have := hR2.out.ne x hx; simp; omega)⟩

set_option maxHeartbeats 1000000 in
theorem sum_zero : SumOK 0 := by
  intro op w g gs a c ts hop hR hC
  have ho : op = 33 := by omega
  subst ho
  clear hR hC
  go_enter Tryd.func26, Tryd.ntmps26
  go_wp2
  all_goals first | omega | skip
  have s1 := two_new (w.alloc (.cells #[.int .i64 33] 3)) 25 (.slice none 0 0) (.int .u32 0)
  have hb9 := (below_alloc w (.cells #[.int .i64 33] 3)).alloc (by simp) (.cells #[.slice none 0 0, .int .u32 0] 25)
  simp only [World.size_alloc] at s1
  generalize ((w.alloc (.cells #[.int .i64 33] 3)).alloc (.cells #[.slice none 0 0, .int .u32 0] 25)) = w9 at s1 hb9 ⊢
  obtain ⟨_, z0, z1, _, _⟩ := s1
  refine bodyPost_ret (by simp [results, Tryd.results26, go_sem, z0, z1]; try rfl) rfl ?_
  exact ⟨grown_wide (grown_of_below hb9) _, rfl⟩

/-- what stays while a sum is read -/
structure SK (w : World) (g gs op : Nat) (w2 : World) : Prop where
  grown : w.grownBy w2 (some g)
  cap : Cap w2 gs g
  box : w2.cell? ⟨w.heap.size, 0, none⟩ = some (.int .i64 (op : Int))
  res : Two w2 (w.heap.size + 1) 25 (.slice none 0 0) (.int .u32 0)
  size : w.heap.size + 1 + 1 ≤ w2.heap.size
  low : gs < w.heap.size

theorem SK.step {w : World} {g gs op : Nat} {w2 w3 : World} {k : Option Nat} (h : SK w g gs op w2) (hg : w2.grownBy w3 k) (hk : ∀ q, k = some q → w.heap.size + 1 + 1 ≤ q ∨ q = g) (hglt : g < w.heap.size) : SK w g gs op w3 := by
  have hne : ∀ b, b < w.heap.size + 1 + 1 → b ≠ g → some b ≠ k := fun b hb hbg e => by
    rcases hk b e.symm with h1 | h1 <;> omega
  refine ⟨⟨hg.os.trans h.grown.os, hg.tape.trans h.grown.tape, hg.output.trans h.grown.output, Nat.le_trans h.grown.size hg.size, fun b hb hbn => ?_⟩, ⟨hg.cell h.cap.fn (hne gs (by have := h.low; omega) h.cap.ne), h.cap.ne, Nat.lt_of_lt_of_le h.cap.lt hg.size⟩, hg.cell h.box (hne _ (by simp only; omega) (by simp only; omega)), h.res.grown hg (fun e => hne (w.heap.size + 1) (by omega) (by omega) e.symm), Nat.le_trans h.size hg.size, h.low⟩
  have hbg : b ≠ g := fun e => hbn (by rw [e])
  rw [hg.block b (Nat.lt_of_lt_of_le hb h.grown.size) (hne b (by omega) hbg), h.grown.block b hb hbn]

theorem SSt.sk {w : World} {g gs op : Nat} {W : List Tok → PRes} {N : Nat} {R0 : PRes} {acc : List Tm} {n : Int} {ts : List Tok} {sg : List UInt8} {a : Option Addr} {m c : Nat} {wr : World} (h : SSt w g gs op W N R0 acc n ts sg a m c wr) : SK w g gs op wr := ⟨h.grown, h.cap, h.box, h.res, h.size, h.low⟩

theorem SSt.of {w : World} {g gs op : Nat} {W : List Tok → PRes} {N : Nat} {R0 : PRes} {acc : List Tm} {n : Int} {ts : List Tok} {sg : List UInt8} {a : Option Addr} {m c : Nat} {wr : World} (h : SK w g gs op wr) (h1 : Sg W R0 acc n ts sg) (h2 : acc.length + ts.length ≤ N) (h3 : ∃ a c, Rd wr g a c ts) (h4 : wr.ownsRow (w.heap.size + 1 + 1) 30 2 (.slice a m c) acc.length (rowT acc)) : SSt w g gs op W N R0 acc n ts sg a m c wr :=
  ⟨h1, h2, h3, h4, h.grown, h.cap, h.box, h.res, h.size, h.low⟩

theorem SSt.keep {w : World} {g gs op : Nat} {W : List Tok → PRes} {N : Nat} {R0 : PRes} {acc : List Tm} {n : Int} {ts : List Tok} {sg : List UInt8} {a : Option Addr} {m c : Nat} {wr : World} (h : SSt w g gs op W N R0 acc n ts sg a m c wr) {w' : World} (hg : wr.grownBy w' (some g)) (hglt : g < w.heap.size) :
    w.grownBy w' (some g) ∧ Cap w' gs g ∧ w'.cell? ⟨w.heap.size, 0, none⟩ = some (.int .i64 (op : Int)) ∧ Two w' (w.heap.size + 1) 25 (.slice none 0 0) (.int .u32 0) ∧ w'.ownsRow (w.heap.size + 1 + 1) 30 2 (.slice a m c) acc.length (rowT acc) :=
  ⟨grown_trans h.grown hg, h.cap.keep hg, hg.cell h.box (by simp; omega), h.res.grown hg (by simp; omega), own_low h.own hg (by omega)⟩

set_option maxHeartbeats 4000000 in
theorem sum_step (d : Nat) (ih : SumOK d) : SumOK (d + 1) := by
  intro op w g gs a c ts0 hop hR hC
  have hglt := hR.lt
  have hfew := hR.few
  have hWI := within_runs d op g gs w.heap.size (by omega) (by omega) ih
  have hpf := Hid.intro (partF_fine (sumD_fine d))
  have hWF := Hid.intro (sumD_fine d)
  have hpart := Hid.intro (fun (wr : World) (a : Option Addr) (c : Nat) (ts : List Tok) (h1 : Cap wr gs g) (h2 : wr.cell? ⟨w.heap.size, 0, none⟩ = some (.int .i64 (op : Int))) (hR : Rd wr g a c ts) => part_any a c g _ _ _ hWI ts wr ⟨h1, h2⟩ hR)
  have hb0 : Below w.heap.size w ((w.alloc (.cells #[.int .i64 (op : Int)] 3)).alloc (.cells #[.slice none 0 0, .int .u32 0] 25)) := (below_alloc w _).alloc (by simp) _
  have hstart : Hid (SSt w g gs op (sumD d) ts0.length (sumD (d + 1) ts0) [] 0 ts0 [43] none 0 0 ((w.alloc (.cells #[.int .i64 (op : Int)] 3)).alloc (.cells #[.slice none 0 0, .int .u32 0] 25))) := by
    refine ⟨.plus (sumF_cont (sumD_fine d) ts0), by simp, ⟨a, c, hR.below hb0⟩, World.ownsRow_nil _ _ _ _, grown_wide (grown_of_below hb0) _, hC.keep (grown_wide (grown_of_below hb0) _), ?_, ?_, by simp, hC.lt⟩
    · refine (World.grownBy_alloc _ _ none).cell ?_ (by simp)
      rw [cell_of_row _ _ _ _ 3 (0, 0) (heap_alloc_new w _)]
      rfl
    · have := two_new (w.alloc (.cells #[.int .i64 (op : Int)] 3)) 25 (.slice none 0 0) (.int .u32 0)
      simpa using this
  obtain ⟨R0, hR0⟩ : ∃ R0, R0 = sumD (d + 1) ts0 := ⟨_, rfl⟩
  rw [← hR0] at hstart ⊢
  obtain ⟨N, hN⟩ : ∃ N, N = ts0.length := ⟨_, rfl⟩
  rw [← hN] at hstart hfew
  have hop32 : op ≤ 32 := by omega
  clear hR hC hR0 hb0 hWI hN hop ih
  go_enter Tryd.func26, Tryd.ntmps26
  go_wp2
  all_goals first | omega | skip
  go_loopw [7, 8, 9] (fun v7 v8 v9 wr => ∃ (acc : List Tm) (n : Int) (ts : List Tok) (sg : List UInt8) (a : Option Addr) (m c : Nat), v7 = .slice a m c ∧ v8 = .int .u32 n ∧ v9 = .string (str sg) ∧ Hid (SSt w g gs op (sumD d) N R0 acc n ts sg a m c wr)) (fun _ _ _ wr => leftOf g wr)
  case atStart => exact ⟨[], 0, ts0, [43], none, 0, 0, rfl, rfl, rfl, hstart⟩
  case round =>
    clear hstart
    obtain ⟨acc, n, ts, sg, a1, m1, c1, rfl, rfl, rfl, hS⟩ := hrel
    obtain ⟨a2, c2, hR⟩ := hS.out.rd
    have hRH := Hid.intro hR
    have hl := Hid.intro hR.left
    have hsz := hS.out.size
    have hfN := hS.out.few
    have hm1 := Hid.intro (own_len hS.out.own)
    have hp1 := Hid.intro (hpart.out wr a2 c2 ts hS.out.cap hS.out.box hR)
    clear hR
    have hsg := hS.out.sg
    have e43 : str [43] = ⟨#[43]⟩ := rfl
    have e45 : str [45] = ⟨#[45]⟩ := rfl
    have e0 : str [] = ⟨#[]⟩ := rfl
    cases hsg with
    | done hdone =>
      have hdH := Hid.intro hdone
      have hG := Hid.intro (gather_any (.slice a1 m1 c1) acc n (w.heap.size + 1 + 1) wr (by omega) hsz hS.out.own)
      rw [e0] at *
      clear hdone
      go_wp2_with (go_at_call 23; (with_reducible refine (hG.out).mono ?_); rintro e w2 ⟨hb2, v2, rfl, hown2⟩; obtain ⟨a3, c3, rfl⟩ := own_slice hown2; replace hown2 := Hid.intro hown2; obtain ⟨th, t0, t1, tf0, tf1⟩ := hS.out.res.below hb2 (by omega); replace th := Hid.intro th)
      all_goals first | omega | skip
      obtain ⟨s1, s2⟩ := two_set th.out rfl (.slice a3 (norm acc).length c3) (.int .u32 n)
      generalize (((w2).setCell ⟨w.heap.size + 1, 0, none⟩ (.slice a3 (norm acc).length c3)).setCell ⟨w.heap.size + 1, 1, none⟩ (.int .u32 n)) = w9 at s1 s2 ⊢
      obtain ⟨_, z0, z1, _, _⟩ := s1
      refine bodyPost_ret (by simp [results, Tryd.results26, go_sem, z0, z1]; try rfl) rfl ?_
      rw [hdH.out]
      have hR5 := (hRH.out.low hb2 (by omega)).grown s2 (by simp; omega) (fun x hx => by have := hRH.out.ne x hx; simp; omega)
      exact ⟨grown_high (grown_low hS.out.grown hb2 (by omega)) s2 (by omega), ⟨a3, _, c3, rfl, own_weaken (own_low hown2.out s2 (by omega)) (by omega)⟩, a2, c2, hR5⟩
    | plus hplus =>
      have hPp := hplus
      clear hplus
      rw [e43] at *
      cases hP : partF (sumD d) ts with
      | error k =>
        have hk := hpf.out.2 _ _ hP
        have hkz : (k != 0) = true := by rcases hk with rfl | rfl <;> rfl
        have hFE : Hid (R0 = .error k) := by show R0 = _; rw [hPp, hP]; rfl
        rw [hP] at hp1
        clear hP hPp hk
        go_wp2_with (first
          | (go_at_call 29; (with_reducible refine (hp1.out).mono ?_); rintro e w2 ⟨hg2, ax, nx, cx, qx, rfl⟩; obtain ⟨k1, k2, k3, k4, k5⟩ := hS.out.keep hg2 hglt; obtain ⟨th, t0, t1, tf0, tf1⟩ := k4.alloc (.cells #[.slice ax nx cx, .int .u32 qx] 25); replace th := Hid.intro th; replace k2 := Hid.intro k2; replace k3 := Hid.intro k3; replace k5 := Hid.intro k5))
        all_goals first | omega | skip
        obtain ⟨s1, s2⟩ := two_set th.out rfl (.slice none 0 0) (.int .u32 0)
        generalize (((w2.alloc (.cells #[.slice ax nx cx, .int .u32 qx] 25)).setCell ⟨w.heap.size + 1, 0, none⟩ (.slice none 0 0)).setCell ⟨w.heap.size + 1, 1, none⟩ (.int .u32 0)) = w9 at s1 s2 ⊢
        obtain ⟨_, z0, z1, _, _⟩ := s1
        refine bodyPost_ret (by simp [results, Tryd.results26, go_sem, z0, z1]; try rfl) rfl ?_
        rw [hFE.out]
        exact ⟨grown_high (grown_trans k1 (World.grownBy_alloc _ _ _)) s2 (by omega), rfl⟩
      | ok xr =>
        obtain ⟨x, r⟩ := xr
        have hless := hpf.out.1 _ _ _ hP
        have hl1 := hless.1
        have hl2 := hless.2.1
        have hFE : Hid (R0 = sumS (sumD d) (acc ++ x.terms) ((n + x.const) % 4294967296) r) := by show R0 = _; rw [hPp, hP]; rfl
        rw [hP] at hp1
        clear hP hPp hless
        go_wp2_with (first
          | (go_at_call 29; (with_reducible refine (hp1.out).mono ?_); rintro e w2 ⟨hg2, ⟨ax, nx, cx, rfl, hownX⟩, a3, c3, hR3⟩; have hs2 := hg2.size; obtain ⟨k1, k2, k3, k4, k5⟩ := hS.out.keep hg2 hglt; replace k1 := Hid.intro k1; replace k2 := Hid.intro k2; replace k3 := Hid.intro k3; replace k4 := Hid.intro k4; replace k5 := Hid.intro k5; replace hR3 := Hid.intro hR3; have hnx := Hid.intro (own_len hownX); replace hownX := Hid.intro hownX; have hnx2 : nx ≤ 1100000 := (by rw [hnx.out]; omega))
          | (at_builtin; go_must (refine app_terms _ rfl (.tmp 36) (.tmp 38) rfl (w.heap.size + 1 + 1) (.slice a1 m1 c1) m1 acc x.terms hm1.out rfl (by have := k5.out.alloc (.cells #[.slice ax nx cx, .int .u32 x.const] 25); rwa [← hm1.out] at this) ax cx nx hnx.out rfl (own_held (hownX.out.alloc _)) (by rw [hm1.out]; omega) (by simp; omega) ?_; intro a7 c7 w3 hown3 hgrow3; replace hown3 := Hid.intro hown3; have htp := Hid.intro ((two_new w2 25 (.slice ax nx cx) (.int .u32 x.const)).grown hgrow3 (own_ne (k5.out.alloc _) (two_new w2 25 (.slice ax nx cx) (.int .u32 x.const)))); obtain ⟨_, u0, u1, _, _⟩ := htp.out; have hs3 := hgrow3.size; have hR4 := Hid.intro ((hR3.out.below (below_alloc w2 (.cells #[.slice ax nx cx, .int .u32 x.const] 25))).grown hgrow3 (fun e => by have := (k5.out.lt _ e).1; omega) (fun y hy e => by have h1 := hR3.out.ne y hy; have h2 := (k5.out.lt _ e.symm).1; omega)); have hpm := Hid.intro (take_pm a3 c3 g r w3 hR4.out)))
          | (go_at_call 28; (with_reducible refine (hpm.out).mono ?_); rintro e w4 ⟨rfl, hg4, a8, c8, hR8⟩; replace hR8 := Hid.intro hR8))
        all_goals first | omega | skip
        go_roundw
        case rel =>
          have hlen : (acc ++ x.terms).length = m1 + nx := by rw [List.length_append, hm1.out, hnx.out]
          have htl := takenR_len [43, 45] r
          refine ⟨acc ++ x.terms, (n + x.const) % 4294967296, takenR [43, 45] r, takenS [43, 45] r, a7, m1 + nx, c7, rfl, rfl, rfl, Hid.intro (SSt.of ?_ (sg_taken hWF.out hFE.out) ?_ ⟨a8, c8, hR8.out⟩ ?_)⟩
          · exact (((hS.out.sk.step hg2 (fun q hq => by cases hq; exact .inr rfl) hglt).step (World.grownBy_alloc _ _ none) (fun q hq => by cases hq) hglt).step hgrow3 (fun q hq => .inl (k5.out.lt q hq).1) hglt).step hg4 (fun q hq => by cases hq; exact .inr rfl) hglt
          · rw [List.length_append]; omega
          · rw [hlen]; exact own_low hown3.out hg4 (by omega)
        case measure =>
          have htl := takenR_len [43, 45] r
          rw [hR8.out.left, hl.out]
          omega
    | minus hminus =>
      have hPp := hminus
      clear hminus
      rw [e45] at *
      cases hP : partF (sumD d) ts with
      | error k =>
        have hk := hpf.out.2 _ _ hP
        have hkz : (k != 0) = true := by rcases hk with rfl | rfl <;> rfl
        have hFE : Hid (R0 = .error k) := by show R0 = _; rw [hPp, hP]; rfl
        rw [hP] at hp1
        clear hP hPp hk
        go_wp2_with (first
          | (go_at_call 29; (with_reducible refine (hp1.out).mono ?_); rintro e w2 ⟨hg2, ax, nx, cx, qx, rfl⟩; obtain ⟨k1, k2, k3, k4, k5⟩ := hS.out.keep hg2 hglt; obtain ⟨th, t0, t1, tf0, tf1⟩ := k4.alloc (.cells #[.slice ax nx cx, .int .u32 qx] 25); replace th := Hid.intro th; replace k2 := Hid.intro k2; replace k3 := Hid.intro k3; replace k5 := Hid.intro k5))
        all_goals first | omega | skip
        obtain ⟨s1, s2⟩ := two_set th.out rfl (.slice none 0 0) (.int .u32 0)
        generalize (((w2.alloc (.cells #[.slice ax nx cx, .int .u32 qx] 25)).setCell ⟨w.heap.size + 1, 0, none⟩ (.slice none 0 0)).setCell ⟨w.heap.size + 1, 1, none⟩ (.int .u32 0)) = w9 at s1 s2 ⊢
        obtain ⟨_, z0, z1, _, _⟩ := s1
        refine bodyPost_ret (by simp [results, Tryd.results26, go_sem, z0, z1]; try rfl) rfl ?_
        rw [hFE.out]
        exact ⟨grown_high (grown_trans k1 (World.grownBy_alloc _ _ _)) s2 (by omega), rfl⟩
      | ok xr =>
        obtain ⟨x, r⟩ := xr
        have hless := hpf.out.1 _ _ _ hP
        have hl1 := hless.1
        have hl2 := hless.2.1
        have hl3 := times_len x.terms 4294967295
        have hFE : Hid (R0 = sumS (sumD d) (acc ++ (timesL x 4294967295).terms) ((n + (timesL x 4294967295).const) % 4294967296) r) := by show R0 = _; rw [hPp, hP]; rfl
        have hTL := Hid.intro (fun (B : Nat) (a : Option Addr) (n c : Nat) (w : World) h => times_lin x 4294967295 B a n c (by omega) w h)
        have hl4 : (timesL x 4294967295).terms.length ≤ x.terms.length := hl3
        rw [hP] at hp1
        clear hP hPp hless hl3
        generalize timesL x 4294967295 = z at hFE hTL hl4
        go_wp2_with (first
          | (go_at_call 29; (with_reducible refine (hp1.out).mono ?_); rintro e w2 ⟨hg2, ⟨ax, nx, cx, rfl, hownX⟩, a3, c3, hR3⟩; have hs2 := hg2.size; obtain ⟨k1, k2, k3, k4, k5⟩ := hS.out.keep hg2 hglt; replace k1 := Hid.intro k1; replace k2 := Hid.intro k2; replace k3 := Hid.intro k3; replace k4 := Hid.intro k4; replace k5 := Hid.intro k5; replace hR3 := Hid.intro hR3; have hnx := Hid.intro (own_len hownX); replace hownX := Hid.intro hownX; have hnx2 : nx ≤ 1100000 := (by rw [hnx.out]; omega))
          | (go_at_call 11; (with_reducible refine (hTL.out _ _ _ _ _ (hownX.out.alloc _)).mono ?_); rintro e w5 ⟨hb5, az, nz, cz, rfl, hownZ⟩; have hnz := Hid.intro (own_len hownZ); replace hownZ := Hid.intro hownZ; have hnz2 : nz ≤ 1100000 := (by rw [hnz.out]; omega); have hs5 := hb5.size; have htx := Hid.intro (two_below hb5); obtain ⟨_, v0, v1, vf0, vf1⟩ := htx.out; have hpz := Hid.intro (two_set htx.out.heap rfl (.slice az nz cz) (.int .u32 z.const)); have hownZ2 := Hid.intro (own_kept hownZ.out hpz.out.2 (own_ne hownZ.out htx.out)); have hk6 := Hid.intro (ownsRow_below (k5.out.alloc _) hb5); have hk7 := Hid.intro (own_kept hk6.out hpz.out.2 (own_ne hk6.out htx.out)); have hR9 := Hid.intro ((hR3.out.below (one_below hb5)).grown hpz.out.2 (by simp; omega) (fun y hy => by have := hR3.out.ne y hy; simp; omega)))
          | (at_builtin; go_must (refine app_terms _ rfl (.tmp 36) (.tmp 38) rfl (w.heap.size + 1 + 1) (.slice a1 m1 c1) m1 acc z.terms hm1.out rfl (by have := hk7.out; rwa [← hm1.out] at this) az cz nz hnz.out rfl (own_held hownZ2.out) (by rw [hm1.out]; omega) (by simp at hs5 ⊢; omega) ?_; intro a7 c7 w3 hown3 hgrow3; replace hown3 := Hid.intro hown3; have htp := Hid.intro (hpz.out.1.grown hgrow3 (own_ne hk7.out hpz.out.1)); obtain ⟨_, u0, u1, _, _⟩ := htp.out; have hs3 := hgrow3.size; have hR4 := Hid.intro (hR9.out.grown hgrow3 (fun e => by have := (k5.out.lt _ e).1; omega) (fun y hy e => by have h1 := hR9.out.ne y hy; have h2 := (k5.out.lt _ e.symm).1; omega)); have hpm := Hid.intro (take_pm a3 c3 g r w3 hR4.out)))
          | (go_at_call 28; (with_reducible refine (hpm.out).mono ?_); rintro e w4 ⟨rfl, hg4, a8, c8, hR8⟩; replace hR8 := Hid.intro hR8))
        all_goals first | omega | skip
        go_roundw
        case rel =>
          have hlen : (acc ++ z.terms).length = m1 + nz := by rw [List.length_append, hm1.out, hnz.out]
          have htl := takenR_len [43, 45] r
          refine ⟨acc ++ z.terms, (n + z.const) % 4294967296, takenR [43, 45] r, takenS [43, 45] r, a7, m1 + nz, c7, rfl, rfl, rfl, Hid.intro (SSt.of ?_ (sg_taken hWF.out hFE.out) ?_ ⟨a8, c8, hR8.out⟩ ?_)⟩
          · exact (((((hS.out.sk.step hg2 (fun q hq => by cases hq; exact .inr rfl) hglt).step (World.grownBy_alloc _ _ none) (fun q hq => by cases hq) hglt).step (grown_of_below hb5) (fun q hq => by cases hq) hglt).step hpz.out.2 (fun q hq => by cases hq; exact .inl (by omega)) hglt).step hgrow3 (fun q hq => .inl (k5.out.lt q hq).1) hglt).step hg4 (fun q hq => by cases hq; exact .inr rfl) hglt
          · rw [List.length_append]; omega
          · rw [hlen]; exact own_low hown3.out hg4 (by omega)
        case measure =>
          have htl := takenR_len [43, 45] r
          rw [hR8.out.left, hl.out]
          omega

theorem sum_all (d : Nat) : SumOK d := by
  induction d with
  | zero => exact sum_zero
  | succ d ih => exact sum_step d ih
end Go.Proofs.YtijdjljnppkhmabDoor

/- expr's product and single. -/
import Derived.Test.YtijdjljnppkhmabDoorTake
import Derived.Test.YtijdjljnppkhmabDoorRight
namespace Go.Proofs.YtijdjljnppkhmabDoor
open Go.ChangeShapes Go.WideShapes Go.ChangeAt Go.RowKit
set_option linter.unusedVariables false
set_option maxRecDepth 100000

abbrev linZ : Value := .agg #[.slice none 0 0, .int .u32 0]

/-- a Lin and no refusal -/
def LinOut (B : Nat) (w' : World) (x : Lin) (e : Ending) : Prop := ∃ a n c, e = .returned (.tuple #[linV (.slice a n c) x.const, .int .i64 0]) ∧ w'.ownsRow B 30 2 (.slice a n c) x.terms.length (rowT x.terms)

set_option maxHeartbeats 1000000 in
theorem product_any (a1 a2 : Option Addr) (c1 c2 : Nat) (x y : Lin) (w : World) (hx : TmLies w a1 x.terms) (hy : TmLies w a2 y.terms) (hl1 : x.terms.length ≤ 4400000) (hl2 : y.terms.length ≤ 4400000) :
    Calls Tryd.prog 43 #[linV (.slice a1 x.terms.length c1) x.const, linV (.slice a2 y.terms.length c2) y.const] w fun e w' => Below w.heap.size w w' ∧
      match productF x y with
      | none => e = .returned (.tuple #[linZ, .int .i64 21])
      | some z => LinOut w.heap.size w' z e := by
  obtain ⟨n1, hn1⟩ : ∃ n1, n1 = x.terms.length := ⟨_, rfl⟩
  obtain ⟨n2, hn2⟩ : ∃ n2, n2 = y.terms.length := ⟨_, rfl⟩
  have hbb := fun o1 o2 o3 => (((below_alloc w o1).alloc (by simp) o2).alloc (by simp; omega) o3)
  have hT1 := Hid.intro (fun o1 o2 o3 => times_any a1 c1 x.terms x.const y.const hl1 (((w.alloc o1).alloc o2).alloc o3) (hx.below (hbb o1 o2 o3) (Nat.le_refl _)))
  have hT2 := Hid.intro (fun o1 o2 o3 => times_any a2 c2 y.terms y.const x.const hl2 (((w.alloc o1).alloc o2).alloc o3) (hy.below (hbb o1 o2 o3) (Nat.le_refl _)))
  have ht3 : ∀ o1 o2 w1, Below (((w.alloc o1).alloc o2).alloc (.cells #[.slice none 0 0, .int .u32 0] 25)).heap.size (((w.alloc o1).alloc o2).alloc (.cells #[.slice none 0 0, .int .u32 0] 25)) w1 → Two w1 (w.heap.size + 1 + 1) 25 (.slice none 0 0) (.int .u32 0) := fun o1 o2 w1 hb => by
    have := two_below hb
    simpa using this
  have hP : productF x y = if n2 = 0 then some (timesL x y.const) else if n1 = 0 then some (timesL y x.const) else none := by rw [hn1, hn2]; rfl
  rw [← hn1, ← hn2, hP]
  rw [← hn1] at hT1
  rw [← hn2] at hT2
  have e1 : ∀ (X : Lin) (k : Int), timesT X.terms k = (timesL X k).terms := fun _ _ => rfl
  have e2 : ∀ (X : Lin) (k : Int), X.const * k % 4294967296 = (timesL X k).const := fun _ _ => rfl
  rw [e1, e2] at hT1 hT2
  generalize timesL x y.const = Z1 at *
  generalize timesL y x.const = Z2 at *
  clear hn1 hn2 hP e1 e2 hx hy hl1 hl2
  by_cases h2 : n2 = 0
  · rw [if_pos h2]
    have h2' : ((n2 : Int) == 0) = true := by simp [h2]
    clear h2
    go_enter Tryd.func43, Tryd.ntmps43
    go_wp2_with (go_at_call 11; with_reducible refine (hT1.out _ _ _).mono ?_; rintro e w1 ⟨hb1, v1, rfl, hown1⟩; obtain ⟨av, cv, rfl⟩ := own_slice hown1; replace hown1 := Hid.intro hown1; obtain ⟨th, t0, t1, tf0, tf1⟩ := ht3 _ _ _ hb1; replace th := Hid.intro th)
    all_goals first | omega | skip
    have hsz1 := hb1.size
    simp only [World.size_alloc] at hsz1
    obtain ⟨s1, s2⟩ := two_set th.out rfl (.slice av Z1.terms.length cv) (.int .u32 Z1.const)
    generalize (((w1).setCell ⟨w.heap.size + 1 + 1, 0, none⟩ (.slice av Z1.terms.length cv)).setCell ⟨w.heap.size + 1 + 1, 1, none⟩ (.int .u32 Z1.const)) = w9 at s1 s2 ⊢
    obtain ⟨_, z0, z1, _, _⟩ := s1
    refine bodyPost_ret (by simp [results, Tryd.results43, go_sem, z0, z1]; try rfl) rfl ?_
    refine ⟨((hbb _ _ _).trans (hb1.mono (by simp; omega))).grown s2 (by omega) (fun j hj => by cases hj; omega), _, _, _, rfl, ?_⟩
    have := hown1.out
    simp only [World.size_alloc] at this
    exact own_weaken (own_low this s2 (by omega)) (by omega)
  · rw [if_neg h2]
    have h2' : ((n2 : Int) == 0) = false := by simp [h2]
    clear h2
    by_cases h1 : n1 = 0
    · rw [if_pos h1]
      have h1' : ((n1 : Int) == 0) = true := by simp [h1]
      clear h1
      go_enter Tryd.func43, Tryd.ntmps43
      go_wp2_with (go_at_call 11; with_reducible refine (hT2.out _ _ _).mono ?_; rintro e w1 ⟨hb1, v1, rfl, hown1⟩; obtain ⟨av, cv, rfl⟩ := own_slice hown1; replace hown1 := Hid.intro hown1; obtain ⟨th, t0, t1, tf0, tf1⟩ := ht3 _ _ _ hb1; replace th := Hid.intro th)
      all_goals first | omega | skip
      have hsz1 := hb1.size
      simp only [World.size_alloc] at hsz1
      obtain ⟨s1, s2⟩ := two_set th.out rfl (.slice av Z2.terms.length cv) (.int .u32 Z2.const)
      generalize (((w1).setCell ⟨w.heap.size + 1 + 1, 0, none⟩ (.slice av Z2.terms.length cv)).setCell ⟨w.heap.size + 1 + 1, 1, none⟩ (.int .u32 Z2.const)) = w9 at s1 s2 ⊢
      obtain ⟨_, z0, z1, _, _⟩ := s1
      refine bodyPost_ret (by simp [results, Tryd.results43, go_sem, z0, z1]; try rfl) rfl ?_
      refine ⟨((hbb _ _ _).trans (hb1.mono (by simp; omega))).grown s2 (by omega) (fun j hj => by cases hj; omega), _, _, _, rfl, ?_⟩
      have := hown1.out
      simp only [World.size_alloc] at this
      exact own_weaken (own_low this s2 (by omega)) (by omega)
    · rw [if_neg h1]
      have h1' : ((n1 : Int) == 0) = false := by simp [h1]
      clear h1
      go_enter Tryd.func43, Tryd.ntmps43
      go_wp2
      all_goals first | omega | skip
      have s1 := two_new ((w.alloc (.cells #[.slice a1 n1 c1, .int .u32 x.const] 25)).alloc (.cells #[.slice a2 n2 c2, .int .u32 y.const] 25)) 25 (.slice none 0 0) (.int .u32 0)
      have hb9 := hbb (.cells #[.slice a1 n1 c1, .int .u32 x.const] 25) (.cells #[.slice a2 n2 c2, .int .u32 y.const] 25) (.cells #[.slice none 0 0, .int .u32 0] 25)
      simp only [World.size_alloc] at s1
      generalize (((w.alloc (.cells #[.slice a1 n1 c1, .int .u32 x.const] 25)).alloc (.cells #[.slice a2 n2 c2, .int .u32 y.const] 25)).alloc (.cells #[.slice none 0 0, .int .u32 0] 25)) = w9 at s1 hb9 ⊢
      obtain ⟨_, z0, z1, _, _⟩ := s1
      refine bodyPost_ret (by simp [results, Tryd.results43, go_sem, z0, z1]; try rfl) rfl ?_
      exact ⟨hb9, rfl⟩

/-- what single answers -/
def SOut (w : World) (g : Nat) (ts : List Tok) (e : Ending) (w' : World) : Prop := w.grownBy w' (some g) ∧
  match ts with
  | [] => e = .returned (.tuple #[linZ, .int .i64 20])
  | t :: r => (∃ a c, Rd w' g a c r) ∧ match singleF t with
    | none => e = .returned (.tuple #[linZ, .int .i64 20])
    | some x => LinOut w.heap.size w' x e

set_option maxHeartbeats 1000000 in
theorem single_none (a : Option Addr) (c g : Nat) (w : World) (h : Rd w g a c []) :
    Calls Tryd.prog 50 #[.pointer (some ⟨g, 0, none⟩)] w fun e w' => SOut w g [] e w' := by
  have h0 : ∀ o, (w.alloc o).cell? ⟨g, 0, none⟩ = some (.slice a 0 c) := fun o => (h.below (below_alloc w o)).c0
  clear h
  go_enter Tryd.func50, Tryd.ntmps50
  go_wp2
  all_goals first | omega | skip
  have s1 := two_new w 25 (.slice none 0 0) (.int .u32 0)
  have hb9 := below_alloc w (.cells #[.slice none 0 0, .int .u32 0] 25)
  generalize w.alloc (.cells #[.slice none 0 0, .int .u32 0] 25) = w9 at *
  obtain ⟨_, z0, z1, _, _⟩ := s1
  refine bodyPost_ret (by simp [results, Tryd.results50, go_sem, z0, z1]; try rfl) rfl ?_
  exact ⟨grown_wide (grown_of_below hb9) _, rfl⟩

/-- a token's block -/
abbrev tokO (t : Tok) : Obj := .cells #[.int .i64 t.kind, .string (str t.text), .int .u32 t.num, .int .i64 (t.place : Int)] 60

theorem grown_then {w w0 w9 : World} {g : Nat} (h : w.grownBy w0 (some g)) (hb : Below w0.heap.size w0 w9) : w.grownBy w9 (some g) := grown_trans h (grown_wide (grown_of_below hb) _)

theorem sg_two {w0 w1 : World} {x y : Value} {o2 : Obj} (hb : Below ((w0.alloc (.cells #[x, y] 25)).alloc o2).heap.size ((w0.alloc (.cells #[x, y] 25)).alloc o2) w1) : Two w1 w0.heap.size 25 x y :=
  ((two_new w0 25 x y).alloc o2).below hb (by simp; omega)

theorem sg_below {w0 w1 : World} {o1 o2 : Obj} (hb : Below ((w0.alloc o1).alloc o2).heap.size ((w0.alloc o1).alloc o2) w1) : Below w0.heap.size w0 w1 ∧ w0.heap.size + 1 + 1 ≤ w1.heap.size := by
  have h1 := hb.size
  simp only [World.size_alloc] at h1
  exact ⟨((below_alloc w0 o1).alloc (by simp) o2).trans (hb.mono (by simp; omega)), h1⟩

theorem sg_tok {w0 w1 : World} {o1 : Obj} {t : Tok} (hb : Below ((w0.alloc o1).alloc (tokO t)).heap.size ((w0.alloc o1).alloc (tokO t)) w1) : w1.cell? ⟨w0.heap.size + 1, 1, none⟩ = some (.string (str t.text)) := by
  rw [hb.cell (p := ⟨w0.heap.size + 1, 1, none⟩) (by simp), cell_of_row _ _ _ _ 60 (0, 0) (by have := heap_alloc_new (w0.alloc o1) (tokO t); rwa [show (w0.alloc o1).heap.size = w0.heap.size + 1 by simp] at this)]
  rfl

theorem singleF_num {t : Tok} (h : t.kind = 2) : singleF t = some ⟨[], t.num⟩ := by unfold singleF; rw [if_pos h]
theorem singleF_name {t : Tok} (h1 : t.kind = 1) (h2 : legB (str t.text) = true) : singleF t = some ⟨[⟨t.text, 1⟩], 0⟩ := by unfold singleF; rw [if_neg (by omega), if_pos ⟨h1, h2⟩]
theorem singleF_none {t : Tok} (h : t.kind ≠ 2) (h1 : ¬ (t.kind = 1 ∧ legB (str t.text) = true)) : singleF t = none := by unfold singleF; rw [if_neg h, if_neg h1]

set_option maxHeartbeats 1000000 in
theorem single_some (gt o c g : Nat) (t : Tok) (r : List Tok) (w : World) (h : Rd w g (some ⟨gt, o, none⟩) c (t :: r)) (hs : t.text.length ≤ 1000000) :
    Calls Tryd.prog 50 #[.pointer (some ⟨g, 0, none⟩)] w fun e w' => SOut w g (t :: r) e w' := by
  have hR1 := fun o1 => h.below (below_alloc w o1)
  have hR2 := fun o1 o2 => (hR1 o1).below (below_alloc _ o2)
  have h0 : ∀ o1, (w.alloc o1).cell? ⟨g, 0, none⟩ = some (.slice (some ⟨gt, o, none⟩) (r.length + 1) c) := fun o1 => (hR1 o1).c0
  have h1 : ∀ o1 o2, ((w.alloc o1).alloc o2).cell? ⟨g, 0, none⟩ = some (.slice (some ⟨gt, o, none⟩) (r.length + 1) c) := fun o1 o2 => (hR2 o1 o2).c0
  have f1 : ∀ o1 o2, ((w.alloc o1).alloc o2).frozen? ⟨g, 0, none⟩ = false := fun o1 o2 => (hR2 o1 o2).f0
  have hq : ∀ o1, TokOff (w.alloc o1) gt o t := fun o1 => by
    obtain ⟨gt', o', ha, hg, h1, h2⟩ := (hR1 o1).lies.head
    injection ha with ha
    injection ha with ha1 ha2 _
    subst ha1 ha2
    exact h1
  have q0 := fun o1 => (hq o1).kind
  have q1 := fun o1 => (hq o1).text
  have q2 := fun o1 => (hq o1).num
  have q3 := fun o1 => (hq o1).place
  have hz : ((r.length : Int) + 1 == 0) = false := by simp; omega
  have hcap := h.cap
  have hmost := h.most
  have hfew := h.few
  simp only [List.length_cons] at hcap hfew
  have hglt := h.lt
  have hgne : ¬ g = w.heap.size := by omega
  have hgne2 : ¬ g = w.heap.size + 1 := by omega
  have hgne3 : ¬ w.heap.size = g := by omega
  have hgne4 : ¬ w.heap.size + 1 = g := by omega
  have htl : Hid (Rd (w.setCell ⟨g, 0, none⟩ (.slice (if c = 1 then some ⟨gt, o, none⟩ else some ⟨gt, o + 4, none⟩) r.length (c - 1))) g (if c = 1 then some ⟨gt, o, none⟩ else some ⟨gt, o + 4, none⟩) (c - 1) r ∧ w.grownBy (w.setCell ⟨g, 0, none⟩ (.slice (if c = 1 then some ⟨gt, o, none⟩ else some ⟨gt, o + 4, none⟩) r.length (c - 1))) (some g)) := by
    refine h.tail _ _ ?_
    by_cases hc : c = 1
    · exact .inl ⟨hc, by rw [if_pos hc], by omega⟩
    · exact .inr ⟨by rw [if_neg hc], rfl⟩
  have hw0 : (w.setCell ⟨g, 0, none⟩ (.slice (if c = 1 then some ⟨gt, o, none⟩ else some ⟨gt, o + 4, none⟩) r.length (c - 1))).heap.size = w.heap.size := by simp
  clear hR1 hR2 hq h
  by_cases hk2 : t.kind = 2
  · have hk2' : (t.kind == 2) = true := by simp [hk2]
    have hF := Hid.intro (singleF_num hk2)
    have hO := Hid.intro (fun w => of_any t.num w)
    clear hk2
    go_enter Tryd.func50, Tryd.ntmps50
    go_wp2_with (go_at_call 66; with_reducible refine (hO.out _).mono ?_; rintro e w1 ⟨rfl, hb1⟩; have ht := sg_two hb1; rw [hw0] at ht; obtain ⟨th, t0, t1, tf0, tf1⟩ := ht; replace th := Hid.intro th)
    all_goals first | omega | skip
    all_goals (
      obtain ⟨hbB, hbS⟩ := sg_below hb1
      obtain ⟨s1, s2⟩ := two_set th.out rfl (.slice none 0 0) (.int .u32 t.num)
      generalize (((w1).setCell ⟨w.heap.size, 0, none⟩ (.slice none 0 0)).setCell ⟨w.heap.size, 1, none⟩ (.int .u32 t.num)) = w9 at s1 s2 ⊢
      obtain ⟨_, z0, z1, _, _⟩ := s1
      refine bodyPost_ret (by simp [results, Tryd.results50, go_sem, z0, z1]; try rfl) rfl ?_
      have hb9 := hbB.grown s2 hbB.size (fun j hj => by cases hj; exact Nat.le_of_eq hw0)
      refine ⟨grown_then htl.out.2 hb9, ⟨_, _, htl.out.1.below hb9⟩, ?_⟩
      simp only [hF.out]
      exact ⟨none, 0, 0, rfl, World.ownsRow_nil _ _ _ _⟩)
  · have hk2' : (t.kind == 2) = false := by simp [hk2]
    have hsz : (str t.text).size ≤ 1000000 := by rw [str_size]; exact hs
    have hL := Hid.intro (fun w => legal_any (str t.text) (by omega) w)
    by_cases hk1 : t.kind = 1
    · have hk1' : (t.kind == 1) = true := by simp [hk1]
      cases hleg : legB (str t.text)
      · have hF := Hid.intro (singleF_none hk2 (fun h => by rw [hleg] at h; cases h.2))
        rw [hleg] at hL
        clear hk1 hk2 hleg
        go_enter Tryd.func50, Tryd.ntmps50
        go_wp2_with (go_at_call 67; with_reducible refine (hL.out _).mono ?_; rintro e w1 ⟨rfl, hb1⟩; have ht := sg_two hb1; rw [hw0] at ht; obtain ⟨th, t0, t1, tf0, tf1⟩ := ht; replace th := Hid.intro th)
        all_goals first | omega | skip
        all_goals (
          obtain ⟨hbB, hbS⟩ := sg_below hb1
          obtain ⟨s1, s2⟩ := two_set th.out rfl (.slice none 0 0) (.int .u32 0)
          generalize (((w1).setCell ⟨w.heap.size, 0, none⟩ (.slice none 0 0)).setCell ⟨w.heap.size, 1, none⟩ (.int .u32 0)) = w9 at s1 s2 ⊢
          obtain ⟨_, z0, z1, _, _⟩ := s1
          refine bodyPost_ret (by simp [results, Tryd.results50, go_sem, z0, z1]; try rfl) rfl ?_
          have hb9 := hbB.grown s2 hbB.size (fun j hj => by cases hj; exact Nat.le_of_eq hw0)
          refine ⟨grown_then htl.out.2 hb9, ⟨_, _, htl.out.1.below hb9⟩, ?_⟩
          simp only [hF.out]
          all_goals rfl)
      · have hF := Hid.intro (singleF_name hk1 hleg)
        rw [hleg] at hL
        have hN := Hid.intro (fun w => named_any (str t.text) (by omega) w)
        clear hk1 hk2 hleg
        go_enter Tryd.func50, Tryd.ntmps50
        go_wp2_with (first
          | (go_at_call 67; with_reducible refine (hL.out _).mono ?_; rintro e w0 ⟨rfl, hb0⟩; have htk := sg_tok hb0; rw [hw0] at htk)
          | (go_at_call 12; with_reducible refine (hN.out _).mono ?_; rintro e w1 ⟨hb1', v1, rfl, hown1⟩; obtain ⟨av, cv, rfl⟩ := own_slice hown1; have hb1 := hb0.trans (hb1'.mono hb0.size); have ht := sg_two hb1; rw [hw0] at ht; obtain ⟨th, t0, t1, tf0, tf1⟩ := ht; replace th := Hid.intro th)
          )
        all_goals first | omega | skip
        all_goals (
          obtain ⟨hbB, hbS⟩ := sg_below hb1
          obtain ⟨s1, s2⟩ := two_set th.out rfl (.slice av 1 cv) (.int .u32 0)
          generalize (((w1).setCell ⟨w.heap.size, 0, none⟩ (.slice av 1 cv)).setCell ⟨w.heap.size, 1, none⟩ (.int .u32 0)) = w9 at s1 s2 ⊢
          obtain ⟨_, z0, z1, _, _⟩ := s1
          refine bodyPost_ret (by simp [results, Tryd.results50, go_sem, z0, z1]; try rfl) rfl ?_
          have hb9 := hbB.grown s2 hbB.size (fun j hj => by cases hj; exact Nat.le_of_eq hw0)
          refine ⟨grown_then htl.out.2 hb9, ⟨_, _, htl.out.1.below hb9⟩, ?_⟩
          simp only [hF.out]
          have hb0s := hb0.size
          simp only [World.size_alloc] at hb0s
          rw [hw0] at hb0s
          exact ⟨av, 1, cv, rfl, own_weaken (own_low hown1 s2 (by omega)) (by omega)⟩)
    · have hk1' : (t.kind == 1) = false := by simp [hk1]
      have hF := Hid.intro (singleF_none hk2 (fun h => hk1 h.1))
      clear hk1 hk2
      by_cases hc : c = 1
      · subst hc
        obtain rfl : r = [] := List.eq_nil_of_length_eq_zero (by omega)
        have e0 := htl.out
        simp only [if_true, Nat.sub_self, List.length_nil, Nat.zero_add] at e0 hw0 h0 h1
        clear htl hz
        go_enter Tryd.func50, Tryd.ntmps50
        go_wp2
        all_goals first | omega | skip
        have s1 := sg_two (w0 := (w.setCell ⟨g, 0, none⟩ (.slice (some ⟨gt, o, none⟩) 0 0))) (x := .slice none 0 0) (y := .int .u32 0) (o2 := tokO t) (Below.refl _ _)
        have hb9 := (sg_below (w0 := (w.setCell ⟨g, 0, none⟩ (.slice (some ⟨gt, o, none⟩) 0 0))) (o1 := .cells #[.slice none 0 0, .int .u32 0] 25) (o2 := tokO t) (Below.refl _ _)).1
        rw [hw0] at s1
        replace e0 := Hid.intro e0
        generalize (((w.setCell ⟨g, 0, none⟩ (.slice (some ⟨gt, o, none⟩) 0 0)).alloc (.cells #[.slice none 0 0, .int .u32 0] 25)).alloc (tokO t)) = w9 at s1 hb9 ⊢
        obtain ⟨_, z0, z1, _, _⟩ := s1
        refine bodyPost_ret (by simp [results, Tryd.results50, go_sem, z0, z1]; try rfl) rfl ?_
        refine ⟨grown_then e0.out.2 hb9, ⟨_, _, e0.out.1.below hb9⟩, ?_⟩
        simp only [hF.out]
        all_goals rfl
      · have e0 := htl.out
        simp only [if_neg hc] at e0 hw0
        clear htl
        go_enter Tryd.func50, Tryd.ntmps50
        go_wp2
        all_goals first | omega | skip
        have s1 := sg_two (w0 := (w.setCell ⟨g, 0, none⟩ (.slice (some ⟨gt, o + 4, none⟩) r.length (c - 1)))) (x := .slice none 0 0) (y := .int .u32 0) (o2 := tokO t) (Below.refl _ _)
        have hb9 := (sg_below (w0 := (w.setCell ⟨g, 0, none⟩ (.slice (some ⟨gt, o + 4, none⟩) r.length (c - 1)))) (o1 := .cells #[.slice none 0 0, .int .u32 0] 25) (o2 := tokO t) (Below.refl _ _)).1
        rw [hw0] at s1
        replace e0 := Hid.intro e0
        generalize (((w.setCell ⟨g, 0, none⟩ (.slice (some ⟨gt, o + 4, none⟩) r.length (c - 1))).alloc (.cells #[.slice none 0 0, .int .u32 0] 25)).alloc (tokO t)) = w9 at s1 hb9 ⊢
        obtain ⟨_, z0, z1, _, _⟩ := s1
        refine bodyPost_ret (by simp [results, Tryd.results50, go_sem, z0, z1]; try rfl) rfl ?_
        refine ⟨grown_then e0.out.2 hb9, ⟨_, _, e0.out.1.below hb9⟩, ?_⟩
        simp only [hF.out]
        all_goals rfl

theorem single_any (a : Option Addr) (c g : Nat) (ts : List Tok) (w : World) (h : Rd w g a c ts) :
    Calls Tryd.prog 50 #[.pointer (some ⟨g, 0, none⟩)] w fun e w' => SOut w g ts e w' := by
  cases ts with
  | nil => exact single_none a c g w h
  | cons t r =>
    obtain ⟨gt, o, rfl, _⟩ := h.lies.head
    exact single_some gt o c g t r w h (h.short t (by simp))
end Go.Proofs.YtijdjljnppkhmabDoor

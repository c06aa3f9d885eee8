/- expr.Parse. -/
import Derived.Test.YtlkmegchaeokgaaGreatDoorTake
import Derived.Test.YtlkmegchaeokgaaGreatDoorRight
import Derived.Test.YtlkmegchaeokgaaGreatDoorConcat
import Derived.Laws.EntriesVeiled
/- expr's product and single. -/
namespace Go.Proofs.YtlkmegchaeokgaaGreatDoor
open Go.ChangeShapes Go.WideShapes Go.ChangeAt Go.RowKit
set_option linter.unusedVariables false
set_option maxRecDepth 100000
abbrev linZ : Value := .agg #[.slice none 0 0, .int .u32 0]
def LinOut (B : Nat) (w' : World) (x : Lin) (e : Ending) : Prop := ∃ a n c, e = .returned (.tuple #[linV (.slice a n c) x.const, .int .i64 0]) /\ w'.ownsRow B 61 2 (.slice a n c) x.terms.length (rowT x.terms)
set_option maxHeartbeats 1000000 in
theorem product_any (a1 a2 : Option Addr) (c1 c2 : Nat) (x y : Lin) (w : World) (hx : TmLies w a1 x.terms) (hy : TmLies w a2 y.terms) (hl1 : x.terms.length <= 4400000) (hl2 : y.terms.length <= 4400000) :
  Calls Tryz.prog 131 #[linV (.slice a1 x.terms.length c1) x.const, linV (.slice a2 y.terms.length c2) y.const] w fun e w' => Below w.heap.size w w' /\
   match productF x y with
   | none => e = .returned (.tuple #[linZ, .int .i64 21])
   | some z => LinOut w.heap.size w' z e := by
 obtain ⟨n1, hn1⟩ : ∃ n1, n1 = x.terms.length := ⟨_, rfl⟩
 obtain ⟨n2, hn2⟩ : ∃ n2, n2 = y.terms.length := ⟨_, rfl⟩
 have hbb := fun o1 o2 o3 => (((below_alloc w o1).alloc (by simp) o2).alloc (by simp; omega) o3)
 have hT1 := Hid.intro (fun o1 o2 o3 => times_any a1 c1 x.terms x.const y.const hl1 (((w.alloc o1).alloc o2).alloc o3) (hx.below (hbb o1 o2 o3) (Nat.le_refl _)))
 have hT2 := Hid.intro (fun o1 o2 o3 => times_any a2 c2 y.terms y.const x.const hl2 (((w.alloc o1).alloc o2).alloc o3) (hy.below (hbb o1 o2 o3) (Nat.le_refl _)))
 have ht3 : ∀ o1 o2 w1, Below (((w.alloc o1).alloc o2).alloc (.cells #[.slice none 0 0, .int .u32 0] 31)).heap.size (((w.alloc o1).alloc o2).alloc (.cells #[.slice none 0 0, .int .u32 0] 31)) w1 -> Two w1 (w.heap.size + 1 + 1) 31 (.slice none 0 0) (.int .u32 0) := fun o1 o2 w1 hb => by
  have := two_below hb
  simpa using this
 have hP : productF x y = if n2 = 0 then some (timesL x y.const) else if n1 = 0 then some (timesL y x.const) else none := by rw [hn1, hn2]; rfl
 rw [<- hn1, <- hn2, hP]
 rw [<- hn1] at hT1
 rw [<- hn2] at hT2
 have e1 : ∀ (X : Lin) (k : Int), timesT X.terms k = (timesL X k).terms := fun _ _ => rfl
 have e2 : ∀ (X : Lin) (k : Int), X.const * k % 4294967296 = (timesL X k).const := fun _ _ => rfl
 rw [e1, e2] at hT1 hT2
 generalize timesL x y.const = Z1 at *
 generalize timesL y x.const = Z2 at *
 clear hn1 hn2 hP e1 e2 hx hy hl1 hl2
 by_cases h2 : n2 = 0
 ·rw [if_pos h2]
  have h2' : ((n2 : Int) == 0) = true := by simp [h2]
  clear h2
  go_enter Tryz.func131, Tryz.ntmps131
  go_wp2_with (go_at_call 127; with_reducible refine (hT1.out _ _ _).mono ?_; rintro e w1 ⟨hb1, v1, rfl, hown1⟩; obtain ⟨av, cv, rfl⟩ := own_slice hown1; replace hown1 := Hid.intro hown1; obtain ⟨th, t0, t1, tf0, tf1⟩ := ht3 _ _ _ hb1; replace th := Hid.intro th)
  all_goals first | omega | skip
  have hsz1 := hb1.size
  simp only [World.size_alloc] at hsz1
  obtain ⟨s1, s2⟩ := two_set th.out rfl (.slice av Z1.terms.length cv) (.int .u32 Z1.const)
  generalize (((w1).setCell ⟨w.heap.size + 1 + 1, 0, none⟩ (.slice av Z1.terms.length cv)).setCell ⟨w.heap.size + 1 + 1, 1, none⟩ (.int .u32 Z1.const)) = w9 at s1 s2 ⊢
  obtain ⟨_, z0, z1, _, _⟩ := s1
  refine bodyPost_ret (by simp [results, Tryz.results131, go_sem, z0, z1]; try rfl) rfl ?_
  refine ⟨((hbb _ _ _).trans (hb1.mono (by simp; omega))).grown s2 (by omega) (fun j hj => by cases hj; omega), _, _, _, rfl, ?_⟩
  have := hown1.out
  simp only [World.size_alloc] at this
  exact own_weaken (own_low this s2 (by omega)) (by omega)
 ·rw [if_neg h2]
  have h2' : ((n2 : Int) == 0) = false := by simp [h2]
  clear h2
  by_cases h1 : n1 = 0
  ·rw [if_pos h1]
   have h1' : ((n1 : Int) == 0) = true := by simp [h1]
   clear h1
   go_enter Tryz.func131, Tryz.ntmps131
   go_wp2_with (go_at_call 127; with_reducible refine (hT2.out _ _ _).mono ?_; rintro e w1 ⟨hb1, v1, rfl, hown1⟩; obtain ⟨av, cv, rfl⟩ := own_slice hown1; replace hown1 := Hid.intro hown1; obtain ⟨th, t0, t1, tf0, tf1⟩ := ht3 _ _ _ hb1; replace th := Hid.intro th)
   all_goals first | omega | skip
   have hsz1 := hb1.size
   simp only [World.size_alloc] at hsz1
   obtain ⟨s1, s2⟩ := two_set th.out rfl (.slice av Z2.terms.length cv) (.int .u32 Z2.const)
   generalize (((w1).setCell ⟨w.heap.size + 1 + 1, 0, none⟩ (.slice av Z2.terms.length cv)).setCell ⟨w.heap.size + 1 + 1, 1, none⟩ (.int .u32 Z2.const)) = w9 at s1 s2 ⊢
   obtain ⟨_, z0, z1, _, _⟩ := s1
   refine bodyPost_ret (by simp [results, Tryz.results131, go_sem, z0, z1]; try rfl) rfl ?_
   refine ⟨((hbb _ _ _).trans (hb1.mono (by simp; omega))).grown s2 (by omega) (fun j hj => by cases hj; omega), _, _, _, rfl, ?_⟩
   have := hown1.out
   simp only [World.size_alloc] at this
   exact own_weaken (own_low this s2 (by omega)) (by omega)
  ·rw [if_neg h1]
   have h1' : ((n1 : Int) == 0) = false := by simp [h1]
   clear h1
   go_enter Tryz.func131, Tryz.ntmps131
   go_wp2
   all_goals first | omega | skip
   have s1 := two_new ((w.alloc (.cells #[.slice a1 n1 c1, .int .u32 x.const] 31)).alloc (.cells #[.slice a2 n2 c2, .int .u32 y.const] 31)) 31 (.slice none 0 0) (.int .u32 0)
   have hb9 := hbb (.cells #[.slice a1 n1 c1, .int .u32 x.const] 31) (.cells #[.slice a2 n2 c2, .int .u32 y.const] 31) (.cells #[.slice none 0 0, .int .u32 0] 31)
   simp only [World.size_alloc] at s1
   generalize (((w.alloc (.cells #[.slice a1 n1 c1, .int .u32 x.const] 31)).alloc (.cells #[.slice a2 n2 c2, .int .u32 y.const] 31)).alloc (.cells #[.slice none 0 0, .int .u32 0] 31)) = w9 at s1 hb9 ⊢
   obtain ⟨_, z0, z1, _, _⟩ := s1
   refine bodyPost_ret (by simp [results, Tryz.results131, go_sem, z0, z1]; try rfl) rfl ?_
   exact ⟨hb9, rfl⟩
def SOut (w : World) (g : Nat) (ts : List Tok) (e : Ending) (w' : World) : Prop := w.grownBy w' (some g) /\
 match ts with
 | [] => e = .returned (.tuple #[linZ, .int .i64 20])
 | t :: r => (∃ a c, Rd w' g a c r) /\ match singleF t with
  | none => e = .returned (.tuple #[linZ, .int .i64 20])
  | some x => LinOut w.heap.size w' x e
set_option maxHeartbeats 1000000 in
theorem single_none (a : Option Addr) (c g : Nat) (w : World) (h : Rd w g a c []) :
  Calls Tryz.prog 136 #[.pointer (some ⟨g, 0, none⟩)] w fun e w' => SOut w g [] e w' := by
 have h0 : ∀ o, (w.alloc o).cell? ⟨g, 0, none⟩ = some (.slice a 0 c) := fun o => (h.below (below_alloc w o)).c0
 clear h
 go_enter Tryz.func136, Tryz.ntmps136
 go_wp2
 all_goals first | omega | skip
 have s1 := two_new w 31 (.slice none 0 0) (.int .u32 0)
 have hb9 := below_alloc w (.cells #[.slice none 0 0, .int .u32 0] 31)
 generalize w.alloc (.cells #[.slice none 0 0, .int .u32 0] 31) = w9 at *
 obtain ⟨_, z0, z1, _, _⟩ := s1
 refine bodyPost_ret (by simp [results, Tryz.results136, go_sem, z0, z1]; try rfl) rfl ?_
 exact ⟨grown_wide (grown_of_below hb9) _, rfl⟩
abbrev tokO (t : Tok) : Obj := .cells #[.int .i64 t.kind, .string (str t.text), .int .u32 t.num, .int .i64 (t.place : Int)] 64
theorem grown_then {w w0 w9 : World} {g : Nat} (h : w.grownBy w0 (some g)) (hb : Below w0.heap.size w0 w9) : w.grownBy w9 (some g) := grown_trans h (grown_wide (grown_of_below hb) _)
theorem sg_two {w0 w1 : World} {x y : Value} {o2 : Obj} (hb : Below ((w0.alloc (.cells #[x, y] 31)).alloc o2).heap.size ((w0.alloc (.cells #[x, y] 31)).alloc o2) w1) : Two w1 w0.heap.size 31 x y :=
 ((two_new w0 31 x y).alloc o2).below hb (by simp; omega)
theorem sg_below {w0 w1 : World} {o1 o2 : Obj} (hb : Below ((w0.alloc o1).alloc o2).heap.size ((w0.alloc o1).alloc o2) w1) : Below w0.heap.size w0 w1 /\ w0.heap.size + 1 + 1 <= w1.heap.size := by
 have h1 := hb.size
 simp only [World.size_alloc] at h1
 exact ⟨((below_alloc w0 o1).alloc (by simp) o2).trans (hb.mono (by simp; omega)), h1⟩
theorem sg_tok {w0 w1 : World} {o1 : Obj} {t : Tok} (hb : Below ((w0.alloc o1).alloc (tokO t)).heap.size ((w0.alloc o1).alloc (tokO t)) w1) : w1.cell? ⟨w0.heap.size + 1, 1, none⟩ = some (.string (str t.text)) := by
 rw [hb.cell (p := ⟨w0.heap.size + 1, 1, none⟩) (by simp), cell_of_row _ _ _ _ 64 (0, 0) (by have := heap_alloc_new (w0.alloc o1) (tokO t); rwa [show (w0.alloc o1).heap.size = w0.heap.size + 1 by simp] at this)]
 rfl
theorem singleF_num {t : Tok} (h : t.kind = 2) : singleF t = some ⟨[], t.num⟩ := by unfold singleF; rw [if_pos h]
theorem singleF_name {t : Tok} (h1 : t.kind = 1) (h2 : legB (str t.text) = true) : singleF t = some ⟨[⟨t.text, 1⟩], 0⟩ := by unfold singleF; rw [if_neg (by omega), if_pos ⟨h1, h2⟩]
theorem singleF_none {t : Tok} (h : t.kind ≠ 2) (h1 : ¬ (t.kind = 1 /\ legB (str t.text) = true)) : singleF t = none := by unfold singleF; rw [if_neg h, if_neg h1]
set_option maxHeartbeats 1000000 in
theorem single_some (gt o c g : Nat) (t : Tok) (r : List Tok) (w : World) (h : Rd w g (some ⟨gt, o, none⟩) c (t :: r)) (hs : t.text.length <= 1000000) :
  Calls Tryz.prog 136 #[.pointer (some ⟨g, 0, none⟩)] w fun e w' => SOut w g (t :: r) e w' := by
 have hR1 := fun o1 => h.below (below_alloc w o1)
 have hR2 := fun o1 o2 => (hR1 o1).below (below_alloc _ o2)
 have h0 : ∀ o1, (w.alloc o1).cell? ⟨g, 0, none⟩ = some (.slice (some ⟨gt, o, none⟩) (r.length + 1) c) := fun o1 => (hR1 o1).c0
 have h1 : ∀ o1 o2, ((w.alloc o1).alloc o2).cell? ⟨g, 0, none⟩ = some (.slice (some ⟨gt, o, none⟩) (r.length + 1) c) := fun o1 o2 => (hR2 o1 o2).c0
 have f1 : ∀ o1 o2, ((w.alloc o1).alloc o2).frozen? ⟨g, 0, none⟩ = false := fun o1 o2 => (hR2 o1 o2).f0
 have hq : ∀ o1, TokOff (w.alloc o1) gt o t := fun o1 => by
  obtain ⟨gt', o', ha, hg, h1, h2⟩ := (hR1 o1).lies.head
  injection ha with ha
  injection ha with ha1 ha2 _
  subst ha1 ha2
  exact h1
 have q0 := fun o1 => (hq o1).kind
 have q1 := fun o1 => (hq o1).text
 have q2 := fun o1 => (hq o1).num
 have q3 := fun o1 => (hq o1).place
 have hz : ((r.length : Int) + 1 == 0) = false := by simp; omega
 have hcap := h.cap
 have hmost := h.most
 have hfew := h.few
 simp only [List.length_cons] at hcap hfew
 have hglt := h.lt
 have hgne : ¬ g = w.heap.size := by omega
 have hgne2 : ¬ g = w.heap.size + 1 := by omega
 have hgne3 : ¬ w.heap.size = g := by omega
 have hgne4 : ¬ w.heap.size + 1 = g := by omega
 have htl : Hid (Rd (w.setCell ⟨g, 0, none⟩ (.slice (if c = 1 then some ⟨gt, o, none⟩ else some ⟨gt, o + 4, none⟩) r.length (c - 1))) g (if c = 1 then some ⟨gt, o, none⟩ else some ⟨gt, o + 4, none⟩) (c - 1) r /\ w.grownBy (w.setCell ⟨g, 0, none⟩ (.slice (if c = 1 then some ⟨gt, o, none⟩ else some ⟨gt, o + 4, none⟩) r.length (c - 1))) (some g)) := by
  refine h.tail _ _ ?_
  by_cases hc : c = 1
  ·exact .inl ⟨hc, by rw [if_pos hc], by omega⟩
  ·exact .inr ⟨by rw [if_neg hc], rfl⟩
 have hw0 : (w.setCell ⟨g, 0, none⟩ (.slice (if c = 1 then some ⟨gt, o, none⟩ else some ⟨gt, o + 4, none⟩) r.length (c - 1))).heap.size = w.heap.size := by simp
 clear hR1 hR2 hq h
 by_cases hk2 : t.kind = 2
 ·have hk2' : (t.kind == 2) = true := by simp [hk2]
  have hF := Hid.intro (singleF_num hk2)
  have hO := Hid.intro (fun w => of_any t.num w)
  clear hk2
  go_enter Tryz.func136, Tryz.ntmps136
  go_wp2_with (go_at_call 140; with_reducible refine (hO.out _).mono ?_; rintro e w1 ⟨rfl, hb1⟩; have ht := sg_two hb1; rw [hw0] at ht; obtain ⟨th, t0, t1, tf0, tf1⟩ := ht; replace th := Hid.intro th)
  all_goals first | omega | skip
  all_goals (
   obtain ⟨hbB, hbS⟩ := sg_below hb1
   obtain ⟨s1, s2⟩ := two_set th.out rfl (.slice none 0 0) (.int .u32 t.num)
   generalize (((w1).setCell ⟨w.heap.size, 0, none⟩ (.slice none 0 0)).setCell ⟨w.heap.size, 1, none⟩ (.int .u32 t.num)) = w9 at s1 s2 ⊢
   obtain ⟨_, z0, z1, _, _⟩ := s1
   refine bodyPost_ret (by simp [results, Tryz.results136, go_sem, z0, z1]; try rfl) rfl ?_
   have hb9 := hbB.grown s2 hbB.size (fun j hj => by cases hj; exact Nat.le_of_eq hw0)
   refine ⟨grown_then htl.out.2 hb9, ⟨_, _, htl.out.1.below hb9⟩, ?_⟩
   simp only [hF.out]
   exact ⟨none, 0, 0, rfl, World.ownsRow_nil _ _ _ _⟩)
 ·have hk2' : (t.kind == 2) = false := by simp [hk2]
  have hsz : (str t.text).size <= 1000000 := by rw [str_size]; exact hs
  have hL := Hid.intro (fun w => legal_any (str t.text) (by omega) w)
  by_cases hk1 : t.kind = 1
  ·have hk1' : (t.kind == 1) = true := by simp [hk1]
   cases hleg : legB (str t.text)
   ·have hF := Hid.intro (singleF_none hk2 (fun h => by rw [hleg] at h; cases h.2))
    rw [hleg] at hL
    clear hk1 hk2 hleg
    go_enter Tryz.func136, Tryz.ntmps136
    go_wp2_with (go_at_call 18; with_reducible refine (hL.out _).mono ?_; rintro e w1 ⟨rfl, hb1⟩; have ht := sg_two hb1; rw [hw0] at ht; obtain ⟨th, t0, t1, tf0, tf1⟩ := ht; replace th := Hid.intro th)
    all_goals first | omega | skip
    all_goals (
     obtain ⟨hbB, hbS⟩ := sg_below hb1
     obtain ⟨s1, s2⟩ := two_set th.out rfl (.slice none 0 0) (.int .u32 0)
     generalize (((w1).setCell ⟨w.heap.size, 0, none⟩ (.slice none 0 0)).setCell ⟨w.heap.size, 1, none⟩ (.int .u32 0)) = w9 at s1 s2 ⊢
     obtain ⟨_, z0, z1, _, _⟩ := s1
     refine bodyPost_ret (by simp [results, Tryz.results136, go_sem, z0, z1]; try rfl) rfl ?_
     have hb9 := hbB.grown s2 hbB.size (fun j hj => by cases hj; exact Nat.le_of_eq hw0)
     refine ⟨grown_then htl.out.2 hb9, ⟨_, _, htl.out.1.below hb9⟩, ?_⟩
     simp only [hF.out]
     all_goals rfl)
   ·have hF := Hid.intro (singleF_name hk1 hleg)
    rw [hleg] at hL
    have hN := Hid.intro (fun w => named_any (str t.text) (by omega) w)
    clear hk1 hk2 hleg
    go_enter Tryz.func136, Tryz.ntmps136
    go_wp2_with (first
     | (go_at_call 18; with_reducible refine (hL.out _).mono ?_; rintro e w0 ⟨rfl, hb0⟩; have htk := sg_tok hb0; rw [hw0] at htk)
     | (go_at_call 141; with_reducible refine (hN.out _).mono ?_; rintro e w1 ⟨hb1', v1, rfl, hown1⟩; obtain ⟨av, cv, rfl⟩ := own_slice hown1; have hb1 := hb0.trans (hb1'.mono hb0.size); have ht := sg_two hb1; rw [hw0] at ht; obtain ⟨th, t0, t1, tf0, tf1⟩ := ht; replace th := Hid.intro th)
     )
    all_goals first | omega | skip
    all_goals (
     obtain ⟨hbB, hbS⟩ := sg_below hb1
     obtain ⟨s1, s2⟩ := two_set th.out rfl (.slice av 1 cv) (.int .u32 0)
     generalize (((w1).setCell ⟨w.heap.size, 0, none⟩ (.slice av 1 cv)).setCell ⟨w.heap.size, 1, none⟩ (.int .u32 0)) = w9 at s1 s2 ⊢
     obtain ⟨_, z0, z1, _, _⟩ := s1
     refine bodyPost_ret (by simp [results, Tryz.results136, go_sem, z0, z1]; try rfl) rfl ?_
     have hb9 := hbB.grown s2 hbB.size (fun j hj => by cases hj; exact Nat.le_of_eq hw0)
     refine ⟨grown_then htl.out.2 hb9, ⟨_, _, htl.out.1.below hb9⟩, ?_⟩
     simp only [hF.out]
     have hb0s := hb0.size
     simp only [World.size_alloc] at hb0s
     rw [hw0] at hb0s
     exact ⟨av, 1, cv, rfl, own_weaken (own_low hown1 s2 (by omega)) (by omega)⟩)
  ·have hk1' : (t.kind == 1) = false := by simp [hk1]
   have hF := Hid.intro (singleF_none hk2 (fun h => hk1 h.1))
   clear hk1 hk2
   by_cases hc : c = 1
   ·subst hc
    obtain rfl : r = [] := List.eq_nil_of_length_eq_zero (by omega)
    have e0 := htl.out
    simp only [if_true, Nat.sub_self, List.length_nil, Nat.zero_add] at e0 hw0 h0 h1
    clear htl hz
    go_enter Tryz.func136, Tryz.ntmps136
    go_wp2
    all_goals first | omega | skip
    have s1 := sg_two (w0 := (w.setCell ⟨g, 0, none⟩ (.slice (some ⟨gt, o, none⟩) 0 0))) (x := .slice none 0 0) (y := .int .u32 0) (o2 := tokO t) (Below.refl _ _)
    have hb9 := (sg_below (w0 := (w.setCell ⟨g, 0, none⟩ (.slice (some ⟨gt, o, none⟩) 0 0))) (o1 := .cells #[.slice none 0 0, .int .u32 0] 31) (o2 := tokO t) (Below.refl _ _)).1
    rw [hw0] at s1
    replace e0 := Hid.intro e0
    generalize (((w.setCell ⟨g, 0, none⟩ (.slice (some ⟨gt, o, none⟩) 0 0)).alloc (.cells #[.slice none 0 0, .int .u32 0] 31)).alloc (tokO t)) = w9 at s1 hb9 ⊢
    obtain ⟨_, z0, z1, _, _⟩ := s1
    refine bodyPost_ret (by simp [results, Tryz.results136, go_sem, z0, z1]; try rfl) rfl ?_
    refine ⟨grown_then e0.out.2 hb9, ⟨_, _, e0.out.1.below hb9⟩, ?_⟩
    simp only [hF.out]
    all_goals rfl
   ·have e0 := htl.out
    simp only [if_neg hc] at e0 hw0
    clear htl
    go_enter Tryz.func136, Tryz.ntmps136
    go_wp2
    all_goals first | omega | skip
    have s1 := sg_two (w0 := (w.setCell ⟨g, 0, none⟩ (.slice (some ⟨gt, o + 4, none⟩) r.length (c - 1)))) (x := .slice none 0 0) (y := .int .u32 0) (o2 := tokO t) (Below.refl _ _)
    have hb9 := (sg_below (w0 := (w.setCell ⟨g, 0, none⟩ (.slice (some ⟨gt, o + 4, none⟩) r.length (c - 1)))) (o1 := .cells #[.slice none 0 0, .int .u32 0] 31) (o2 := tokO t) (Below.refl _ _)).1
    rw [hw0] at s1
    replace e0 := Hid.intro e0
    generalize (((w.setCell ⟨g, 0, none⟩ (.slice (some ⟨gt, o + 4, none⟩) r.length (c - 1))).alloc (.cells #[.slice none 0 0, .int .u32 0] 31)).alloc (tokO t)) = w9 at s1 hb9 ⊢
    obtain ⟨_, z0, z1, _, _⟩ := s1
    refine bodyPost_ret (by simp [results, Tryz.results136, go_sem, z0, z1]; try rfl) rfl ?_
    refine ⟨grown_then e0.out.2 hb9, ⟨_, _, e0.out.1.below hb9⟩, ?_⟩
    simp only [hF.out]
    all_goals rfl
theorem single_any (a : Option Addr) (c g : Nat) (ts : List Tok) (w : World) (h : Rd w g a c ts) :
  Calls Tryz.prog 136 #[.pointer (some ⟨g, 0, none⟩)] w fun e w' => SOut w g ts e w' := by
 cases ts with
 | nil => exact single_none a c g w h
 | cons t r =>
  obtain ⟨gt, o, rfl, _⟩ := h.lies.head
  exact single_some gt o c g t r w h (h.short t (by simp))
end Go.Proofs.YtlkmegchaeokgaaGreatDoor
/- expr's factor. -/
namespace Go.Proofs.YtlkmegchaeokgaaGreatDoor
open Go.ChangeShapes Go.WideShapes Go.ChangeAt Go.RowKit
set_option linter.unusedVariables false
set_option maxRecDepth 100000
def WOut (w : World) (g : Nat) (R : PRes) (e : Ending) (w' : World) : Prop := w.grownBy w' (some g) /\
 match R with
 | .ok (x, r) => LinOut w.heap.size w' x e /\ ∃ a c, Rd w' g a c r
 | .error k => e = .returned (.tuple #[linZ, .int .i64 k])
def FOut (w : World) (g : Nat) (R : PRes) (e : Ending) (w' : World) : Prop := w.grownBy w' (some g) /\
 match R with
 | .ok (x, r) => LinOut w.heap.size w' x e /\ ∃ a c, Rd w' g a c r
 | .error k => ∃ a n c q, e = .returned (.tuple #[linV (.slice a n c) q, .int .i64 k])
structure Within (g : Nat) (I : World -> Prop) (lb : Array Value) (W : List Tok -> PRes) : Prop where
 keep : ∀ w w', I w -> w.grownBy w' (some g) -> I w'
 fine : Fine W
 runs : ∀ w a c ts, I w -> Rd w g a c ts -> Calls Tryz.prog 124 lb w fun e w' => WOut w g (W ts) e w'
theorem minus_yes {t : Tok} {r : List Tok} {c : Int} (h : isS t 45 = true) : minusF (t :: r) c = minusF r ((-c) % 4294967296) := by rw [minusF, if_pos h]
theorem minus_no {ts : List Tok} {c : Int} (h : headIs 45 ts = false) : minusF ts c = (c, ts) := by
 cases ts with
 | nil => rfl
 | cons t r => rw [minusF, if_neg (by rw [show isS t 45 = false from h]; decide)]
def leftOf (g : Nat) (w : World) : Nat :=
 match w.cell? ⟨g, 0, none⟩ with
 | some (.slice _ n _) => n
 | _ => 0
theorem Rd.left {w : World} {g : Nat} {a : Option Addr} {c : Nat} {ts : List Tok} (h : Rd w g a c ts) : leftOf g w = ts.length := by
 unfold leftOf
 rw [h.c0]
structure FSt (w : World) (g : Nat) (ts0 : List Tok) (ts : List Tok) (k : Int) (wr : World) : Prop where
 eq : minusF ts0 1 = minusF ts k
 rd : ∃ a c, Rd wr g a c ts
 grown : w.grownBy wr (some g)
 res : Two wr w.heap.size 31 (.slice none 0 0) (.int .u32 0)
 size : w.heap.size + 1 <= wr.heap.size
theorem FSt.step {w : World} {g : Nat} {ts0 ts ts' : List Tok} {k k' : Int} {wr w' : World} (h : FSt w g ts0 ts k wr) (hglt : g < w.heap.size) (hg : wr.grownBy w' (some g)) (hr : ∃ a c, Rd w' g a c ts') (he : minusF ts k = minusF ts' k') : FSt w g ts0 ts' k' w' :=
 ⟨h.eq.trans he, hr, grown_trans h.grown hg, h.res.grown hg (by simp; omega), Nat.le_trans h.size hg.size⟩
theorem single_cases (k : Int) (W : List Tok -> PRes) (ts : List Tok) (h : headIs 40 ts = false) :
  (bareF W k ts = .error 20 /\ ∀ w g a c, Rd w g a c ts -> Calls Tryz.prog 136 #[.pointer (some ⟨g, 0, none⟩)] w fun e w' => e = .returned (.tuple #[linZ, .int .i64 20]) /\ w.grownBy w' (some g)) ∨
  ∃ x r, Canon x.terms /\ x.terms.length <= 1 /\ bareF W k ts = .ok (timesL x k, r) /\ ∀ w g a c, Rd w g a c ts -> Calls Tryz.prog 136 #[.pointer (some ⟨g, 0, none⟩)] w fun e w' => LinOut w.heap.size w' x e /\ w.grownBy w' (some g) /\ ∃ a c, Rd w' g a c r := by
 cases ts with
 | nil =>
  refine .inl ⟨rfl, fun w g a c hR => (single_any a c g [] w hR).mono ?_⟩
  rintro e w' ⟨h1, h2⟩
  exact ⟨h2, h1⟩
 | cons t r =>
  have hb : bareF W k (t :: r) = match singleF t with | none => .error 20 | some x => .ok (timesL x k, r) := by rw [bareF, if_neg (by rw [show isS t 40 = false from h]; decide)]; cases singleF t <;> rfl
  cases hs : singleF t with
  | none =>
   refine .inl ⟨by rw [hb, hs], fun w g a c hR => (single_any a c g (t :: r) w hR).mono ?_⟩
   rintro e w' ⟨h1, h2, h3⟩
   rw [hs] at h3
   exact ⟨h3, h1⟩
  | some x =>
   refine .inr ⟨x, r, singleF_good hs, singleF_len hs, by rw [hb, hs], fun w g a c hR => (single_any a c g (t :: r) w hR).mono ?_⟩
   rintro e w' ⟨h1, h2, h3⟩
   rw [hs] at h3
   exact ⟨h3, h1, h2⟩
theorem grown_res {w w4 w9 : World} {g : Nat} (h : w.grownBy w4 (some g)) (s2 : w4.grownBy w9 (some w.heap.size)) : w.grownBy w9 (some g) :=
 ⟨s2.os.trans h.os, s2.tape.trans h.tape, s2.output.trans h.output, Nat.le_trans h.size s2.size, fun k hk hne => by rw [s2.block k (Nat.lt_of_lt_of_le hk h.size) (fun e => by injection e with e; omega), h.block k hk hne]⟩
theorem times_nil (k : Int) (w : World) : Calls Tryz.prog 127 #[linZ, .int .u32 k] w fun e w' => Below w.heap.size w w' /\ ∃ a c q, e = .returned (linV (.slice a 0 c) q) := by
 refine (times_any none 0 [] 0 k (by simp) w (TmLies.nil _ _)).mono ?_
 rintro e w' ⟨hb, v, rfl, hown⟩
 obtain ⟨a, c, rfl⟩ := own_slice hown
 exact ⟨hb, a, c, _, rfl⟩
theorem times_lin (x : Lin) (k : Int) (B : Nat) (a : Option Addr) (n c : Nat) (hl : x.terms.length <= 4400000) (w : World) (h : w.ownsRow B 61 2 (.slice a n c) x.terms.length (rowT x.terms)) :
  Calls Tryz.prog 127 #[linV (.slice a n c) x.const, .int .u32 k] w fun e w' => Below w.heap.size w w' /\ ∃ a' n' c', e = .returned (linV (.slice a' n' c') (timesL x k).const) /\ w'.ownsRow w.heap.size 61 2 (.slice a' n' c') (timesL x k).terms.length (rowT (timesL x k).terms) := by
 have hn := own_len h
 subst hn
 refine (times_any a c x.terms x.const k hl w (own_tmLies h)).mono ?_
 rintro e w' ⟨hb, v, rfl, hown⟩
 obtain ⟨a', c', rfl⟩ := own_slice hown
 exact ⟨hb, a', _, c', rfl, hown⟩
theorem take_no1 (a : Option Addr) (cc g : Nat) (c : UInt8) (ts : List Tok) (W : World) (O : Obj) (h : Rd W g a cc ts) (hs : headIs c ts = false) :
  Calls Tryz.prog 125 #[.pointer (some ⟨g, 0, none⟩), .slice (some ⟨W.heap.size + 1, 0, none⟩) 1 1] ((W.alloc O).alloc (.cells #[.string ⟨#[c]⟩] 9)) fun e w' => e = .returned (.string ⟨#[]⟩) /\ (W.alloc O).grownBy w' (some g) /\ ∃ a' c', Rd w' g a' c' ts := by
 have := take_no a cc g c ts (W.alloc O) (h.below (below_alloc W O)) hs
 rwa [show (W.alloc O).heap.size = W.heap.size + 1 by simp] at this
theorem take_yes1 (a : Option Addr) (cc g : Nat) (c : UInt8) (t : Tok) (r : List Tok) (W : World) (O : Obj) (h : Rd W g a cc (t :: r)) (hs : isS t c = true) :
  Calls Tryz.prog 125 #[.pointer (some ⟨g, 0, none⟩), .slice (some ⟨W.heap.size + 1, 0, none⟩) 1 1] ((W.alloc O).alloc (.cells #[.string ⟨#[c]⟩] 9)) fun e w' => e = .returned (.string ⟨#[c]⟩) /\ (W.alloc O).grownBy w' (some g) /\ ∃ a' c', Rd w' g a' c' r := by
 have := take_yes a cc g c t r (W.alloc O) (h.below (below_alloc W O)) hs
 rwa [show (W.alloc O).heap.size = W.heap.size + 1 by simp] at this
set_option maxHeartbeats 2000000 in
theorem factor_any (a0 : Option Addr) (c0 g : Nat) (I : World -> Prop) (lb : Array Value) (W : List Tok -> PRes) (hW : Within g I lb W) (ts0 : List Tok) (w : World) (hI : I w) (h : Rd w g a0 c0 ts0) :
  Calls Tryz.prog 130 #[.pointer (some ⟨g, 0, none⟩), .func (.func 124) #[] lb] w fun e w' => FOut w g (factorF W ts0) e w' := by
 have hglt := h.lt
 have hstart : Hid (FSt w g ts0 ts0 1 (w.alloc (.cells #[.slice none 0 0, .int .u32 0] 31))) := ⟨rfl, ⟨a0, c0, h.below (below_alloc w _)⟩, World.grownBy_alloc w _ _, two_new w 31 _ _, by simp⟩
 have hWH := Hid.intro hW
 have hIH := Hid.intro hI
 obtain ⟨R0, hR0⟩ : ∃ R0, R0 = factorF W ts0 := ⟨_, rfl⟩
 rw [<- hR0]
 have hR0H := Hid.intro hR0
 clear h hW hI hR0
 go_enter Tryz.func130, Tryz.ntmps130
 go_wp2
 go_loopw [6] (fun v6 wr => ∃ (ts : List Tok) (k : Int), v6 = .int .u32 k /\ Hid (FSt w g ts0 ts k wr)) (fun v6 wr => leftOf g wr)
 case atStart => exact ⟨ts0, 1, rfl, hstart⟩
 case round =>
  clear hstart
  obtain ⟨ts, k, rfl, hS⟩ := hrel
  obtain ⟨a1, c1, hR⟩ := hS.out.rd
  have hRH := Hid.intro hR
  clear hR
  cases hm : headIs 45 ts
  ·have hno := Hid.intro (take_no a1 c1 g 45 ts wr hRH.out hm)
   have hF : Hid (R0 = bareF W k ts) := by show R0 = _; rw [hR0H.out]; unfold factorF; rw [hS.out.eq, minus_no hm]
   clear hm
   cases hp : headIs 40 ts
   ·have hp2 := Hid.intro (fun (w1 : World) (a2 : Option Addr) (c2 : Nat) (h : Rd w1 g a2 c2 ts) => take_no a2 c2 g 40 ts w1 h hp)
    rcases single_cases k W ts hp with ⟨hb, hsg⟩ | ⟨x, r, hx1, hx2, hb, hsg⟩
    ·have hFE : Hid (R0 = .error 20) := by show R0 = _; rw [hF.out, hb]
     replace hsg := Hid.intro hsg
     clear hb hp hF
     have hsres := fun (w3 : World) (h1 : wr.grownBy w3 (some g)) => hS.out.res.grown h1 (by simp; omega)
     have hsz := hS.out.size
     go_wp2_with (first
      | (go_at_call 125; with_reducible refine (hno.out).mono ?_; rintro e w1 ⟨rfl, hg1, a2, c2, hR2⟩; replace hR2 := Hid.intro hR2)
      | (go_at_call 125; with_reducible refine (hp2.out _ _ _ hR2.out).mono ?_; rintro e w2 ⟨rfl, hg2, a3, c3, hR3⟩; replace hR3 := Hid.intro hR3)
      | (go_at_call 136; (with_reducible refine (hsg.out _ _ _ _ hR3.out).mono ?_); rintro e w3 ⟨rfl, hg3⟩; have hg13 := grown_trans (grown_trans hg1 hg2) hg3)
      | (go_at_call 127; with_reducible refine (times_nil k _).mono ?_; rintro e w4 ⟨hb4, a5, c5, q5, rfl⟩; obtain ⟨th, t0, t1, tf0, tf1⟩ := (hsres _ hg13).below (one_below hb4) (by have := hg13.size; omega); replace th := Hid.intro th))
     all_goals first | omega | skip
     obtain ⟨s1, s2⟩ := two_set th.out rfl (.slice a5 0 c5) (.int .u32 q5)
     generalize (((w4).setCell ⟨w.heap.size, 0, none⟩ (.slice a5 0 c5)).setCell ⟨w.heap.size, 1, none⟩ (.int .u32 q5)) = w9 at s1 s2 ⊢
     obtain ⟨_, z0, z1, _, _⟩ := s1
     refine bodyPost_ret (by simp [results, Tryz.results130, go_sem, z0, z1]; try rfl) rfl ?_
     rw [hFE.out]
     exact ⟨grown_res (grown_trans hS.out.grown (grown_trans hg13 (grown_wide (grown_of_below (one_below hb4)) _))) s2, _, _, _, _, rfl⟩
    ·have hFE : Hid (R0 = .ok (timesL x k, r)) := by show R0 = _; rw [hF.out, hb]
     replace hsg := Hid.intro hsg
     have hx2H := Hid.intro hx2
     have hTL := Hid.intro (fun (B : Nat) (a : Option Addr) (n c : Nat) (w : World) h => times_lin x k B a n c (by omega) w h)
     clear hb hp hF hx1 hx2
     have hsres := fun (w3 : World) (h1 : wr.grownBy w3 (some g)) => hS.out.res.grown h1 (by simp; omega)
     have hsz := hS.out.size
     go_wp2_with (first
      | (go_at_call 125; with_reducible refine (hno.out).mono ?_; rintro e w1 ⟨rfl, hg1, a2, c2, hR2⟩; replace hR2 := Hid.intro hR2)
      | (go_at_call 125; with_reducible refine (hp2.out _ _ _ hR2.out).mono ?_; rintro e w2 ⟨rfl, hg2, a3, c3, hR3⟩; replace hR3 := Hid.intro hR3)
      | (go_at_call 136; (with_reducible refine (hsg.out _ _ _ _ hR3.out).mono ?_); rintro e w3 ⟨⟨a4, n4, c4, rfl, hown4⟩, hg3, a6, c6, hR6⟩; replace hR6 := Hid.intro hR6; replace hown4 := Hid.intro hown4; have hg13 := grown_trans (grown_trans hg1 hg2) hg3)
      | (go_at_call 127; with_reducible refine (hTL.out _ _ _ _ _ (hown4.out.alloc _)).mono ?_; rintro e w4 ⟨hb4, a5, n5, c5, rfl, hown5⟩; replace hown5 := Hid.intro hown5; obtain ⟨th, t0, t1, tf0, tf1⟩ := (hsres _ hg13).below (one_below hb4) (by have := hg13.size; omega); replace th := Hid.intro th))
     all_goals first | omega | skip
     obtain ⟨s1, s2⟩ := two_set th.out rfl (.slice a5 n5 c5) (.int .u32 (timesL x k).const)
     generalize (((w4).setCell ⟨w.heap.size, 0, none⟩ (.slice a5 n5 c5)).setCell ⟨w.heap.size, 1, none⟩ (.int .u32 (timesL x k).const)) = w9 at s1 s2 ⊢
     obtain ⟨_, z0, z1, _, _⟩ := s1
     refine bodyPost_ret (by simp [results, Tryz.results130, go_sem, z0, z1]; try rfl) rfl ?_
     rw [hFE.out]
     have hz3 := hg13.size
     have hown6 := hown5.out
     simp only [World.size_alloc] at hown6
     exact ⟨grown_res (grown_trans hS.out.grown (grown_trans hg13 (grown_wide (grown_of_below (one_below hb4)) _))) s2, ⟨_, _, _, rfl, own_weaken (own_low hown6 s2 (by omega)) (by omega)⟩, a6, c6, (hR6.out.below (one_below hb4)).grown s2 (by simp; omega) (fun x hx => by have := hR6.out.ne x hx; simp; omega)⟩
   ·obtain ⟨t, r, rfl, ht⟩ : ∃ t r, ts = t :: r /\ isS t 40 = true := by
     cases ts with
     | nil => cases hp
     | cons t r => exact ⟨t, r, rfl, hp⟩
    have hp2 := Hid.intro (fun (w1 : World) (a2 : Option Addr) (c2 : Nat) (h : Rd w1 g a2 c2 (t :: r)) => take_yes a2 c2 g 40 t r w1 h ht)
    have hF2 : Hid (R0 = closeF k (W r)) := by show R0 = _; rw [hF.out, bareF, if_pos ht]
    have hrun := Hid.intro (fun w a c hI hR => hWH.out.runs w a c r hI hR)
    have hfe := fun e he => hWH.out.fine.err r e he
    have hfl := fun x q he => hWH.out.fine.len r x q he
    have hfew := hRH.out.few
    simp only [List.length_cons] at hfew
    clear hp hF ht
    have hsres := fun (w3 : World) (h1 : wr.grownBy w3 (some g)) => hS.out.res.grown h1 (by simp; omega)
    have hsz := hS.out.size
    cases hWr : W r with
    | error k' =>
     have hk' := hfe _ hWr
     have hkz : (k' == 0) = false := by rcases hk' with rfl | rfl <;> rfl
     have hFE : Hid (R0 = .error k') := by show R0 = _; rw [hF2.out, hWr]; rfl
     rw [hWr] at hrun
     clear hWr hk' hF2 hfe hfl
     go_wp2_with (first
      | (go_at_call 125; with_reducible refine (hno.out).mono ?_; rintro e w1 ⟨rfl, hg1, a2, c2, hR2⟩; replace hR2 := Hid.intro hR2)
      | (go_at_call 125; with_reducible refine (hp2.out _ _ _ hR2.out).mono ?_; rintro e w2 ⟨rfl, hg2, a3, c3, hR3⟩; replace hR3 := Hid.intro hR3; have hI2 := Hid.intro (hWH.out.keep _ _ hIH.out (grown_trans hS.out.grown (grown_trans hg1 hg2))))
      | (go_at_call 124; (with_reducible refine (hrun.out _ _ _ hI2.out hR3.out).mono ?_); rintro e w3 ⟨hg3, rfl⟩; have hg13 := grown_trans (grown_trans hg1 hg2) hg3)
      | (go_at_call 127; with_reducible refine (times_nil k _).mono ?_; rintro e w4 ⟨hb4, a5, c5, q5, rfl⟩; obtain ⟨th, t0, t1, tf0, tf1⟩ := (hsres _ hg13).below (one_below hb4) (by have := hg13.size; omega); replace th := Hid.intro th))
     all_goals first | omega | skip
     obtain ⟨s1, s2⟩ := two_set th.out rfl (.slice a5 0 c5) (.int .u32 q5)
     generalize (((w4).setCell ⟨w.heap.size, 0, none⟩ (.slice a5 0 c5)).setCell ⟨w.heap.size, 1, none⟩ (.int .u32 q5)) = w9 at s1 s2 ⊢
     obtain ⟨_, z0, z1, _, _⟩ := s1
     refine bodyPost_ret (by simp [results, Tryz.results130, go_sem, z0, z1]; try rfl) rfl ?_
     rw [hFE.out]
     exact ⟨grown_res (grown_trans hS.out.grown (grown_trans hg13 (grown_wide (grown_of_below (one_below hb4)) _))) s2, _, _, _, _, rfl⟩
    | ok xr =>
     obtain ⟨x, q⟩ := xr
     have hxl := hfl _ _ hWr
     rw [hWr] at hrun hF2
     clear hWr hfe hfl
     cases hc : headIs 41 q
     ·have hFE : Hid (R0 = .error 20) := by
       show R0 = _
       rw [hF2.out]
       cases q with
       | nil => rfl
       | cons u q => rw [closeF, if_neg (by rw [show isS u 41 = false from hc]; decide)]
      have hp3 := Hid.intro (fun (w1 : World) (O : Obj) (a2 : Option Addr) (c2 : Nat) (h : Rd w1 g a2 c2 q) => take_no1 a2 c2 g 41 q w1 O h hc)
      clear hc hF2
      go_wp2_with (first
       | (go_at_call 125; with_reducible refine (hno.out).mono ?_; rintro e w1 ⟨rfl, hg1, a2, c2, hR2⟩; replace hR2 := Hid.intro hR2)
       | (go_at_call 125; with_reducible refine (hp2.out _ _ _ hR2.out).mono ?_; rintro e w2 ⟨rfl, hg2, a3, c3, hR3⟩; replace hR3 := Hid.intro hR3; have hI2 := Hid.intro (hWH.out.keep _ _ hIH.out (grown_trans hS.out.grown (grown_trans hg1 hg2))))
       | (go_at_call 124; (with_reducible refine (hrun.out _ _ _ hI2.out hR3.out).mono ?_); rintro e w3 ⟨hg3, ⟨a4, n4, c4, rfl, hown4⟩, a6, c6, hR6⟩; replace hR6 := Hid.intro hR6; have hg13 := grown_trans (grown_trans hg1 hg2) hg3)
       | (go_at_call 125; with_reducible refine (hp3.out _ _ _ _ hR6.out).mono ?_; rintro e w4 ⟨rfl, hg4, a7, c7, hR7⟩; obtain ⟨th, t0, t1, tf0, tf1⟩ := (((hsres _ hg13).alloc _).grown hg4 (by simp; omega)); replace th := Hid.intro th))
      all_goals first | omega | skip
      obtain ⟨s1, s2⟩ := two_set th.out rfl (.slice none 0 0) (.int .u32 0)
      generalize (((w4).setCell ⟨w.heap.size, 0, none⟩ (.slice none 0 0)).setCell ⟨w.heap.size, 1, none⟩ (.int .u32 0)) = w9 at s1 s2 ⊢
      obtain ⟨_, z0, z1, _, _⟩ := s1
      refine bodyPost_ret (by simp [results, Tryz.results130, go_sem, z0, z1]; try rfl) rfl ?_
      rw [hFE.out]
      exact ⟨grown_res (grown_trans hS.out.grown (grown_trans hg13 (grown_trans (World.grownBy_alloc _ _ _) hg4))) s2, _, _, _, _, rfl⟩
     ·obtain ⟨u, q', rfl, hu⟩ : ∃ u q', q = u :: q' /\ isS u 41 = true := by
       cases q with
       | nil => cases hc
       | cons u q => exact ⟨u, q, rfl, hc⟩
      have hFE : Hid (R0 = .ok (timesL x k, q')) := by show R0 = _; rw [hF2.out, closeF, if_pos hu]
      have hp3 := Hid.intro (fun (w1 : World) (O : Obj) (a2 : Option Addr) (c2 : Nat) (h : Rd w1 g a2 c2 (u :: q')) => take_yes1 a2 c2 g 41 u q' w1 O h hu)
      have hTL := Hid.intro (fun (B : Nat) (a : Option Addr) (n c : Nat) (w : World) h => times_lin x k B a n c (by omega) w h)
      clear hc hF2 hu
      go_wp2_with (first
       | (go_at_call 125; with_reducible refine (hno.out).mono ?_; rintro e w1 ⟨rfl, hg1, a2, c2, hR2⟩; replace hR2 := Hid.intro hR2)
       | (go_at_call 125; with_reducible refine (hp2.out _ _ _ hR2.out).mono ?_; rintro e w2 ⟨rfl, hg2, a3, c3, hR3⟩; replace hR3 := Hid.intro hR3; have hI2 := Hid.intro (hWH.out.keep _ _ hIH.out (grown_trans hS.out.grown (grown_trans hg1 hg2))))
       | (go_at_call 124; (with_reducible refine (hrun.out _ _ _ hI2.out hR3.out).mono ?_); rintro e w3 ⟨hg3, ⟨a4, n4, c4, rfl, hown4⟩, a6, c6, hR6⟩; replace hR6 := Hid.intro hR6; replace hown4 := Hid.intro hown4; have hg13 := grown_trans (grown_trans hg1 hg2) hg3; have hglt2 := Hid.intro (Nat.lt_of_lt_of_le hglt (grown_trans hS.out.grown (grown_trans hg1 hg2)).size))
       | (go_at_call 125; with_reducible refine (hp3.out _ _ _ _ hR6.out).mono ?_; rintro e w5 ⟨rfl, hg5, a7, c7, hR7⟩; replace hR7 := Hid.intro hR7; have hown5 := Hid.intro (own_low (hown4.out.alloc _) hg5 hglt2.out); have hg15 := grown_trans hg13 (grown_trans (World.grownBy_alloc _ _ _) hg5); obtain ⟨_, y0, y1, _, _⟩ := (two_new w3 31 (.slice a4 n4 c4) (.int .u32 x.const)).grown hg5 (by have := hg13.size; simp; omega))
       | (go_at_call 127; with_reducible refine (hTL.out _ _ _ _ _ hown5.out).mono ?_; rintro e w4 ⟨hb4, a5, n5, c5, rfl, hown6⟩; replace hown6 := Hid.intro hown6; obtain ⟨th, t0, t1, tf0, tf1⟩ := (hsres _ hg15).below hb4 (by have := hg15.size; omega); replace th := Hid.intro th))
      all_goals first | omega | skip
      obtain ⟨s1, s2⟩ := two_set th.out rfl (.slice a5 n5 c5) (.int .u32 (timesL x k).const)
      generalize (((w4).setCell ⟨w.heap.size, 0, none⟩ (.slice a5 n5 c5)).setCell ⟨w.heap.size, 1, none⟩ (.int .u32 (timesL x k).const)) = w9 at s1 s2 ⊢
      obtain ⟨_, z0, z1, _, _⟩ := s1
      refine bodyPost_ret (by simp [results, Tryz.results130, go_sem, z0, z1]; try rfl) rfl ?_
      rw [hFE.out]
      have hz3 := hg15.size
      exact ⟨grown_res (grown_trans hS.out.grown (grown_trans hg15 (grown_wide (grown_of_below hb4) _))) s2, ⟨_, _, _, rfl, own_weaken (own_low hown6.out s2 (by omega)) (by omega)⟩, a7, c7, (hR7.out.below hb4).grown s2 (by simp; omega) (fun x hx => by have := hR7.out.ne x hx; simp; omega)⟩
  ·obtain ⟨t, r, rfl, ht⟩ : ∃ t r, ts = t :: r /\ isS t 45 = true := by
    cases ts with
    | nil => cases hm
    | cons t r => exact ⟨t, r, rfl, hm⟩
   have hyes := Hid.intro (take_yes a1 c1 g 45 t r wr hRH.out ht)
   have hl := Hid.intro hRH.out.left
   have htH := Hid.intro ht
   clear hm ht
   go_wp2_with (go_at_call 125; with_reducible refine (hyes.out).mono ?_; rintro e w1 ⟨rfl, hg1, a2, c2, hR2⟩; replace hR2 := Hid.intro hR2)
   all_goals first | omega | skip
   go_roundw
   case rel => exact ⟨r, (-k) % 4294967296, rfl, Hid.intro (hS.out.step hglt hg1 ⟨_, _, hR2.out⟩ (minus_yes htH.out))⟩
   case measure => rw [hR2.out.left, hl.out]; simp
end Go.Proofs.YtlkmegchaeokgaaGreatDoor
/- expr's part. -/
namespace Go.Proofs.YtlkmegchaeokgaaGreatDoor
open Go.ChangeShapes Go.WideShapes Go.ChangeAt Go.RowKit
set_option linter.unusedVariables false
set_option maxRecDepth 100000
theorem own_ne {w : World} {lo : Nat} {v : Value} {n : Nat} {xs : List Value} {p : Nat} {x y : Value} (h : w.ownsRow lo 61 2 v n xs) (hp : Two w p 31 x y) : v.ownBlock ≠ some p := by
 intro e
 obtain ⟨cur, h1⟩ := own_type h e
 rw [hp.heap] at h1
 injection h1 with h1
 injection h1 with _ h1
 cases h1
structure PMem (w : World) (g p : Nat) (wr : World) : Prop where
 grown : w.grownBy wr (some g)
 res : Two wr w.heap.size 31 (.slice none 0 0) (.int .u32 0)
 size : p + 1 <= wr.heap.size
 lt : w.heap.size < p
structure PSt (w : World) (g p : Nat) (W : List Tok -> PRes) (N : Nat) (R0 : PRes) (ts : List Tok) (x : Lin) (a : Option Addr) (n c : Nat) (wr : World) : Prop where
 mem : PMem w g p wr
 eq : ∃ f, ts.length <= f /\ R0 = partL W f x ts
 good : GoodL x
 few : x.terms.length + ts.length <= N
 rd : ∃ a c, Rd wr g a c ts
 lin : Two wr p 31 (.slice a n c) (.int .u32 x.const)
 own : wr.ownsRow (w.heap.size + 1) 61 2 (.slice a n c) x.terms.length (rowT x.terms)
structure PErr (w : World) (g p : Nat) (R0 : PRes) (k : Int) (wr : World) : Prop where
 mem : PMem w g p wr
 eq : R0 = .error k
 ne : k = 20 ∨ k = 21
 lin : ∃ a n c q, Two wr p 31 (.slice a n c) (.int .u32 q)
theorem partL_no {W : List Tok -> PRes} {f : Nat} {x : Lin} {ts : List Tok} (h : headIs 42 ts = false) : partL W f x ts = .ok (x, ts) := by
 cases f with
 | zero => rw [partL]
 | succ f =>
  cases ts with
  | nil => rw [partL]
  | cons t r => rw [partL, if_neg (by rw [show isS t 42 = false from h]; decide)]
theorem partL_yes {W : List Tok -> PRes} {f : Nat} {x : Lin} {t : Tok} {r : List Tok} (h : isS t 42 = true) : partL W (f + 1) x (t :: r) = match factorF W r with | .error e => .error e | .ok (y, r') => match productF x y with | none => .error 21 | some z => partL W f z r' := by
 rw [partL, if_pos h]
 cases factorF W r with
 | error e => rfl
 | ok p => obtain ⟨y, q⟩ := p; simp only; cases productF x y <;> rfl
theorem own_kept {w w' : World} {lo : Nat} {T : TypeId} {sz : Nat} {v : Value} {n : Nat} {xs : List Value} {q : Nat} (h : w.ownsRow lo T sz v n xs) (hg : w.grownBy w' (some q)) (hne : v.ownBlock ≠ some q) : w'.ownsRow lo T sz v n xs := h.kept hg (.inr hne)
theorem prod_own (a1 a2 : Option Addr) (n1 c1 n2 c2 : Nat) (x y : Lin) (B1 B2 : Nat) (w : World) (hx : w.ownsRow B1 61 2 (.slice a1 n1 c1) x.terms.length (rowT x.terms)) (hy : w.ownsRow B2 61 2 (.slice a2 n2 c2) y.terms.length (rowT y.terms)) (hl1 : x.terms.length <= 4400000) (hl2 : y.terms.length <= 4400000) :
  Calls Tryz.prog 131 #[linV (.slice a1 n1 c1) x.const, linV (.slice a2 n2 c2) y.const] w fun e w' => Below w.heap.size w w' /\
   match productF x y with
   | none => e = .returned (.tuple #[linZ, .int .i64 21])
   | some z => LinOut w.heap.size w' z e := by
 have e1 := own_len hx
 have e2 := own_len hy
 subst e1 e2
 exact product_any a1 a2 c1 c2 x y w (own_tmLies hx) (own_tmLies hy) hl1 hl2
def pleft (g : Nat) (v : Value) (w : World) : Nat := if intOf v = 0 then leftOf g w + 1 else 0
theorem PMem.grown_g {w : World} {g p : Nat} {wr w' : World} (h : PMem w g p wr) (hglt : g < w.heap.size) (hg : wr.grownBy w' (some g)) : PMem w g p w' :=
 ⟨grown_trans h.grown hg, h.res.grown hg (by simp; omega), Nat.le_trans h.size hg.size, h.lt⟩
theorem PMem.below {w : World} {g p : Nat} {wr w' : World} (h : PMem w g p wr) (hb : Below wr.heap.size wr w') : PMem w g p w' :=
 ⟨grown_trans h.grown (grown_wide (grown_of_below hb) _), h.res.below hb (by have := h.size; have := h.lt; omega), Nat.le_trans h.size hb.size, h.lt⟩
theorem PMem.high {w : World} {g p : Nat} {wr w' : World} (h : PMem w g p wr) {q : Nat} (hq : w.heap.size < q) (s2 : wr.grownBy w' (some q)) : PMem w g p w' :=
 ⟨⟨s2.os.trans h.grown.os, s2.tape.trans h.grown.tape, s2.output.trans h.grown.output, Nat.le_trans h.grown.size s2.size, fun k hk hne => by rw [s2.block k (Nat.lt_of_lt_of_le hk h.grown.size) (fun e => by injection e with e; omega), h.grown.block k hk hne]⟩, h.res.grown s2 (by simp; omega), Nat.le_trans h.size s2.size, h.lt⟩
set_option maxHeartbeats 4000000 in
theorem part_any (a0 : Option Addr) (c0 g : Nat) (I : World -> Prop) (lb : Array Value) (W : List Tok -> PRes) (hW : Within g I lb W) (ts0 : List Tok) (w : World) (hI : I w) (h : Rd w g a0 c0 ts0) :
  Calls Tryz.prog 126 #[.pointer (some ⟨g, 0, none⟩), .func (.func 124) #[] lb] w fun e w' => FOut w g (partF W ts0) e w' := by
 have hglt := h.lt
 have hfew := h.few
 have hWH := Hid.intro hW
 have hIH := Hid.intro hI
 have hkeep := Hid.intro (fun wr (hg : w.grownBy wr (some g)) => hW.keep w wr hI hg)
 have hfac := Hid.intro (fun (w1 : World) (a : Option Addr) (c : Nat) (ts : List Tok) (hI1 : I w1) (hR : Rd w1 g a c ts) => factor_any a c g I lb W hW ts w1 hI1 hR)
 have hff := Hid.intro (factorF_fine hW.fine)
 have h0 := Hid.intro (hfac.out (w.alloc (.cells #[.slice none 0 0, .int .u32 0] 31)) a0 c0 ts0 (hW.keep w _ hI (World.grownBy_alloc w _ _)) (h.below (below_alloc w _)))
 obtain ⟨R0, hR0⟩ : ∃ R0, R0 = partF W ts0 := ⟨_, rfl⟩
 rw [<- hR0]
 have ht0 := two_new w 31 (.slice none 0 0) (.int .u32 0)
 have hsz0 : (w.alloc (.cells #[.slice none 0 0, .int .u32 0] 31)).heap.size = w.heap.size + 1 := by simp
 -- the loop, whatever the first factor gave
 have hloopE : ∀ (k : Int), factorF W ts0 = .error k -> R0 = .error k := fun k hk => by rw [hR0]; unfold partF; rw [hk]
 have hloopO : ∀ (x : Lin) (r : List Tok), factorF W ts0 = .ok (x, r) -> R0 = partL W r.length x r := fun x r hk => by rw [hR0]; unfold partF; rw [hk]
 have hst : Hid (∀ e w1, FOut (w.alloc (.cells #[.slice none 0 0, .int .u32 0] 31)) g (factorF W ts0) e w1 -> ∃ a n c q k, e = .returned (.tuple #[linV (.slice a n c) q, .int .i64 k]) /\
   ((k = 0 /\ ∃ ts x, q = x.const /\ PSt w g w1.heap.size W ts0.length R0 ts x a n c (w1.alloc (.cells #[.slice a n c, .int .u32 q] 31))) ∨ PErr w g w1.heap.size R0 k (w1.alloc (.cells #[.slice a n c, .int .u32 q] 31)))) := by
  intro e w1 hF
  have hg := hF.1
  have hs := hg.size
  rw [hsz0] at hs
  have hmem : ∀ o, PMem w g w1.heap.size (w1.alloc o) := fun o =>
   ⟨grown_trans (grown_trans (World.grownBy_alloc w _ _) hg) (World.grownBy_alloc _ _ _), (ht0.grown hg (by simp; omega)).alloc _, by simp, by omega⟩
  cases hf : factorF W ts0 with
  | error k =>
   have h2 := hF.2
   rw [hf] at h2
   obtain ⟨a, n, c, q, rfl⟩ := h2
   exact ⟨a, n, c, q, k, rfl, .inr ⟨hmem _, hloopE k hf, hff.out.2 _ _ hf, a, n, c, q, two_new _ _ _ _⟩⟩
  | ok p =>
   obtain ⟨x, r⟩ := p
   have h2 := hF.2
   rw [hf] at h2
   obtain ⟨⟨a, n, c, rfl, hown⟩, a1, c1, hR⟩ := h2
   have hl := hff.out.1 _ _ _ hf
   rw [hsz0] at hown
   exact ⟨a, n, c, x.const, 0, rfl, .inl ⟨rfl, r, x, rfl, hmem _, ⟨r.length, Nat.le_refl _, hloopO x r hf⟩, hl.2.2, hl.2.1, ⟨a1, c1, hR.below (below_alloc _ _)⟩, two_new _ _ _ _, hown.alloc _⟩⟩
 clear h hW hI hR0 hloopE hloopO ht0
 go_enter Tryz.func126, Tryz.ntmps126
 go_wp2_with (go_at_call 130; (with_reducible refine (h0.out).mono ?_); intro e w1 hF; obtain ⟨a, n, c, q, k, rfl, hS0⟩ := hst.out e w1 hF; replace hS0 := Hid.intro hS0; clear hF)
 all_goals first | omega | skip
 obtain ⟨p, hp⟩ : ∃ p, p = w1.heap.size := ⟨_, rfl⟩
 rw [<- hp] at hS0 ⊢
 clear hp h0 hst
 go_loopw [7] (fun v7 wr => ∃ (k : Int), v7 = .int .i64 k /\ Hid ((k = 0 /\ ∃ ts x a n c, PSt w g p W ts0.length R0 ts x a n c wr) ∨ PErr w g p R0 k wr)) (fun v7 wr => pleft g v7 wr)
 case atStart =>
  refine ⟨k, rfl, ?_⟩
  rcases hS0.out with ⟨hk, ts, x, hq, hS⟩ | hE
  ·exact .inl ⟨hk, ts, x, a, n, c, hS⟩
  ·exact .inr hE
 case round =>
  clear hS0
  obtain ⟨k, rfl, hS⟩ := hrel
  rcases hS.out with ⟨rfl, ts, x, a2, n2, c2, hA⟩ | hE
  ·have hAH := Hid.intro hA
   obtain ⟨_, x0, x1, xf0, xf1⟩ := hA.lin
   obtain ⟨a3, c3, hR⟩ := hA.rd
   have hRH := Hid.intro hR
   have hN := hA.few
   have hm1 := hA.mem.size
   have hm2 := hA.mem.lt
   clear hA hR hS
   cases hm : headIs 42 ts
   ·have hno := Hid.intro (take_no a3 c3 g 42 ts wr hRH.out hm)
    have hF : Hid (R0 = .ok (x, ts)) := by
     obtain ⟨f, _, hf⟩ := hAH.out.eq
     show R0 = _
     rw [hf, partL_no hm]
    clear hm
    go_wp2_with (go_at_call 125; with_reducible refine (hno.out).mono ?_; rintro e w2 ⟨rfl, hg2, a4, c4, hR2⟩; replace hR2 := Hid.intro hR2; obtain ⟨_, y0, y1, _, _⟩ := hAH.out.lin.grown hg2 (by simp; omega); obtain ⟨th, t0, t1, tf0, tf1⟩ := hAH.out.mem.res.grown hg2 (by simp; omega); replace th := Hid.intro th)
    all_goals first | omega | skip
    obtain ⟨s1, s2⟩ := two_set th.out rfl (.slice a2 n2 c2) (.int .u32 x.const)
    generalize (((w2).setCell ⟨w.heap.size, 0, none⟩ (.slice a2 n2 c2)).setCell ⟨w.heap.size, 1, none⟩ (.int .u32 x.const)) = w9 at s1 s2 ⊢
    obtain ⟨_, z0, z1, _, _⟩ := s1
    refine bodyPost_ret (by simp [results, Tryz.results126, go_sem, z0, z1]; try rfl) rfl ?_
    rw [hF.out]
    have hs2 := hg2.size
    exact ⟨grown_res (grown_trans hAH.out.mem.grown hg2) s2, ⟨_, _, _, rfl, own_weaken (own_low (own_low hAH.out.own hg2 (by omega)) s2 (by omega)) (by omega)⟩, a4, c4, hR2.out.grown s2 (by simp; omega) (fun x hx => by have := hR2.out.ne x hx; simp; omega)⟩
   ·obtain ⟨t, r, rfl, ht⟩ : ∃ t r, ts = t :: r /\ isS t 42 = true := by
     cases ts with
     | nil => cases hm
     | cons t r => exact ⟨t, r, rfl, hm⟩
    have hyes := Hid.intro (take_yes a3 c3 g 42 t r wr hRH.out ht)
    obtain ⟨f, hf1, hf2⟩ := hAH.out.eq
    simp only [List.length_cons] at hf1 hN
    obtain ⟨f, rfl⟩ : ∃ f', f = f' + 1 := ⟨f - 1, by omega⟩
    rw [partL_yes ht] at hf2
    have hleft := Hid.intro hRH.out.left
    clear hm ht
    have hfr := fun (w2 : World) (a4 : Option Addr) (c4 : Nat) (hg2 : wr.grownBy w2 (some g)) (hR2 : Rd w2 g a4 c4 r) => hfac.out (w2.alloc (.cells #[.slice none 0 0, .int .u32 0] 31)) a4 c4 r (hWH.out.keep _ _ (hkeep.out _ (grown_trans hAH.out.mem.grown hg2)) (World.grownBy_alloc _ _ _)) (hR2.below (below_alloc _ _))
    cases hfR : factorF W r with
    | error k =>
     have hk := hff.out.2 _ _ hfR
     have hkz : (k == 0) = false := by rcases hk with rfl | rfl <;> rfl
     have hkH := Hid.intro hk
     rw [hfR] at hfr hf2
     have hfrH := Hid.intro hfr
     have hFE : Hid (R0 = .error k) := hf2
     clear hfr hf2 hfR hk
     go_wp2_with (first
      | (go_at_call 125; with_reducible refine (hyes.out).mono ?_; rintro e w2 ⟨rfl, hg2, a4, c4, hR2⟩; replace hR2 := Hid.intro hR2)
      | (go_at_call 130; (with_reducible refine (hfrH.out _ _ _ hg2 hR2.out).mono ?_); rintro e w3 ⟨hg3, ay, ny, cy, qy, rfl⟩; have hg23 := grown_trans hg2 (grown_trans (World.grownBy_alloc _ _ _) hg3); have hw2s := hg2.size; obtain ⟨yh, y0, y1, yf0, yf1⟩ := (two_new w2 31 (.slice none 0 0) (.int .u32 0)).grown hg3 (by simp; omega); replace yh := Hid.intro yh))
     all_goals first | omega | skip
     go_roundw
     case rel =>
      obtain ⟨s1, s2⟩ := two_set yh.out rfl (.slice ay ny cy) (.int .u32 qy)
      have hl3 := (hAH.out.lin.grown hg23 (by simp; omega)).grown s2 (by simp; omega)
      exact ⟨k, rfl, Hid.intro (.inr ⟨(hAH.out.mem.grown_g hglt hg23).high (by omega) s2, hFE.out, hkH.out, a2, n2, c2, x.const, hl3⟩)⟩
     case measure =>
      have hk0 : k ≠ 0 := by rcases hkH.out with rfl | rfl <;> decide
      simp [pleft, intOf, hk0]
    | ok yr =>
     obtain ⟨y, r'⟩ := yr
     have hless := hff.out.1 _ _ _ hfR
     have hl1 := hless.1
     have hl2 := hless.2.1
     have hgy := Hid.intro hless.2.2
     rw [hfR] at hfr hf2
     simp only at hf2
     have hfrH := Hid.intro hfr
     have hpr := fun (w5 : World) (a1 b1 : Option Addr) (n1 d1 m1 e1 : Nat) (B1 B2 : Nat) (h1 : w5.ownsRow B1 61 2 (.slice a1 n1 d1) x.terms.length (rowT x.terms)) (h2 : w5.ownsRow B2 61 2 (.slice b1 m1 e1) y.terms.length (rowT y.terms)) => prod_own a1 b1 n1 d1 m1 e1 x y B1 B2 w5 h1 h2 (by omega) (by omega)
     cases hP : productF x y with
     | none =>
      rw [hP] at hpr hf2
      have hprH := Hid.intro hpr
      have hFE : Hid (R0 = .error 21) := hf2
      clear hfr hf2 hfR hpr hP hless
      go_wp2_with (first
       | (go_at_call 125; with_reducible refine (hyes.out).mono ?_; rintro e w2 ⟨rfl, hg2, a4, c4, hR2⟩; replace hR2 := Hid.intro hR2)
       | (go_at_call 130; (with_reducible refine (hfrH.out _ _ _ hg2 hR2.out).mono ?_); rintro e w3 ⟨hg3, ⟨ay, ny, cy, rfl, hownY⟩, a5, c5, hR5⟩; replace hownY := Hid.intro hownY; replace hR5 := Hid.intro hR5; have hg23 := grown_trans hg2 (grown_trans (World.grownBy_alloc _ _ _) hg3); have hw2s := hg2.size; have hyy := (two_new w2 31 (.slice none 0 0) (.int .u32 0)).grown hg3 (by simp; omega); have hyset := Hid.intro (two_set hyy.heap rfl (.slice ay ny cy) (.int .u32 y.const)); have hyyH := Hid.intro hyy; obtain ⟨_, y0, y1, yf0, yf1⟩ := hyy; have hxx := hAH.out.lin.grown hg23 (by simp; omega); have hxxH := Hid.intro hxx; obtain ⟨_, z0, z1, zf0, zf1⟩ := hxx; have hne1 : ¬ p = w2.heap.size := (by omega); have hne2 : ¬ w2.heap.size = p := (by omega); have hownX := Hid.intro (own_low hAH.out.own hg23 (by omega)); have hX2 := Hid.intro (own_kept hownX.out hyset.out.2 (own_ne hownX.out hyyH.out)); have hY2 := Hid.intro (own_kept hownY.out hyset.out.2 (own_ne hownY.out hyyH.out)))
       | (go_at_call 131; (with_reducible refine (hprH.out _ _ _ _ _ _ _ _ _ hX2.out hY2.out).mono ?_); rintro e w5 ⟨hb5, rfl⟩; obtain ⟨ph, p0, p1, pf0, pf1⟩ := (hxxH.out.grown hyset.out.2 (by simp; omega)).below hb5 (by have := hyset.out.2.size; have := hg23.size; omega); replace ph := Hid.intro ph))
      all_goals first | omega | skip
      go_roundw
      case rel =>
       obtain ⟨s1, s2⟩ := two_set ph.out rfl (.slice none 0 0) (.int .u32 0)
       exact ⟨21, rfl, Hid.intro (.inr ⟨(((hAH.out.mem.grown_g hglt hg23).high (by omega) hyset.out.2).below hb5).high hm2 s2, hFE.out, .inr rfl, none, 0, 0, 0, s1⟩)⟩
      case measure => simp [pleft, intOf]
     | some z =>
      rw [hP] at hpr hf2
      have hprH := Hid.intro hpr
      have hgz := Hid.intro (productF_good hAH.out.good hgy.out hP)
      have hFE : Hid (R0 = partL W f z r') := hf2
      clear hfr hf2 hfR hpr hP hless
      go_wp2_with (first
       | (go_at_call 125; with_reducible refine (hyes.out).mono ?_; rintro e w2 ⟨rfl, hg2, a4, c4, hR2⟩; replace hR2 := Hid.intro hR2)
       | (go_at_call 130; (with_reducible refine (hfrH.out _ _ _ hg2 hR2.out).mono ?_); rintro e w3 ⟨hg3, ⟨ay, ny, cy, rfl, hownY⟩, a5, c5, hR5⟩; replace hownY := Hid.intro hownY; replace hR5 := Hid.intro hR5; have hg23 := grown_trans hg2 (grown_trans (World.grownBy_alloc _ _ _) hg3); have hw2s := hg2.size; have hyy := (two_new w2 31 (.slice none 0 0) (.int .u32 0)).grown hg3 (by simp; omega); have hyset := Hid.intro (two_set hyy.heap rfl (.slice ay ny cy) (.int .u32 y.const)); have hyyH := Hid.intro hyy; obtain ⟨_, y0, y1, yf0, yf1⟩ := hyy; have hxx := hAH.out.lin.grown hg23 (by simp; omega); have hxxH := Hid.intro hxx; obtain ⟨_, z0, z1, zf0, zf1⟩ := hxx; have hne1 : ¬ p = w2.heap.size := (by omega); have hne2 : ¬ w2.heap.size = p := (by omega); have hownX := Hid.intro (own_low hAH.out.own hg23 (by omega)); have hX2 := Hid.intro (own_kept hownX.out hyset.out.2 (own_ne hownX.out hyyH.out)); have hY2 := Hid.intro (own_kept hownY.out hyset.out.2 (own_ne hownY.out hyyH.out)))
       | (go_at_call 131; (with_reducible refine (hprH.out _ _ _ _ _ _ _ _ _ hX2.out hY2.out).mono ?_); rintro e w5 ⟨hb5, az, nz, cz, rfl, hownZ⟩; replace hownZ := Hid.intro hownZ; obtain ⟨ph, p0, p1, pf0, pf1⟩ := (hxxH.out.grown hyset.out.2 (by simp; omega)).below hb5 (by have := hyset.out.2.size; have := hg23.size; omega); replace ph := Hid.intro ph))
      all_goals first | omega | skip
      go_roundw
      case rel =>
       obtain ⟨s1, s2⟩ := two_set ph.out rfl (.slice az nz cz) (.int .u32 z.const)
       have hz5 := hyset.out.2.size
       have hz6 := hg23.size
       have hz7 := hb5.size
       refine ⟨0, rfl, Hid.intro (.inl ⟨rfl, r', z, az, nz, cz, (((hAH.out.mem.grown_g hglt hg23).high (by omega) hyset.out.2).below hb5).high hm2 s2, ⟨f, by omega, hFE.out⟩, hgz.out.1, ?_, ⟨a5, c5, ?_⟩, s1, ?_⟩)⟩
       ·rcases hgz.out.2 with h | h <;> omega
       ·exact ((hR5.out.grown hyset.out.2 (by simp; omega) (fun x hx => by have := hR5.out.ne x hx; simp; omega)).below hb5).grown s2 (by simp; omega) (fun x hx => by have := hR5.out.ne x hx; simp; omega)
       ·exact own_weaken (own_low hownZ.out s2 (by omega)) (by omega)
      case measure =>
       obtain ⟨s1, s2⟩ := two_set ph.out rfl (.slice az nz cz) (.int .u32 z.const)
       have hR9 := ((hR5.out.grown hyset.out.2 (by simp; omega) (fun x hx => by have := hR5.out.ne x hx; simp; omega)).below hb5).grown s2 (by simp; omega) (fun x hx => by have := hR5.out.ne x hx; simp; omega)
       simp only [pleft, intOf, if_true]
       rw [hR9.left, hleft.out]
       simp
       omega
  ·obtain ⟨a5, n5, c5, q5, hlin⟩ := hE.lin
   have hEH := Hid.intro hE
   have hkz : (k == 0) = false := by rcases hE.ne with rfl | rfl <;> rfl
   obtain ⟨_, x0, x1, _, _⟩ := hlin
   obtain ⟨th, t0, t1, tf0, tf1⟩ := hE.mem.res
   replace th := Hid.intro th
   clear hE hS
   go_wp2
   all_goals first | omega | skip
   obtain ⟨s1, s2⟩ := two_set th.out rfl (.slice a5 n5 c5) (.int .u32 q5)
   generalize (((wr).setCell ⟨w.heap.size, 0, none⟩ (.slice a5 n5 c5)).setCell ⟨w.heap.size, 1, none⟩ (.int .u32 q5)) = w9 at s1 s2 ⊢
   obtain ⟨_, z0, z1, _, _⟩ := s1
   refine bodyPost_ret (by simp [results, Tryz.results126, go_sem, z0, z1]; try rfl) rfl ?_
   rw [hEH.out.eq]
   exact ⟨grown_res hEH.out.mem.grown s2, _, _, _, _, rfl⟩
end Go.Proofs.YtlkmegchaeokgaaGreatDoor
/- expr.Parse: sums, within each other. -/
namespace Go.Proofs.YtlkmegchaeokgaaGreatDoor
open Go.ChangeShapes Go.WideShapes Go.ChangeAt Go.RowKit
set_option linter.unusedVariables false
set_option maxRecDepth 100000
theorem sumL_stable {W : List Tok -> PRes} (hW : Fine W) : ∀ (f f' : Nat) (acc : List Tm) (n : Int) (ts : List Tok), ts.length <= f -> ts.length <= f' -> sumL W f acc n ts = sumL W f' acc n ts := by
 intro f
 induction f with
 | zero =>
  intro f' acc n ts h1 h2
  have : ts = [] := List.eq_nil_of_length_eq_zero (by omega)
  subst this
  cases f' <;> rfl
 | succ f ih =>
  intro f' acc n ts h1 h2
  cases ts with
  | nil => cases f' <;> rfl
  | cons t r =>
   simp only [List.length_cons] at h1 h2
   obtain ⟨f', rfl⟩ : ∃ k, f' = k + 1 := ⟨f' - 1, by omega⟩
   rw [sumL, sumL]
   cases hP : partF W r with
   | error e => rfl
   | ok p =>
    obtain ⟨x, r'⟩ := p
    have hl := ((partF_fine hW).1 _ _ _ hP).1
    simp only
    rw [ih f' (acc ++ x.terms) _ r' (by omega) (by omega), ih f' (acc ++ timesT x.terms 4294967295) _ r' (by omega) (by omega)]
def sumS (W : List Tok -> PRes) (acc : List Tm) (n : Int) (ts : List Tok) : PRes := sumL W ts.length acc n ts
def contP (W : List Tok -> PRes) (acc : List Tm) (n : Int) : PRes -> PRes
 | .error e => .error e
 | .ok (x, r) => sumS W (acc ++ x.terms) ((n + x.const) % 4294967296) r
def contM (W : List Tok -> PRes) (acc : List Tm) (n : Int) : PRes -> PRes
 | .error e => .error e
 | .ok (x, r) => sumS W (acc ++ timesT x.terms 4294967295) ((n + x.const * 4294967295 % 4294967296) % 4294967296) r
theorem sumF_cont {W : List Tok -> PRes} (hW : Fine W) (ts : List Tok) : sumF W ts = contP W [] 0 (partF W ts) := by
 unfold sumF
 cases hP : partF W ts with
 | error e => rfl
 | ok p =>
  obtain ⟨x, r⟩ := p
  have hg := ((partF_fine hW).1 _ _ _ hP).2.2
  simp only [contP, List.nil_append, Int.zero_add]
  rw [Int.emod_eq_of_lt hg.lo hg.hi]
  rfl
theorem sumS_plus {W : List Tok -> PRes} (hW : Fine W) {acc : List Tm} {n : Int} {t : Tok} {r : List Tok} (h : isS t 43 = true) : sumS W acc n (t :: r) = contP W acc n (partF W r) := by
 unfold sumS
 rw [List.length_cons, sumL, if_pos h]
 cases hP : partF W r with
 | error e => rfl
 | ok p =>
  obtain ⟨x, r'⟩ := p
  have hl := ((partF_fine hW).1 _ _ _ hP).1
  exact sumL_stable hW _ _ _ _ _ (by omega) (Nat.le_refl _)
theorem isS_other {t : Tok} {c d : UInt8} (h : isS t c = true) (hne : c ≠ d) : isS t d = false := by
 have ht := isS_text h
 simp [isS, ht, hne]
theorem sumS_minus {W : List Tok -> PRes} (hW : Fine W) {acc : List Tm} {n : Int} {t : Tok} {r : List Tok} (h : isS t 45 = true) : sumS W acc n (t :: r) = contM W acc n (partF W r) := by
 unfold sumS
 rw [List.length_cons, sumL, if_neg (by rw [isS_other h (by decide)]; decide), if_pos h]
 cases hP : partF W r with
 | error e => rfl
 | ok p =>
  obtain ⟨x, r'⟩ := p
  have hl := ((partF_fine hW).1 _ _ _ hP).1
  exact sumL_stable hW _ _ _ _ _ (by omega) (Nat.le_refl _)
theorem sumS_end {W : List Tok -> PRes} {acc : List Tm} {n : Int} {ts : List Tok} (h1 : headIs 43 ts = false) (h2 : headIs 45 ts = false) : sumS W acc n ts = .ok (⟨norm acc, n⟩, ts) := by
 unfold sumS
 cases ts with
 | nil => rfl
 | cons t r => rw [List.length_cons, sumL, if_neg (by rw [show isS t 43 = false from h1]; decide), if_neg (by rw [show isS t 45 = false from h2]; decide)]
theorem take_pm (a : Option Addr) (cc g : Nat) (ts : List Tok) (W : World) (h : Rd W g a cc ts) :
  Calls Tryz.prog 125 #[.pointer (some ⟨g, 0, none⟩), .slice (some ⟨W.heap.size, 0, none⟩) 2 2] (W.alloc (.cells #[.string ⟨#[43]⟩, .string ⟨#[45]⟩] 9)) fun e w' => e = .returned (.string (str (takenS [43, 45] ts))) /\ W.grownBy w' (some g) /\ ∃ a' c', Rd w' g a' c' (takenR [43, 45] ts) := by
 refine (take_any a cc g W.heap.size 2 [43, 45] ts (W.alloc (.cells #[.string ⟨#[43]⟩, .string ⟨#[45]⟩] 9)) (by simp) (h.below (below_alloc W _)) ?_).mono ?_
 ·intro j x hj
  rw [cell_of_row _ _ _ _ 9 (0, 0) (heap_alloc_new W _)]
  match j, hj with
  | 0, hj => simp at hj; subst hj; rfl
  | 1, hj => simp at hj; subst hj; rfl
 ·rintro e w' ⟨rfl, hg, hR⟩
  exact ⟨rfl, grown_trans (grown_wide (grown_of_below (below_alloc W _)) _) hg, hR⟩
inductive Sg (W : List Tok -> PRes) (R0 : PRes) (acc : List Tm) (n : Int) (ts : List Tok) : List UInt8 -> Prop
 | plus : R0 = contP W acc n (partF W ts) -> Sg W R0 acc n ts [43]
 | minus : R0 = contM W acc n (partF W ts) -> Sg W R0 acc n ts [45]
 | done : R0 = .ok (⟨norm acc, n⟩, ts) -> Sg W R0 acc n ts []
theorem sg_taken {W : List Tok -> PRes} (hW : Fine W) {R0 : PRes} {acc : List Tm} {n : Int} {ts : List Tok} (h : R0 = sumS W acc n ts) : Sg W R0 acc n (takenR [43, 45] ts) (takenS [43, 45] ts) := by
 cases ts with
 | nil => exact .done (by rw [h]; exact sumS_end rfl rfl)
 | cons t r =>
  cases h1 : isS t 43
  ·cases h2 : isS t 45
   ·have ho : oneOf [43, 45] t = false := by simp [oneOf, h1, h2]
    have e1 : takenS [43, 45] (t :: r) = [] := by simp [takenS, ho]
    have e2 : takenR [43, 45] (t :: r) = t :: r := by simp [takenR, ho]
    rw [e1, e2]
    exact .done (by rw [h]; exact sumS_end h1 h2)
   ·have ho : oneOf [43, 45] t = true := by simp [oneOf, h2]
    have e1 : takenS [43, 45] (t :: r) = [45] := by simp [takenS, ho, isS_text h2]
    have e2 : takenR [43, 45] (t :: r) = r := by simp [takenR, ho]
    rw [e1, e2]
    exact .minus (by rw [h]; exact sumS_minus hW h2)
  ·have ho : oneOf [43, 45] t = true := by simp [oneOf, h1]
   have e1 : takenS [43, 45] (t :: r) = [43] := by simp [takenS, ho, isS_text h1]
   have e2 : takenR [43, 45] (t :: r) = r := by simp [takenR, ho]
   rw [e1, e2]
   exact .plus (by rw [h]; exact sumS_plus hW h1)
theorem takenR_len (ss : List UInt8) (ts : List Tok) : (takenR ss ts).length <= ts.length := by
 cases ts with
 | nil => simp [takenR]
 | cons t r => simp only [takenR]; split <;> simp
structure Cap (w : World) (gs g : Nat) : Prop where
 fn : w.cell? ⟨gs, 0, none⟩ = some (.func (.func 123) #[] #[.pointer (some ⟨gs, 0, none⟩), .pointer (some ⟨g, 0, none⟩)])
 ne : gs ≠ g
 lt : gs < w.heap.size
theorem Cap.keep {w w' : World} {gs g : Nat} (h : Cap w gs g) (hg : w.grownBy w' (some g)) : Cap w' gs g := ⟨hg.cell h.fn (fun e => h.ne (by injection e)), h.ne, Nat.lt_of_lt_of_le h.lt hg.size⟩
theorem Rd.low {w w' : World} {g : Nat} {a : Option Addr} {c : Nat} {ts : List Tok} {B : Nat} (h : Rd w g a c ts) (hb : Below B w w') (hB : g < B) : Rd w' g a c ts := by
 refine ⟨by rw [hb.block g hB]; exact h.heap, ?_, h.ne, h.cap, h.most, h.few, h.short⟩
 rcases h.lies with hl | ⟨gt, o, ha, hgt, hl⟩
 ·exact .inl hl
 ·have hlt := h.ne _ ha
  simp only at hlt
  refine .inr ⟨gt, o, ha, Nat.lt_of_lt_of_le hgt hb.size, fun i t hi => ?_⟩
  obtain ⟨q0, q1, q2, q3⟩ := hl i t hi
  exact ⟨by rw [hb.cell (p := ⟨gt, _, none⟩) (by simp only; omega)]; exact q0, by rw [hb.cell (p := ⟨gt, _, none⟩) (by simp only; omega)]; exact q1, by rw [hb.cell (p := ⟨gt, _, none⟩) (by simp only; omega)]; exact q2, by rw [hb.cell (p := ⟨gt, _, none⟩) (by simp only; omega)]; exact q3⟩
theorem grown_low {w wr w2 : World} {g B : Nat} (h : w.grownBy wr (some g)) (hb : Below B wr w2) (hB : w.heap.size <= B) : w.grownBy w2 (some g) :=
 ⟨hb.os.trans h.os, hb.tape.trans h.tape, hb.output.trans h.output, Nat.le_trans h.size hb.size, fun k hk hne => by rw [hb.block k (by omega), h.block k hk hne]⟩
theorem grown_high {w w4 w9 : World} {g q : Nat} (h : w.grownBy w4 (some g)) (s2 : w4.grownBy w9 (some q)) (hq : w.heap.size <= q) : w.grownBy w9 (some g) :=
 ⟨s2.os.trans h.os, s2.tape.trans h.tape, s2.output.trans h.output, Nat.le_trans h.size s2.size, fun k hk hne => by rw [s2.block k (Nat.lt_of_lt_of_le hk h.size) (fun e => by injection e with e; omega), h.block k hk hne]⟩
structure SSt (w : World) (g gs op : Nat) (W : List Tok -> PRes) (N : Nat) (R0 : PRes) (acc : List Tm) (n : Int) (ts : List Tok) (sg : List UInt8) (a : Option Addr) (m c : Nat) (wr : World) : Prop where
 sg : Sg W R0 acc n ts sg
 few : acc.length + ts.length <= N
 rd : ∃ a c, Rd wr g a c ts
 own : wr.ownsRow (w.heap.size + 1 + 1) 61 2 (.slice a m c) acc.length (rowT acc)
 grown : w.grownBy wr (some g)
 cap : Cap wr gs g
 box : wr.cell? ⟨w.heap.size, 0, none⟩ = some (.int .i64 (op : Int))
 res : Two wr (w.heap.size + 1) 31 (.slice none 0 0) (.int .u32 0)
 size : w.heap.size + 1 + 1 <= wr.heap.size
 low : gs < w.heap.size
def SumOK (d : Nat) : Prop := ∀ (op : Nat) (w : World) (g gs : Nat) (a : Option Addr) (c : Nat) (ts : List Tok), op + d = 33 -> Rd w g a c ts -> Cap w gs g -> Calls Tryz.prog 123 #[.int .i64 (op : Int), .pointer (some ⟨gs, 0, none⟩), .pointer (some ⟨g, 0, none⟩)] w fun e w' => WOut w g (sumD d ts) e w'
theorem within_runs (d op g gs go : Nat) (hod : op + 1 + d = 33) (hgo : go ≠ g) (ih : SumOK d) : Within g (fun w => Cap w gs g /\ w.cell? ⟨go, 0, none⟩ = some (.int .i64 (op : Int))) #[.pointer (some ⟨gs, 0, none⟩), .pointer (some ⟨go, 0, none⟩)] (sumD d) := by
 refine ⟨fun w w' ⟨h1, h2⟩ hg => ⟨h1.keep hg, hg.cell h2 (fun e => hgo (by injection e))⟩, sumD_fine d, fun w a c ts ⟨hC, ho⟩ hR => ?_⟩
 have hf : ∀ o, (w.alloc o).cell? ⟨gs, 0, none⟩ = some (.func (.func 123) #[] #[.pointer (some ⟨gs, 0, none⟩), .pointer (some ⟨g, 0, none⟩)]) := fun o => (World.grownBy_alloc w o none).cell hC.fn (by simp)
 have ho' : ∀ o, (w.alloc o).cell? ⟨go, 0, none⟩ = some (.int .i64 (op : Int)) := fun o => (World.grownBy_alloc w o none).cell ho (by simp)
 have hop : op <= 32 := by omega
 have hrun := fun o => ih (op + 1) (w.alloc o) g gs a c ts hod (hR.below (below_alloc w o)) (hC.keep (World.grownBy_alloc w o _))
 rw [show ((op + 1 : Nat) : Int) = (op : Int) + 1 by omega] at hrun
 have hglt := hR.lt
 cases hS : sumD d ts with
 | error k =>
  rw [hS] at hrun
  have hrunH := Hid.intro hrun
  clear hrun hR hC ho hS
  go_enter Tryz.func124, Tryz.ntmps124
  go_wp2_with (go_at_call 123; (with_reducible refine (hrunH.out _).mono ?_); rintro e w1 ⟨hg1, rfl⟩; obtain ⟨th, t0, t1, tf0, tf1⟩ := (two_new w 31 (.slice none 0 0) (.int .u32 0)).grown hg1 (by simp; omega); replace th := Hid.intro th)
  all_goals first | omega | skip
  obtain ⟨s1, s2⟩ := two_set th.out rfl (.slice none 0 0) (.int .u32 0)
  generalize (((w1).setCell ⟨w.heap.size, 0, none⟩ (.slice none 0 0)).setCell ⟨w.heap.size, 1, none⟩ (.int .u32 0)) = w9 at s1 s2 ⊢
  obtain ⟨_, z0, z1, _, _⟩ := s1
  refine bodyPost_ret (by simp [results, Tryz.results124, go_sem, z0, z1]; try rfl) rfl ?_
  exact ⟨grown_res (grown_trans (World.grownBy_alloc w _ _) hg1) s2, rfl⟩
 | ok p =>
  obtain ⟨x, r⟩ := p
  rw [hS] at hrun
  have hrunH := Hid.intro hrun
  clear hrun hR hC ho hS
  go_enter Tryz.func124, Tryz.ntmps124
  go_wp2_with (go_at_call 123; (with_reducible refine (hrunH.out _).mono ?_); rintro e w1 ⟨hg1, ⟨a1, n1, c1, rfl, hown⟩, a2, c2, hR2⟩; replace hown := Hid.intro hown; replace hR2 := Hid.intro hR2; obtain ⟨th, t0, t1, tf0, tf1⟩ := (two_new w 31 (.slice none 0 0) (.int .u32 0)).grown hg1 (by simp; omega); replace th := Hid.intro th)
  all_goals first | omega | skip
  obtain ⟨s1, s2⟩ := two_set th.out rfl (.slice a1 n1 c1) (.int .u32 x.const)
  generalize (((w1).setCell ⟨w.heap.size, 0, none⟩ (.slice a1 n1 c1)).setCell ⟨w.heap.size, 1, none⟩ (.int .u32 x.const)) = w9 at s1 s2 ⊢
  obtain ⟨_, z0, z1, _, _⟩ := s1
  refine bodyPost_ret (by simp [results, Tryz.results124, go_sem, z0, z1]; try rfl) rfl ?_
  have hown2 := hown.out
  simp only [World.size_alloc] at hown2
  exact ⟨grown_res (grown_trans (World.grownBy_alloc w _ _) hg1) s2, ⟨_, _, _, rfl, own_weaken (own_low hown2 s2 (by omega)) (by omega)⟩, a2, c2, hR2.out.grown s2 (by simp; omega) (fun x hx => by have := hR2.out.ne x hx; simp; omega)⟩
set_option maxHeartbeats 1000000 in
theorem sum_zero : SumOK 0 := by
 intro op w g gs a c ts hop hR hC
 have ho : op = 33 := by omega
 subst ho
 clear hR hC
 go_enter Tryz.func123, Tryz.ntmps123
 go_wp2
 all_goals first | omega | skip
 have s1 := two_new (w.alloc (.cells #[.int .i64 33] 3)) 31 (.slice none 0 0) (.int .u32 0)
 have hb9 := (below_alloc w (.cells #[.int .i64 33] 3)).alloc (by simp) (.cells #[.slice none 0 0, .int .u32 0] 31)
 simp only [World.size_alloc] at s1
 generalize ((w.alloc (.cells #[.int .i64 33] 3)).alloc (.cells #[.slice none 0 0, .int .u32 0] 31)) = w9 at s1 hb9 ⊢
 obtain ⟨_, z0, z1, _, _⟩ := s1
 refine bodyPost_ret (by simp [results, Tryz.results123, go_sem, z0, z1]; try rfl) rfl ?_
 exact ⟨grown_wide (grown_of_below hb9) _, rfl⟩
structure SK (w : World) (g gs op : Nat) (w2 : World) : Prop where
 grown : w.grownBy w2 (some g)
 cap : Cap w2 gs g
 box : w2.cell? ⟨w.heap.size, 0, none⟩ = some (.int .i64 (op : Int))
 res : Two w2 (w.heap.size + 1) 31 (.slice none 0 0) (.int .u32 0)
 size : w.heap.size + 1 + 1 <= w2.heap.size
 low : gs < w.heap.size
theorem SK.step {w : World} {g gs op : Nat} {w2 w3 : World} {k : Option Nat} (h : SK w g gs op w2) (hg : w2.grownBy w3 k) (hk : ∀ q, k = some q -> w.heap.size + 1 + 1 <= q ∨ q = g) (hglt : g < w.heap.size) : SK w g gs op w3 := by
 have hne : ∀ b, b < w.heap.size + 1 + 1 -> b ≠ g -> some b ≠ k := fun b hb hbg e => by
  rcases hk b e.symm with h1 | h1 <;> omega
 refine ⟨⟨hg.os.trans h.grown.os, hg.tape.trans h.grown.tape, hg.output.trans h.grown.output, Nat.le_trans h.grown.size hg.size, fun b hb hbn => ?_⟩, ⟨hg.cell h.cap.fn (hne gs (by have := h.low; omega) h.cap.ne), h.cap.ne, Nat.lt_of_lt_of_le h.cap.lt hg.size⟩, hg.cell h.box (hne _ (by simp only; omega) (by simp only; omega)), h.res.grown hg (fun e => hne (w.heap.size + 1) (by omega) (by omega) e.symm), Nat.le_trans h.size hg.size, h.low⟩
 have hbg : b ≠ g := fun e => hbn (by rw [e])
 rw [hg.block b (Nat.lt_of_lt_of_le hb h.grown.size) (hne b (by omega) hbg), h.grown.block b hb hbn]
theorem SSt.sk {w : World} {g gs op : Nat} {W : List Tok -> PRes} {N : Nat} {R0 : PRes} {acc : List Tm} {n : Int} {ts : List Tok} {sg : List UInt8} {a : Option Addr} {m c : Nat} {wr : World} (h : SSt w g gs op W N R0 acc n ts sg a m c wr) : SK w g gs op wr := ⟨h.grown, h.cap, h.box, h.res, h.size, h.low⟩
theorem SSt.of {w : World} {g gs op : Nat} {W : List Tok -> PRes} {N : Nat} {R0 : PRes} {acc : List Tm} {n : Int} {ts : List Tok} {sg : List UInt8} {a : Option Addr} {m c : Nat} {wr : World} (h : SK w g gs op wr) (h1 : Sg W R0 acc n ts sg) (h2 : acc.length + ts.length <= N) (h3 : ∃ a c, Rd wr g a c ts) (h4 : wr.ownsRow (w.heap.size + 1 + 1) 61 2 (.slice a m c) acc.length (rowT acc)) : SSt w g gs op W N R0 acc n ts sg a m c wr :=
 ⟨h1, h2, h3, h4, h.grown, h.cap, h.box, h.res, h.size, h.low⟩
theorem SSt.keep {w : World} {g gs op : Nat} {W : List Tok -> PRes} {N : Nat} {R0 : PRes} {acc : List Tm} {n : Int} {ts : List Tok} {sg : List UInt8} {a : Option Addr} {m c : Nat} {wr : World} (h : SSt w g gs op W N R0 acc n ts sg a m c wr) {w' : World} (hg : wr.grownBy w' (some g)) (hglt : g < w.heap.size) :
  w.grownBy w' (some g) /\ Cap w' gs g /\ w'.cell? ⟨w.heap.size, 0, none⟩ = some (.int .i64 (op : Int)) /\ Two w' (w.heap.size + 1) 31 (.slice none 0 0) (.int .u32 0) /\ w'.ownsRow (w.heap.size + 1 + 1) 61 2 (.slice a m c) acc.length (rowT acc) :=
 ⟨grown_trans h.grown hg, h.cap.keep hg, hg.cell h.box (by simp; omega), h.res.grown hg (by simp; omega), own_low h.own hg (by omega)⟩
set_option maxHeartbeats 4000000 in
theorem sum_step (d : Nat) (ih : SumOK d) : SumOK (d + 1) := by
 intro op w g gs a c ts0 hop hR hC
 have hglt := hR.lt
 have hfew := hR.few
 have hWI := within_runs d op g gs w.heap.size (by omega) (by omega) ih
 have hpf := Hid.intro (partF_fine (sumD_fine d))
 have hWF := Hid.intro (sumD_fine d)
 have hpart := Hid.intro (fun (wr : World) (a : Option Addr) (c : Nat) (ts : List Tok) (h1 : Cap wr gs g) (h2 : wr.cell? ⟨w.heap.size, 0, none⟩ = some (.int .i64 (op : Int))) (hR : Rd wr g a c ts) => part_any a c g _ _ _ hWI ts wr ⟨h1, h2⟩ hR)
 have hb0 : Below w.heap.size w ((w.alloc (.cells #[.int .i64 (op : Int)] 3)).alloc (.cells #[.slice none 0 0, .int .u32 0] 31)) := (below_alloc w _).alloc (by simp) _
 have hstart : Hid (SSt w g gs op (sumD d) ts0.length (sumD (d + 1) ts0) [] 0 ts0 [43] none 0 0 ((w.alloc (.cells #[.int .i64 (op : Int)] 3)).alloc (.cells #[.slice none 0 0, .int .u32 0] 31))) := by
  refine ⟨.plus (sumF_cont (sumD_fine d) ts0), by simp, ⟨a, c, hR.below hb0⟩, World.ownsRow_nil _ _ _ _, grown_wide (grown_of_below hb0) _, hC.keep (grown_wide (grown_of_below hb0) _), ?_, ?_, by simp, hC.lt⟩
  ·refine (World.grownBy_alloc _ _ none).cell ?_ (by simp)
   rw [cell_of_row _ _ _ _ 3 (0, 0) (heap_alloc_new w _)]
   rfl
  ·have := two_new (w.alloc (.cells #[.int .i64 (op : Int)] 3)) 31 (.slice none 0 0) (.int .u32 0)
   simpa using this
 obtain ⟨R0, hR0⟩ : ∃ R0, R0 = sumD (d + 1) ts0 := ⟨_, rfl⟩
 rw [<- hR0] at hstart ⊢
 obtain ⟨N, hN⟩ : ∃ N, N = ts0.length := ⟨_, rfl⟩
 rw [<- hN] at hstart hfew
 have hop32 : op <= 32 := by omega
 clear hR hC hR0 hb0 hWI hN hop ih
 go_enter Tryz.func123, Tryz.ntmps123
 go_wp2
 all_goals first | omega | skip
 go_loopw [7, 8, 9] (fun v7 v8 v9 wr => ∃ (acc : List Tm) (n : Int) (ts : List Tok) (sg : List UInt8) (a : Option Addr) (m c : Nat), v7 = .slice a m c /\ v8 = .int .u32 n /\ v9 = .string (str sg) /\ Hid (SSt w g gs op (sumD d) N R0 acc n ts sg a m c wr)) (fun _ _ _ wr => leftOf g wr)
 case atStart => exact ⟨[], 0, ts0, [43], none, 0, 0, rfl, rfl, rfl, hstart⟩
 case round =>
  clear hstart
  obtain ⟨acc, n, ts, sg, a1, m1, c1, rfl, rfl, rfl, hS⟩ := hrel
  obtain ⟨a2, c2, hR⟩ := hS.out.rd
  have hRH := Hid.intro hR
  have hl := Hid.intro hR.left
  have hsz := hS.out.size
  have hfN := hS.out.few
  have hm1 := Hid.intro (own_len hS.out.own)
  have hp1 := Hid.intro (hpart.out wr a2 c2 ts hS.out.cap hS.out.box hR)
  clear hR
  have hsg := hS.out.sg
  have e43 : str [43] = ⟨#[43]⟩ := rfl
  have e45 : str [45] = ⟨#[45]⟩ := rfl
  have e0 : str [] = ⟨#[]⟩ := rfl
  cases hsg with
  | done hdone =>
   have hdH := Hid.intro hdone
   have hG := Hid.intro (gather_any (.slice a1 m1 c1) acc n (w.heap.size + 1 + 1) wr (by omega) hsz hS.out.own)
   rw [e0] at *
   clear hdone
   go_wp2_with (go_at_call 128; (with_reducible refine (hG.out).mono ?_); rintro e w2 ⟨hb2, v2, rfl, hown2⟩; obtain ⟨a3, c3, rfl⟩ := own_slice hown2; replace hown2 := Hid.intro hown2; obtain ⟨th, t0, t1, tf0, tf1⟩ := hS.out.res.below hb2 (by omega); replace th := Hid.intro th)
   all_goals first | omega | skip
   obtain ⟨s1, s2⟩ := two_set th.out rfl (.slice a3 (norm acc).length c3) (.int .u32 n)
   generalize (((w2).setCell ⟨w.heap.size + 1, 0, none⟩ (.slice a3 (norm acc).length c3)).setCell ⟨w.heap.size + 1, 1, none⟩ (.int .u32 n)) = w9 at s1 s2 ⊢
   obtain ⟨_, z0, z1, _, _⟩ := s1
   refine bodyPost_ret (by simp [results, Tryz.results123, go_sem, z0, z1]; try rfl) rfl ?_
   rw [hdH.out]
   have hR5 := (hRH.out.low hb2 (by omega)).grown s2 (by simp; omega) (fun x hx => by have := hRH.out.ne x hx; simp; omega)
   exact ⟨grown_high (grown_low hS.out.grown hb2 (by omega)) s2 (by omega), ⟨a3, _, c3, rfl, own_weaken (own_low hown2.out s2 (by omega)) (by omega)⟩, a2, c2, hR5⟩
  | plus hplus =>
   have hPp := hplus
   clear hplus
   rw [e43] at *
   cases hP : partF (sumD d) ts with
   | error k =>
    have hk := hpf.out.2 _ _ hP
    have hkz : (k != 0) = true := by rcases hk with rfl | rfl <;> rfl
    have hFE : Hid (R0 = .error k) := by show R0 = _; rw [hPp, hP]; rfl
    rw [hP] at hp1
    clear hP hPp hk
    go_wp2_with (first
     | (go_at_call 126; (with_reducible refine (hp1.out).mono ?_); rintro e w2 ⟨hg2, ax, nx, cx, qx, rfl⟩; obtain ⟨k1, k2, k3, k4, k5⟩ := hS.out.keep hg2 hglt; obtain ⟨th, t0, t1, tf0, tf1⟩ := k4.alloc (.cells #[.slice ax nx cx, .int .u32 qx] 31); replace th := Hid.intro th; replace k2 := Hid.intro k2; replace k3 := Hid.intro k3; replace k5 := Hid.intro k5))
    all_goals first | omega | skip
    obtain ⟨s1, s2⟩ := two_set th.out rfl (.slice none 0 0) (.int .u32 0)
    generalize (((w2.alloc (.cells #[.slice ax nx cx, .int .u32 qx] 31)).setCell ⟨w.heap.size + 1, 0, none⟩ (.slice none 0 0)).setCell ⟨w.heap.size + 1, 1, none⟩ (.int .u32 0)) = w9 at s1 s2 ⊢
    obtain ⟨_, z0, z1, _, _⟩ := s1
    refine bodyPost_ret (by simp [results, Tryz.results123, go_sem, z0, z1]; try rfl) rfl ?_
    rw [hFE.out]
    exact ⟨grown_high (grown_trans k1 (World.grownBy_alloc _ _ _)) s2 (by omega), rfl⟩
   | ok xr =>
    obtain ⟨x, r⟩ := xr
    have hless := hpf.out.1 _ _ _ hP
    have hl1 := hless.1
    have hl2 := hless.2.1
    have hFE : Hid (R0 = sumS (sumD d) (acc ++ x.terms) ((n + x.const) % 4294967296) r) := by show R0 = _; rw [hPp, hP]; rfl
    rw [hP] at hp1
    clear hP hPp hless
    go_wp2_with (first
     | (go_at_call 126; (with_reducible refine (hp1.out).mono ?_); rintro e w2 ⟨hg2, ⟨ax, nx, cx, rfl, hownX⟩, a3, c3, hR3⟩; have hs2 := hg2.size; obtain ⟨k1, k2, k3, k4, k5⟩ := hS.out.keep hg2 hglt; replace k1 := Hid.intro k1; replace k2 := Hid.intro k2; replace k3 := Hid.intro k3; replace k4 := Hid.intro k4; replace k5 := Hid.intro k5; replace hR3 := Hid.intro hR3; have hnx := Hid.intro (own_len hownX); replace hownX := Hid.intro hownX; have hnx2 : nx <= 1100000 := (by rw [hnx.out]; omega))
     | (at_builtin; go_must (refine app_terms _ rfl (.tmp 36) (.tmp 38) rfl (w.heap.size + 1 + 1) (.slice a1 m1 c1) m1 acc x.terms hm1.out rfl (by have := k5.out.alloc (.cells #[.slice ax nx cx, .int .u32 x.const] 31); rwa [<- hm1.out] at this) ax cx nx hnx.out rfl (own_held (hownX.out.alloc _)) (by rw [hm1.out]; omega) (by simp; omega) ?_; intro a7 c7 w3 hown3 hgrow3; replace hown3 := Hid.intro hown3; have htp := Hid.intro ((two_new w2 31 (.slice ax nx cx) (.int .u32 x.const)).grown hgrow3 (own_ne (k5.out.alloc _) (two_new w2 31 (.slice ax nx cx) (.int .u32 x.const)))); obtain ⟨_, u0, u1, _, _⟩ := htp.out; have hs3 := hgrow3.size; have hR4 := Hid.intro ((hR3.out.below (below_alloc w2 (.cells #[.slice ax nx cx, .int .u32 x.const] 31))).grown hgrow3 (fun e => by have := (k5.out.lt _ e).1; omega) (fun y hy e => by have h1 := hR3.out.ne y hy; have h2 := (k5.out.lt _ e.symm).1; omega)); have hpm := Hid.intro (take_pm a3 c3 g r w3 hR4.out)))
     | (go_at_call 125; (with_reducible refine (hpm.out).mono ?_); rintro e w4 ⟨rfl, hg4, a8, c8, hR8⟩; replace hR8 := Hid.intro hR8))
    all_goals first | omega | skip
    go_roundw
    case rel =>
     have hlen : (acc ++ x.terms).length = m1 + nx := by rw [List.length_append, hm1.out, hnx.out]
     have htl := takenR_len [43, 45] r
     refine ⟨acc ++ x.terms, (n + x.const) % 4294967296, takenR [43, 45] r, takenS [43, 45] r, a7, m1 + nx, c7, rfl, rfl, rfl, Hid.intro (SSt.of ?_ (sg_taken hWF.out hFE.out) ?_ ⟨a8, c8, hR8.out⟩ ?_)⟩
     ·exact (((hS.out.sk.step hg2 (fun q hq => by cases hq; exact .inr rfl) hglt).step (World.grownBy_alloc _ _ none) (fun q hq => by cases hq) hglt).step hgrow3 (fun q hq => .inl (k5.out.lt q hq).1) hglt).step hg4 (fun q hq => by cases hq; exact .inr rfl) hglt
     ·rw [List.length_append]; omega
     ·rw [hlen]; exact own_low hown3.out hg4 (by omega)
    case measure =>
     have htl := takenR_len [43, 45] r
     rw [hR8.out.left, hl.out]
     omega
  | minus hminus =>
   have hPp := hminus
   clear hminus
   rw [e45] at *
   cases hP : partF (sumD d) ts with
   | error k =>
    have hk := hpf.out.2 _ _ hP
    have hkz : (k != 0) = true := by rcases hk with rfl | rfl <;> rfl
    have hFE : Hid (R0 = .error k) := by show R0 = _; rw [hPp, hP]; rfl
    rw [hP] at hp1
    clear hP hPp hk
    go_wp2_with (first
     | (go_at_call 126; (with_reducible refine (hp1.out).mono ?_); rintro e w2 ⟨hg2, ax, nx, cx, qx, rfl⟩; obtain ⟨k1, k2, k3, k4, k5⟩ := hS.out.keep hg2 hglt; obtain ⟨th, t0, t1, tf0, tf1⟩ := k4.alloc (.cells #[.slice ax nx cx, .int .u32 qx] 31); replace th := Hid.intro th; replace k2 := Hid.intro k2; replace k3 := Hid.intro k3; replace k5 := Hid.intro k5))
    all_goals first | omega | skip
    obtain ⟨s1, s2⟩ := two_set th.out rfl (.slice none 0 0) (.int .u32 0)
    generalize (((w2.alloc (.cells #[.slice ax nx cx, .int .u32 qx] 31)).setCell ⟨w.heap.size + 1, 0, none⟩ (.slice none 0 0)).setCell ⟨w.heap.size + 1, 1, none⟩ (.int .u32 0)) = w9 at s1 s2 ⊢
    obtain ⟨_, z0, z1, _, _⟩ := s1
    refine bodyPost_ret (by simp [results, Tryz.results123, go_sem, z0, z1]; try rfl) rfl ?_
    rw [hFE.out]
    exact ⟨grown_high (grown_trans k1 (World.grownBy_alloc _ _ _)) s2 (by omega), rfl⟩
   | ok xr =>
    obtain ⟨x, r⟩ := xr
    have hless := hpf.out.1 _ _ _ hP
    have hl1 := hless.1
    have hl2 := hless.2.1
    have hl3 := times_len x.terms 4294967295
    have hFE : Hid (R0 = sumS (sumD d) (acc ++ (timesL x 4294967295).terms) ((n + (timesL x 4294967295).const) % 4294967296) r) := by show R0 = _; rw [hPp, hP]; rfl
    have hTL := Hid.intro (fun (B : Nat) (a : Option Addr) (n c : Nat) (w : World) h => times_lin x 4294967295 B a n c (by omega) w h)
    have hl4 : (timesL x 4294967295).terms.length <= x.terms.length := hl3
    rw [hP] at hp1
    clear hP hPp hless hl3
    generalize timesL x 4294967295 = z at hFE hTL hl4
    go_wp2_with (first
     | (go_at_call 126; (with_reducible refine (hp1.out).mono ?_); rintro e w2 ⟨hg2, ⟨ax, nx, cx, rfl, hownX⟩, a3, c3, hR3⟩; have hs2 := hg2.size; obtain ⟨k1, k2, k3, k4, k5⟩ := hS.out.keep hg2 hglt; replace k1 := Hid.intro k1; replace k2 := Hid.intro k2; replace k3 := Hid.intro k3; replace k4 := Hid.intro k4; replace k5 := Hid.intro k5; replace hR3 := Hid.intro hR3; have hnx := Hid.intro (own_len hownX); replace hownX := Hid.intro hownX; have hnx2 : nx <= 1100000 := (by rw [hnx.out]; omega))
     | (go_at_call 127; (with_reducible refine (hTL.out _ _ _ _ _ (hownX.out.alloc _)).mono ?_); rintro e w5 ⟨hb5, az, nz, cz, rfl, hownZ⟩; have hnz := Hid.intro (own_len hownZ); replace hownZ := Hid.intro hownZ; have hnz2 : nz <= 1100000 := (by rw [hnz.out]; omega); have hs5 := hb5.size; have htx := Hid.intro (two_below hb5); obtain ⟨_, v0, v1, vf0, vf1⟩ := htx.out; have hpz := Hid.intro (two_set htx.out.heap rfl (.slice az nz cz) (.int .u32 z.const)); have hownZ2 := Hid.intro (own_kept hownZ.out hpz.out.2 (own_ne hownZ.out htx.out)); have hk6 := Hid.intro (ownsRow_below (k5.out.alloc _) hb5); have hk7 := Hid.intro (own_kept hk6.out hpz.out.2 (own_ne hk6.out htx.out)); have hR9 := Hid.intro ((hR3.out.below (one_below hb5)).grown hpz.out.2 (by simp; omega) (fun y hy => by have := hR3.out.ne y hy; simp; omega)))
     | (at_builtin; go_must (refine app_terms _ rfl (.tmp 36) (.tmp 38) rfl (w.heap.size + 1 + 1) (.slice a1 m1 c1) m1 acc z.terms hm1.out rfl (by have := hk7.out; rwa [<- hm1.out] at this) az cz nz hnz.out rfl (own_held hownZ2.out) (by rw [hm1.out]; omega) (by simp at hs5 ⊢; omega) ?_; intro a7 c7 w3 hown3 hgrow3; replace hown3 := Hid.intro hown3; have htp := Hid.intro (hpz.out.1.grown hgrow3 (own_ne hk7.out hpz.out.1)); obtain ⟨_, u0, u1, _, _⟩ := htp.out; have hs3 := hgrow3.size; have hR4 := Hid.intro (hR9.out.grown hgrow3 (fun e => by have := (k5.out.lt _ e).1; omega) (fun y hy e => by have h1 := hR9.out.ne y hy; have h2 := (k5.out.lt _ e.symm).1; omega)); have hpm := Hid.intro (take_pm a3 c3 g r w3 hR4.out)))
     | (go_at_call 125; (with_reducible refine (hpm.out).mono ?_); rintro e w4 ⟨rfl, hg4, a8, c8, hR8⟩; replace hR8 := Hid.intro hR8))
    all_goals first | omega | skip
    go_roundw
    case rel =>
     have hlen : (acc ++ z.terms).length = m1 + nz := by rw [List.length_append, hm1.out, hnz.out]
     have htl := takenR_len [43, 45] r
     refine ⟨acc ++ z.terms, (n + z.const) % 4294967296, takenR [43, 45] r, takenS [43, 45] r, a7, m1 + nz, c7, rfl, rfl, rfl, Hid.intro (SSt.of ?_ (sg_taken hWF.out hFE.out) ?_ ⟨a8, c8, hR8.out⟩ ?_)⟩
     ·exact (((((hS.out.sk.step hg2 (fun q hq => by cases hq; exact .inr rfl) hglt).step (World.grownBy_alloc _ _ none) (fun q hq => by cases hq) hglt).step (grown_of_below hb5) (fun q hq => by cases hq) hglt).step hpz.out.2 (fun q hq => by cases hq; exact .inl (by omega)) hglt).step hgrow3 (fun q hq => .inl (k5.out.lt q hq).1) hglt).step hg4 (fun q hq => by cases hq; exact .inr rfl) hglt
     ·rw [List.length_append]; omega
     ·rw [hlen]; exact own_low hown3.out hg4 (by omega)
    case measure =>
     have htl := takenR_len [43, 45] r
     rw [hR8.out.left, hl.out]
     omega
theorem sum_all (d : Nat) : SumOK d := by
 induction d with
 | zero => exact sum_zero
 | succ d ih => exact sum_step d ih
end Go.Proofs.YtlkmegchaeokgaaGreatDoor
namespace Go.Proofs.YtlkmegchaeokgaaGreatDoor
open Go.ChangeShapes Go.WideShapes Go.ChangeAt Go.RowKit
set_option linter.unusedVariables false
set_option maxRecDepth 100000
def ParseOut (w : World) (ts : List Tok) (e : Ending) (w' : World) : Prop := Below w.heap.size w w' /\
 match parseF ts with
 | .ok x => LinOut w.heap.size w' x e
 | .error k => e = .returned (.tuple #[linZ, .int .i64 k])
structure Toks (w : World) (a : Option Addr) (c : Nat) (ts : List Tok) : Prop where
 lies : TokFrom w a ts
 old : ∀ x, a = some x -> x.block < w.heap.size
 cap : ts.length <= c
 most : c <= 9223372036854775807
 few : ts.length <= 1100000
 short : ∀ t ∈ ts, t.text.length <= 1000000
theorem TokFrom.grown {w w' : World} {a : Option Addr} {ts : List Tok} (h : TokFrom w a ts) (hg : w.grownBy w' none) : TokFrom w' a ts := by
 rcases h with h | ⟨g, o, ha, hgt, hl⟩
 ·exact .inl h
 ·exact .inr ⟨g, o, ha, Nat.lt_of_lt_of_le hgt hg.size, fun i t hi => (hl i t hi).grown hg (by simp)⟩
set_option maxHeartbeats 1000000 in
theorem parse_any (a : Option Addr) (c : Nat) (ts : List Tok) (w : World) (hT : Toks w a c ts) :
  Calls Tryz.prog 122 #[.slice a ts.length c] w fun e w' => ParseOut w ts e w' := by
 obtain ⟨n0, hn0⟩ : ∃ n0, n0 = ts.length := ⟨_, rfl⟩
 have hR : ∀ o1 o2, Rd (((w.alloc o1).alloc (.cells #[.slice a n0 c] 196)).alloc o2) (w.heap.size + 1) a c ts := fun o1 o2 => by
  have hg1 : w.grownBy ((w.alloc o1).alloc (.cells #[.slice a n0 c] 196)) none := grown_trans (World.grownBy_alloc _ _ _) (World.grownBy_alloc _ _ _)
  have h1 : Rd ((w.alloc o1).alloc (.cells #[.slice a n0 c] 196)) (w.heap.size + 1) a c ts := by
   refine ⟨?_, hT.lies.grown hg1, fun x hx => by have := hT.old x hx; omega, hT.cap, hT.most, hT.few, hT.short⟩
   have := heap_alloc_new (w.alloc o1) (.cells #[.slice a n0 c] 196)
   rw [show (w.alloc o1).heap.size = w.heap.size + 1 by simp] at this
   rw [<- hn0]
   exact this
  exact h1.below (below_alloc _ _)
 have hC : ∀ o1 o2, Cap (((w.alloc o1).alloc o2).alloc (.cells #[.func (.func 123) #[] #[.pointer (some ⟨w.heap.size + 1 + 1, 0, none⟩), .pointer (some ⟨w.heap.size + 1, 0, none⟩)]] 197)) (w.heap.size + 1 + 1) (w.heap.size + 1) := fun o1 o2 => by
  refine ⟨?_, by omega, by simp⟩
  have := heap_alloc_new ((w.alloc o1).alloc o2) (.cells #[.func (.func 123) #[] #[.pointer (some ⟨w.heap.size + 1 + 1, 0, none⟩), .pointer (some ⟨w.heap.size + 1, 0, none⟩)]] 197)
  rw [show ((w.alloc o1).alloc o2).heap.size = w.heap.size + 1 + 1 by simp] at this
  rw [cell_of_row _ _ _ _ 197 (0, 0) this]
  rfl
 have hrun : Hid (∀ o1, Calls Tryz.prog 123 #[.int .i64 0, .pointer (some ⟨w.heap.size + 1 + 1, 0, none⟩), .pointer (some ⟨w.heap.size + 1, 0, none⟩)] (((w.alloc o1).alloc (.cells #[.slice a n0 c] 196)).alloc (.cells #[.func (.func 123) #[] #[.pointer (some ⟨w.heap.size + 1 + 1, 0, none⟩), .pointer (some ⟨w.heap.size + 1, 0, none⟩)]] 197)) fun e w' => WOut (((w.alloc o1).alloc (.cells #[.slice a n0 c] 196)).alloc (.cells #[.func (.func 123) #[] #[.pointer (some ⟨w.heap.size + 1 + 1, 0, none⟩), .pointer (some ⟨w.heap.size + 1, 0, none⟩)]] 197)) (w.heap.size + 1) (sumD 33 ts) e w') :=
  fun o1 => sum_all 33 0 (((w.alloc o1).alloc (.cells #[.slice a n0 c] 196)).alloc (.cells #[.func (.func 123) #[] #[.pointer (some ⟨w.heap.size + 1 + 1, 0, none⟩), .pointer (some ⟨w.heap.size + 1, 0, none⟩)]] 197)) (w.heap.size + 1) (w.heap.size + 1 + 1) a c ts rfl (hR _ _) (hC _ _)
 have hb3 := Hid.intro (fun o1 o2 o3 => ((below_alloc w o1).alloc (by simp) o2).alloc (by simp; omega) o3)
 have ht3 := Hid.intro (fun o2 o3 => ((two_new w 31 (.slice none 0 0) (.int .u32 0)).alloc o2).alloc o3)
 rw [<- hn0]
 unfold ParseOut parseF
 clear hR hC hT hn0
 cases hS : sumD 33 ts with
 | error k =>
  have hk := (sumD_fine 33).err _ _ hS
  have hkz : (k == 0) = false := by rcases hk with rfl | rfl <;> rfl
  rw [hS] at hrun
  simp only
  clear hS hk
  go_enter Tryz.func122, Tryz.ntmps122
  go_wp2_with (go_at_call 123; (with_reducible refine (hrun.out _).mono ?_); rintro e w1 ⟨hg1, rfl⟩; have ht4 := Hid.intro ((ht3.out _ _).grown hg1 (by simp)); obtain ⟨_, t0, t1, tf0, tf1⟩ := (ht4.out).alloc (.cells #[.slice none 0 0, .int .u32 0] 31))
  all_goals first | omega | skip
  obtain ⟨s1, s2⟩ := two_set (ht4.out.alloc _).heap rfl (.slice none 0 0) (.int .u32 0)
  generalize (((w1.alloc (.cells #[.slice none 0 0, .int .u32 0] 31)).setCell ⟨w.heap.size, 0, none⟩ (.slice none 0 0)).setCell ⟨w.heap.size, 1, none⟩ (.int .u32 0)) = w9 at s1 s2 ⊢
  obtain ⟨_, z0, z1, _, _⟩ := s1
  refine bodyPost_ret (by simp [results, Tryz.results122, go_sem, z0, z1]; try rfl) rfl ?_
  have hs1 := hg1.size
  simp only [World.size_alloc] at hs1
  exact ⟨(((hb3.out _ _ _).grown hg1 (by simp; omega) (fun k hk => by cases hk; omega)).alloc (by omega) _).grown s2 (by simp; omega) (fun k hk => by cases hk; exact Nat.le_refl _), rfl⟩
 | ok p =>
  obtain ⟨x, r⟩ := p
  rw [hS] at hrun
  clear hS
  cases r with
  | nil =>
   simp only
   go_enter Tryz.func122, Tryz.ntmps122
   go_wp2_with (go_at_call 123; (with_reducible refine (hrun.out _).mono ?_); rintro e w1 ⟨hg1, ⟨a1, n1, c1, rfl, hown⟩, a2, c2, hR2⟩; replace hown := Hid.intro hown; have ht4 := Hid.intro ((ht3.out _ _).grown hg1 (by simp)); obtain ⟨_, t0, t1, tf0, tf1⟩ := (ht4.out).alloc (.cells #[.slice a1 n1 c1, .int .u32 x.const] 31); have r0 := (hR2.below (below_alloc w1 (.cells #[.slice a1 n1 c1, .int .u32 x.const] 31))).c0; simp only [List.length_nil] at r0; clear hR2)
   all_goals first | omega | skip
   obtain ⟨s1, s2⟩ := two_set (ht4.out.alloc _).heap rfl (.slice a1 n1 c1) (.int .u32 x.const)
   generalize (((w1.alloc (.cells #[.slice a1 n1 c1, .int .u32 x.const] 31)).setCell ⟨w.heap.size, 0, none⟩ (.slice a1 n1 c1)).setCell ⟨w.heap.size, 1, none⟩ (.int .u32 x.const)) = w9 at s1 s2 ⊢
   obtain ⟨_, z0, z1, _, _⟩ := s1
   refine bodyPost_ret (by simp [results, Tryz.results122, go_sem, z0, z1]; try rfl) rfl ?_
   have hs1 := hg1.size
   simp only [World.size_alloc] at hs1
   have hown2 := hown.out
   simp only [World.size_alloc] at hown2
   exact ⟨(((hb3.out _ _ _).grown hg1 (by simp; omega) (fun k hk => by cases hk; omega)).alloc (by omega) _).grown s2 (by simp; omega) (fun k hk => by cases hk; exact Nat.le_refl _), a1, n1, c1, rfl, own_weaken (own_low (hown2.alloc _) s2 (by omega)) (by omega)⟩
  | cons t r =>
   simp only
   go_enter Tryz.func122, Tryz.ntmps122
   go_wp2_with (go_at_call 123; (with_reducible refine (hrun.out _).mono ?_); rintro e w1 ⟨hg1, ⟨a1, n1, c1, rfl, hown⟩, a2, c2, hR2⟩; clear hown; have ht4 := Hid.intro ((ht3.out _ _).grown hg1 (by simp)); obtain ⟨_, t0, t1, tf0, tf1⟩ := (ht4.out).alloc (.cells #[.slice a1 n1 c1, .int .u32 x.const] 31); have r0 := (hR2.below (below_alloc w1 (.cells #[.slice a1 n1 c1, .int .u32 x.const] 31))).c0; have r1 := hR2.few; simp only [List.length_cons] at r0 r1; clear hR2)
   all_goals first | omega | skip
   obtain ⟨s1, s2⟩ := two_set (ht4.out.alloc _).heap rfl (.slice none 0 0) (.int .u32 0)
   generalize (((w1.alloc (.cells #[.slice a1 n1 c1, .int .u32 x.const] 31)).setCell ⟨w.heap.size, 0, none⟩ (.slice none 0 0)).setCell ⟨w.heap.size, 1, none⟩ (.int .u32 0)) = w9 at s1 s2 ⊢
   obtain ⟨_, z0, z1, _, _⟩ := s1
   refine bodyPost_ret (by simp [results, Tryz.results122, go_sem, z0, z1]; try rfl) rfl ?_
   have hs1 := hg1.size
   simp only [World.size_alloc] at hs1
   exact ⟨(((hb3.out _ _ _).grown hg1 (by simp; omega) (fun k hk => by cases hk; omega)).alloc (by omega) _).grown s2 (by simp; omega) (fun k hk => by cases hk; exact Nat.le_refl _), rfl⟩
end Go.Proofs.YtlkmegchaeokgaaGreatDoor

/- item's readOne. -/
import Derived.Test.YtogkchgjpflmjaaGreatDoorSum
import Derived.Laws.EntriesVeiled
import Derived.Test.YtogkchgjpflmjaaGreatDoorIt1
import Derived.Test.YtogkchgjpflmjaaGreatDoorTRoom
/- expr.Parse. -/
namespace Go.Proofs.YtogkchgjpflmjaaGreatDoor
open Go.ChangeShapes Go.WideShapes Go.ChangeAt Go.RowKit
set_option linter.unusedVariables false
set_option maxRecDepth 100000
def ParseOut (w : World) (ts : List Tok) (e : Ending) (w' : World) : Prop := Below w.heap.size w w' ∧
  match parseF ts with
  | .ok x => LinOut w.heap.size w' x e
  | .error k => e = .returned (.tuple #[linZ, .int .i64 k])
structure Toks (w : World) (a : Option Addr) (c : Nat) (ts : List Tok) : Prop where
  lies : TokFrom w a ts
  old : ∀ x, a = some x → x.block < w.heap.size
  cap : ts.length ≤ c
  most : c ≤ 9223372036854775807
  few : ts.length ≤ 1100000
  short : ∀ t ∈ ts, t.text.length ≤ 1000000
theorem TokFrom.grown {w w' : World} {a : Option Addr} {ts : List Tok} (h : TokFrom w a ts) (hg : w.grownBy w' none) : TokFrom w' a ts := by
  rcases h with h | ⟨g, o, ha, hgt, hl⟩
  · exact .inl h
  · exact .inr ⟨g, o, ha, Nat.lt_of_lt_of_le hgt hg.size, fun i t hi => (hl i t hi).grown hg (by simp)⟩
set_option maxHeartbeats 1000000 in
theorem parse_any (a : Option Addr) (c : Nat) (ts : List Tok) (w : World) (hT : Toks w a c ts) :
    Calls Tryz.prog 231 #[.slice a ts.length c] w fun e w' => ParseOut w ts e w' := by
  obtain ⟨n0, hn0⟩ : ∃ n0, n0 = ts.length := ⟨_, rfl⟩
  have hR : ∀ o1 o2, Rd (((w.alloc o1).alloc (.cells #[.slice a n0 c] 331)).alloc o2) (w.heap.size + 1) a c ts := fun o1 o2 => by
    have hg1 : w.grownBy ((w.alloc o1).alloc (.cells #[.slice a n0 c] 331)) none := grown_trans (World.grownBy_alloc _ _ _) (World.grownBy_alloc _ _ _)
    have h1 : Rd ((w.alloc o1).alloc (.cells #[.slice a n0 c] 331)) (w.heap.size + 1) a c ts := by
      refine ⟨?_, hT.lies.grown hg1, fun x hx => by have := hT.old x hx; omega, hT.cap, hT.most, hT.few, hT.short⟩
      have := heap_alloc_new (w.alloc o1) (.cells #[.slice a n0 c] 331)
      rw [show (w.alloc o1).heap.size = w.heap.size + 1 by simp] at this
      rw [← hn0]
      exact this
    exact h1.below (below_alloc _ _)
  have hC : ∀ o1 o2, Cap (((w.alloc o1).alloc o2).alloc (.cells #[.func (.func 232) #[] #[.pointer (some ⟨w.heap.size + 1 + 1, 0, none⟩), .pointer (some ⟨w.heap.size + 1, 0, none⟩)]] 332)) (w.heap.size + 1 + 1) (w.heap.size + 1) := fun o1 o2 => by
    refine ⟨?_, by omega, by simp⟩
    have := heap_alloc_new ((w.alloc o1).alloc o2) (.cells #[.func (.func 232) #[] #[.pointer (some ⟨w.heap.size + 1 + 1, 0, none⟩), .pointer (some ⟨w.heap.size + 1, 0, none⟩)]] 332)
    rw [show ((w.alloc o1).alloc o2).heap.size = w.heap.size + 1 + 1 by simp] at this
    rw [cell_of_row _ _ _ _ 332 (0, 0) this]
    rfl
  have hrun : Hid (∀ o1, Calls Tryz.prog 232 #[.int .i64 0, .pointer (some ⟨w.heap.size + 1 + 1, 0, none⟩), .pointer (some ⟨w.heap.size + 1, 0, none⟩)] (((w.alloc o1).alloc (.cells #[.slice a n0 c] 331)).alloc (.cells #[.func (.func 232) #[] #[.pointer (some ⟨w.heap.size + 1 + 1, 0, none⟩), .pointer (some ⟨w.heap.size + 1, 0, none⟩)]] 332)) fun e w' => WOut (((w.alloc o1).alloc (.cells #[.slice a n0 c] 331)).alloc (.cells #[.func (.func 232) #[] #[.pointer (some ⟨w.heap.size + 1 + 1, 0, none⟩), .pointer (some ⟨w.heap.size + 1, 0, none⟩)]] 332)) (w.heap.size + 1) (sumD 33 ts) e w') :=
    fun o1 => sum_all 33 0 (((w.alloc o1).alloc (.cells #[.slice a n0 c] 331)).alloc (.cells #[.func (.func 232) #[] #[.pointer (some ⟨w.heap.size + 1 + 1, 0, none⟩), .pointer (some ⟨w.heap.size + 1, 0, none⟩)]] 332)) (w.heap.size + 1) (w.heap.size + 1 + 1) a c ts rfl (hR _ _) (hC _ _)
  have hb3 := Hid.intro (fun o1 o2 o3 => ((below_alloc w o1).alloc (by simp) o2).alloc (by simp; omega) o3)
  have ht3 := Hid.intro (fun o2 o3 => ((two_new w 89 (.slice none 0 0) (.int .u32 0)).alloc o2).alloc o3)
  rw [← hn0]
  unfold ParseOut parseF
  clear hR hC hT hn0
  cases hS : sumD 33 ts with
  | error k =>
    have hk := (sumD_fine 33).err _ _ hS
    have hkz : (k == 0) = false := by rcases hk with rfl | rfl <;> rfl
    rw [hS] at hrun
    simp only
    clear hS hk
    go_enter Tryz.func231, Tryz.ntmps231
    go_wp2_with (go_at_call 232; (with_reducible refine (hrun.out _).mono ?_); rintro e w1 ⟨hg1, rfl⟩; have ht4 := Hid.intro ((ht3.out _ _).grown hg1 (by simp)); obtain ⟨_, t0, t1, tf0, tf1⟩ := (ht4.out).alloc (.cells #[.slice none 0 0, .int .u32 0] 89))
    all_goals first | omega | skip
    obtain ⟨s1, s2⟩ := two_set (ht4.out.alloc _).heap rfl (.slice none 0 0) (.int .u32 0)
    generalize (((w1.alloc (.cells #[.slice none 0 0, .int .u32 0] 89)).setCell ⟨w.heap.size, 0, none⟩ (.slice none 0 0)).setCell ⟨w.heap.size, 1, none⟩ (.int .u32 0)) = w9 at s1 s2 ⊢
    obtain ⟨_, z0, z1, _, _⟩ := s1
    refine bodyPost_ret (by simp [results, Tryz.results231, go_sem, z0, z1]; try rfl) rfl ?_
    have hs1 := hg1.size
    simp only [World.size_alloc] at hs1
    exact ⟨(((hb3.out _ _ _).grown hg1 (by simp; omega) (fun k hk => by cases hk; omega)).alloc (by omega) _).grown s2 (by simp; omega) (fun k hk => by cases hk; exact Nat.le_refl _), rfl⟩
  | ok p =>
    obtain ⟨x, r⟩ := p
    rw [hS] at hrun
    clear hS
    cases r with
    | nil =>
      simp only
      go_enter Tryz.func231, Tryz.ntmps231
      go_wp2_with (go_at_call 232; (with_reducible refine (hrun.out _).mono ?_); rintro e w1 ⟨hg1, ⟨a1, n1, c1, rfl, hown⟩, a2, c2, hR2⟩; replace hown := Hid.intro hown; have ht4 := Hid.intro ((ht3.out _ _).grown hg1 (by simp)); obtain ⟨_, t0, t1, tf0, tf1⟩ := (ht4.out).alloc (.cells #[.slice a1 n1 c1, .int .u32 x.const] 89); have r0 := (hR2.below (below_alloc w1 (.cells #[.slice a1 n1 c1, .int .u32 x.const] 89))).c0; simp only [List.length_nil] at r0; clear hR2)
      all_goals first | omega | skip
      obtain ⟨s1, s2⟩ := two_set (ht4.out.alloc _).heap rfl (.slice a1 n1 c1) (.int .u32 x.const)
      generalize (((w1.alloc (.cells #[.slice a1 n1 c1, .int .u32 x.const] 89)).setCell ⟨w.heap.size, 0, none⟩ (.slice a1 n1 c1)).setCell ⟨w.heap.size, 1, none⟩ (.int .u32 x.const)) = w9 at s1 s2 ⊢
      obtain ⟨_, z0, z1, _, _⟩ := s1
      refine bodyPost_ret (by simp [results, Tryz.results231, go_sem, z0, z1]; try rfl) rfl ?_
      have hs1 := hg1.size
      simp only [World.size_alloc] at hs1
      have hown2 := hown.out
      simp only [World.size_alloc] at hown2
      exact ⟨(((hb3.out _ _ _).grown hg1 (by simp; omega) (fun k hk => by cases hk; omega)).alloc (by omega) _).grown s2 (by simp; omega) (fun k hk => by cases hk; exact Nat.le_refl _), a1, n1, c1, rfl, own_weaken (own_low (hown2.alloc _) s2 (by omega)) (by omega)⟩
    | cons t r =>
      simp only
      go_enter Tryz.func231, Tryz.ntmps231
      go_wp2_with (go_at_call 232; (with_reducible refine (hrun.out _).mono ?_); rintro e w1 ⟨hg1, ⟨a1, n1, c1, rfl, hown⟩, a2, c2, hR2⟩; clear hown; have ht4 := Hid.intro ((ht3.out _ _).grown hg1 (by simp)); obtain ⟨_, t0, t1, tf0, tf1⟩ := (ht4.out).alloc (.cells #[.slice a1 n1 c1, .int .u32 x.const] 89); have r0 := (hR2.below (below_alloc w1 (.cells #[.slice a1 n1 c1, .int .u32 x.const] 89))).c0; have r1 := hR2.few; simp only [List.length_cons] at r0 r1; clear hR2)
      all_goals first | omega | skip
      obtain ⟨s1, s2⟩ := two_set (ht4.out.alloc _).heap rfl (.slice none 0 0) (.int .u32 0)
      generalize (((w1.alloc (.cells #[.slice a1 n1 c1, .int .u32 x.const] 89)).setCell ⟨w.heap.size, 0, none⟩ (.slice none 0 0)).setCell ⟨w.heap.size, 1, none⟩ (.int .u32 0)) = w9 at s1 s2 ⊢
      obtain ⟨_, z0, z1, _, _⟩ := s1
      refine bodyPost_ret (by simp [results, Tryz.results231, go_sem, z0, z1]; try rfl) rfl ?_
      have hs1 := hg1.size
      simp only [World.size_alloc] at hs1
      exact ⟨(((hb3.out _ _ _).grown hg1 (by simp; omega) (fun k hk => by cases hk; omega)).alloc (by omega) _).grown s2 (by simp; omega) (fun k hk => by cases hk; exact Nat.le_refl _), rfl⟩
end Go.Proofs.YtogkchgjpflmjaaGreatDoor
/- item's constant, numberOf; isa's part of a reader. -/
namespace Go.Proofs.YtogkchgjpflmjaaGreatDoor
open Go.ChangeShapes Go.WideShapes Go.ChangeAt Go.RowKit
set_option linter.unusedVariables false
set_option maxRecDepth 100000
theorem parseF_good {ts : List Tok} {x : Lin} (h : parseF ts = .ok x) : GoodL x ∧ x.terms.length ≤ ts.length := by
  unfold parseF at h
  cases hS : sumD 33 ts with
  | error e => rw [hS] at h; cases h
  | ok p =>
    obtain ⟨y, r⟩ := p
    rw [hS] at h
    cases r with
    | nil => cases h; exact ⟨(sumD_fine 33).good _ _ _ hS, by have := (sumD_fine 33).len _ _ _ hS; omega⟩
    | cons t r => cases h
theorem parseF_err {ts : List Tok} {k : Int} (h : parseF ts = .error k) : k = 20 ∨ k = 21 := by
  unfold parseF at h
  cases hS : sumD 33 ts with
  | error e => rw [hS] at h; cases h; exact (sumD_fine 33).err _ _ hS
  | ok p =>
    obtain ⟨y, r⟩ := p
    rw [hS] at h
    cases r with
    | nil => cases h
    | cons t r => cases h; exact .inl rfl
theorem constF_err {arg : List Tok} {k : Int} (h : constF arg = .error k) : k = 20 ∨ k = 21 := by
  unfold constF at h
  cases hp : parseF arg with
  | error e => rw [hp] at h; cases h; exact parseF_err hp
  | ok x =>
    rw [hp] at h
    simp only at h
    split at h
    · cases h
    · cases h; exact .inr rfl
theorem constF_range {arg : List Tok} {n : Int} (h : constF arg = .ok n) : -2147483648 ≤ n ∧ n ≤ 2147483647 := by
  unfold constF at h
  cases hp : parseF arg with
  | error e => rw [hp] at h; cases h
  | ok x =>
    rw [hp] at h
    simp only at h
    have := (parseF_good hp).1
    have h1 := this.lo
    have h2 := this.hi
    split at h
    · cases h
      unfold i32F
      split <;> omega
    · cases h
def constV (r : Except Int Int) : Value := match r with | .ok n => .tuple #[.int .i32 n, .int .i64 0] | .error k => .tuple #[.int .i32 0, .int .i64 k]
theorem i32_wrap (n : Int) (h0 : 0 ≤ n) (h1 : n < 4294967296) : IntKind.i32.wrap n = i32F n := by
  rw [IntKind.wrap_i32]; unfold i32F; split <;> omega
set_option maxHeartbeats 1000000 in
theorem constant_any (a : Option Addr) (c : Nat) (arg : List Tok) (w : World) (hT : Toks w a c arg) :
    Calls Tryz.prog 230 #[.slice a arg.length c] w fun e w' => e = .returned (constV (constF arg)) ∧ Below w.heap.size w w' := by
  have hp := parse_any a c arg w hT
  have hF : constF arg = match parseF arg with | .error e => .error e | .ok x => if x.terms.length = 0 then .ok (i32F x.const) else .error 21 := rfl
  rw [hF]
  clear hF
  unfold ParseOut at hp
  have hg := @parseF_good arg
  have he := @parseF_err arg
  generalize parseF arg = R at hp hg he ⊢
  have hfew := hT.few
  clear hT
  generalize arg.length = n0 at hp hg hfew ⊢
  cases R with
  | error k =>
    have hk := he rfl
    have hk0 : (k == 0) = false := by rcases hk with rfl | rfl <;> rfl
    clear hg he hk
    have hpH := Hid.intro hp
    clear hp
    go_enter Tryz.func230, Tryz.ntmps230
    go_wp2_with (go_at_call 231; (with_reducible refine (hpH.out).mono ?_); rintro e w1 ⟨hb1, rfl⟩)
    all_goals first | omega | skip
    go_ret2
    exact ⟨rfl, hb1.alloc (hb1.size) _⟩
  | ok x =>
    have hx := hg rfl
    have h1 := hx.1.lo
    have h2 := hx.1.hi
    have h3 := hx.2
    have hpH := Hid.intro hp
    clear hp hg he
    have hw32 := i32_wrap x.const h1 h2
    by_cases h0 : x.terms.length = 0
    · simp only
      rw [if_pos h0]
      go_enter Tryz.func230, Tryz.ntmps230
      go_wp2_with (go_at_call 231; (with_reducible refine (hpH.out).mono ?_); rintro e w1 ⟨hb1, a1, n1, c1, rfl, hown⟩; have hn1 : n1 = 0 := (own_len hown).trans h0; clear hown; subst hn1)
      all_goals first | omega | skip
      go_ret2
      exact ⟨by rw [← hw32]; rfl, hb1.alloc (hb1.size) _⟩
    · simp only
      rw [if_neg h0]
      go_enter Tryz.func230, Tryz.ntmps230
      go_wp2_with (go_at_call 231; (with_reducible refine (hpH.out).mono ?_); rintro e w1 ⟨hb1, a1, n1, c1, rfl, hown⟩; have hn1 := own_len hown; clear hown; have hn2 : 0 < n1 := (by omega); clear hn1)
      all_goals first | omega | skip
      go_ret2
      exact ⟨rfl, hb1.alloc (hb1.size) _⟩
def numV (r : Except Int Int) : Value := match r with | .ok n => .tuple #[.int .i64 n, .int .i64 0] | .error k => .tuple #[.int .i64 0, .int .i64 k]
theorem numF_err {kind : Int} {arg : List Tok} {k : Int} (h : numF kind arg = .error k) : k = 20 ∨ k = 21 := by
  unfold numF at h
  cases hc : constF arg with
  | error e => rw [hc] at h; cases h; exact constF_err hc
  | ok n =>
    rw [hc] at h
    simp only at h
    split at h
    · cases h
    · cases h; exact .inr rfl
theorem numberOf_any (kind : Int) (a : Option Addr) (c : Nat) (arg : List Tok) (w : World) (hT : Toks w a c arg) :
    Calls Tryz.prog 229 #[.int .i64 kind, .slice a arg.length c] w fun e w' => e = .returned (numV (numF kind arg)) ∧ Below w.heap.size w w' := by
  have hp := constant_any a c arg w hT
  have hF : numF kind arg = match constF arg with | .error e => .error e | .ok n => if numOfB kind n = true then .ok n else .error 21 := rfl
  rw [hF]
  clear hF
  have hg := @constF_range arg
  have he := @constF_err arg
  generalize constF arg = R at hp hg he ⊢
  clear hT
  generalize arg.length = n0 at hp ⊢
  cases R with
  | error k =>
    have hk := he rfl
    have hk0 : (k == 0) = false := by rcases hk with rfl | rfl <;> rfl
    clear hg he hk
    simp only [constV] at hp
    replace hp := Hid.intro hp
    go_enter Tryz.func229, Tryz.ntmps229
    go_wp2_with (go_at_call 230; (with_reducible refine (hp.out).mono ?_); rintro e w1 ⟨rfl, hb1⟩)
    all_goals first | omega | skip
    go_ret2
    exact ⟨rfl, hb1⟩
  | ok n =>
    have hn := hg rfl
    have hi := Hid.intro (fun w1 => isNumberOf_any kind n w1 (by omega))
    have hw64 : IntKind.i64.wrap n = n := by rw [IntKind.wrap_i64]; omega
    clear hg he
    simp only [constV] at hp ⊢
    replace hp := Hid.intro hp
    generalize numOfB kind n = b at hi ⊢
    cases b
    · rw [if_neg (by simp)]
      go_enter Tryz.func229, Tryz.ntmps229
      go_wp2_with (first | (go_at_call 230; (with_reducible refine (hp.out).mono ?_); rintro e w1 ⟨rfl, hb1⟩) | (go_at_call 113; (with_reducible refine (hi.out _).mono ?_); rintro e w2 ⟨rfl, rfl⟩))
      all_goals first | omega | skip
      go_ret2
      exact ⟨rfl, hb1⟩
    · rw [if_pos rfl]
      go_enter Tryz.func229, Tryz.ntmps229
      go_wp2_with (first | (go_at_call 230; (with_reducible refine (hp.out).mono ?_); rintro e w1 ⟨rfl, hb1⟩) | (go_at_call 113; (with_reducible refine (hi.out _).mono ?_); rintro e w2 ⟨rfl, rfl⟩))
      all_goals first | omega | skip
      go_ret2
      exact ⟨by first | rfl | (rw [show numV (.ok n) = .tuple #[.int .i64 n, .int .i64 0] from rfl]; simp [hw64]), hb1⟩
end Go.Proofs.YtogkchgjpflmjaaGreatDoor
/- item's reader of an operation's arguments. -/
namespace Go.Proofs.YtogkchgjpflmjaaGreatDoor
open Go.ChangeShapes Go.WideShapes Go.ChangeAt Go.RowKit
set_option linter.unusedVariables false
set_option maxRecDepth 100000
structure OpB (w : World) (b : Nat) (wants : List UInt8) (x : Itm) (va : Option Addr) (n vc : Nat) : Prop where
  heap : w.heap[b]? = some (.cells #[.string (str wants), .int .i64 x.kind, .string (str x.name), .int .i64 x.op, .int .i64 x.a, .int .i64 x.b, .int .i32 x.m, .int .i64 x.form, .slice va n vc, .int .u32 x.e.const, .int .i64 x.n] 244 (0, 0))
  own : w.ownsRow (b + 1) 123 2 (.slice va n vc) x.e.terms.length (rowT x.e.terms)
theorem OpB.lt {w : World} {b : Nat} {wants : List UInt8} {x : Itm} {va : Option Addr} {n vc : Nat} (h : OpB w b wants x va n vc) : b < w.heap.size := (Array.getElem?_eq_some_iff.1 h.heap).1
theorem OpB.cell {w : World} {b : Nat} {wants : List UInt8} {x : Itm} {va : Option Addr} {n vc : Nat} (h : OpB w b wants x va n vc) (j : Nat) : w.cell? ⟨b, j, none⟩ = (#[.string (str wants), .int .i64 x.kind, .string (str x.name), .int .i64 x.op, .int .i64 x.a, .int .i64 x.b, .int .i32 x.m, .int .i64 x.form, .slice va n vc, .int .u32 x.e.const, .int .i64 x.n] : Array Value)[j]? := cell_blockT h.heap j
theorem OpB.frozen {w : World} {b : Nat} {wants : List UInt8} {x : Itm} {va : Option Addr} {n vc : Nat} (h : OpB w b wants x va n vc) (j : Nat) : w.frozen? ⟨b, j, none⟩ = false := frozen_of_row w b j _ 244 h.heap
theorem OpB.below {w w' : World} {b : Nat} {wants : List UInt8} {x : Itm} {va : Option Addr} {n vc : Nat} (h : OpB w b wants x va n vc) (hb : Below w.heap.size w w') : OpB w' b wants x va n vc :=
  ⟨by rw [hb.block b h.lt]; exact h.heap, own_low h.own (grown_wide (grown_of_below hb) (some b)) (by omega)⟩
def setReg (place : Nat) (n : Int) (x : Itm) : Itm := if place = 0 then { x with a := n } else if place = 1 then { x with b := n } else { x with m := n }
theorem opb_set {w : World} {b : Nat} {wants : List UInt8} {x : Itm} {va : Option Addr} {n vc : Nat} (h : OpB w b wants x va n vc) (j : Nat) (v : Value) (x' : Itm) (he : x'.e = x.e)
    (hj : (#[.string (str wants), .int .i64 x.kind, .string (str x.name), .int .i64 x.op, .int .i64 x.a, .int .i64 x.b, .int .i32 x.m, .int .i64 x.form, .slice va n vc, .int .u32 x.e.const, .int .i64 x.n] : Array Value).setIfInBounds j v = #[.string (str wants), .int .i64 x'.kind, .string (str x'.name), .int .i64 x'.op, .int .i64 x'.a, .int .i64 x'.b, .int .i32 x'.m, .int .i64 x'.form, .slice va n vc, .int .u32 x'.e.const, .int .i64 x'.n]) :
    OpB (w.setCell ⟨b, j, none⟩ v) b wants x' va n vc ∧ w.grownBy (w.setCell ⟨b, j, none⟩ v) (some b) := by
  obtain ⟨s1, s2⟩ := row_set h.heap j v
  rw [hj] at s1
  exact ⟨⟨s1, by rw [he]; exact own_low h.own s2 (by omega)⟩, s2⟩
theorem setRegister_any (b : Nat) (wants : List UInt8) (x : Itm) (va : Option Addr) (n vc : Nat) (place : Nat) (r : Int) (hr : 0 ≤ r ∧ r ≤ 7) (hp : place ≤ 3) (w : World) (h : OpB w b wants x va n vc) :
    Calls Tryz.prog 270 #[.pointer (some ⟨b, 0, none⟩), .int .i64 (place : Int), .int .i64 r] w fun e w' => e = .returned (.tuple #[]) ∧ w.grownBy w' (some b) ∧ OpB w' b wants (setReg place r x) va n vc := by
  have c4 := (h.cell 4).trans rfl
  have c5 := (h.cell 5).trans rfl
  have c6 := (h.cell 6).trans rfl
  have f4 := h.frozen 4
  have f5 := h.frozen 5
  have f6 := h.frozen 6
  have hH := Hid.intro h
  clear h
  by_cases h0 : place = 0
  · subst h0
    go_enter Tryz.func270, Tryz.ntmps270
    go_wp2
    all_goals first | omega | skip
    go_end0
    obtain ⟨s1, s2⟩ := opb_set hH.out 4 (.int .i64 r) (setReg 0 r x) rfl rfl
    exact ⟨rfl, s2, s1⟩
  by_cases h1 : place = 1
  · subst h1
    go_enter Tryz.func270, Tryz.ntmps270
    go_wp2
    all_goals first | omega | skip
    go_end0
    obtain ⟨s1, s2⟩ := opb_set hH.out 5 (.int .i64 r) (setReg 1 r x) rfl rfl
    exact ⟨rfl, s2, s1⟩
  · have g0 : ¬ ((place : Int) = 0) := by omega
    have g1 : ¬ ((place : Int) = 1) := by omega
    have hw : IntKind.i32.wrap r = r := by rw [IntKind.wrap_i32]; omega
    have hs : setReg place r x = { x with m := r } := by simp [setReg, h0, h1]
    rw [hs]
    go_enter Tryz.func270, Tryz.ntmps270
    go_wp2
    all_goals first | omega | skip
    go_end0
    obtain ⟨s1, s2⟩ := opb_set hH.out 6 (.int .i32 r) { x with m := r } rfl rfl
    first | exact ⟨rfl, s2, s1⟩ | (rw [hw]; exact ⟨rfl, s2, s1⟩)
end Go.Proofs.YtogkchgjpflmjaaGreatDoor
namespace Go.Proofs.YtogkchgjpflmjaaGreatDoor
open Go.ChangeShapes Go.WideShapes Go.ChangeAt Go.RowKit
set_option linter.unusedVariables false
set_option maxRecDepth 100000
def exprF (arg : List Tok) (x : Itm) : Except Int Itm :=
  match parseF arg with
  | .error k => .error k
  | .ok y => .ok { x with e := y }
def stepF (wc : Int) (place : Nat) (arg : List Tok) (x : Itm) : Except Int Itm :=
  if wc = 114 ∨ wc = 122 then
    match regF arg (decide (wc = 122)) with
    | none => .error 20
    | some n => .ok (setReg place n x)
  else if wc = 110 then
    match constF arg with
    | .error k => .error k
    | .ok n => if checkN x.op x.a x.b n x.form = 0 then .ok { x with m := n } else .error 21
  else if wc = 61 then
    match arg with
    | [] => .error 20
    | t :: r => if isS t 61 = true then exprF r x else .error 20
  else exprF arg x
def whyOf {α : Type} (R : Except Int α) : Int := match R with | .ok _ => 0 | .error k => k
def OneOut (w : World) (b : Nat) (wants : List UInt8) (R : Except Int Itm) (e : Ending) (w' : World) : Prop :=
  e = .returned (.int .i64 (whyOf R)) ∧ Below b w w' ∧ match R with | .ok x' => ∃ va n vc, OpB w' b wants x' va n vc | .error _ => True
theorem regF_range {arg : List Tok} {z : Bool} {n : Int} (h : regF arg z = some n) : 0 ≤ n ∧ n ≤ 7 ∧ (z = true → n ≤ 3) := by
  unfold regF at h
  split at h
  · rename_i hc
    cases h
    obtain ⟨h1, h2⟩ := hc
    simp only [Bool.or_eq_true] at h1
    rcases h1 with h1 | h1
    · obtain ⟨e1, e2⟩ := reg_r _ h1
      rw [e1]
      rw [e2] at h2
      simp [isR] at h1
      refine ⟨by omega, by omega, fun hz => by rw [hz] at h2; cases h2⟩
    · obtain ⟨e1, e2⟩ := reg_z _ h1
      rw [e1]
      simp [isZ] at h1
      refine ⟨by omega, by omega, fun hz => by omega⟩
  · cases h
set_option maxHeartbeats 1000000 in
theorem readOne_reg (b : Nat) (wants : List UInt8) (x : Itm) (va : Option Addr) (n vc : Nat) (place : Nat) (wc : Int) (hwc : atI (bs (str wants)) place = wc) (hpl : place < wants.length) (hp3 : place ≤ 3) (hws : wants.length ≤ 10) (a : Option Addr) (c : Nat) (arg : List Tok) (w : World) (hT : Toks w a c arg) (h : OpB w b wants x va n vc) (hz : wc = 114 ∨ wc = 122) :
    Calls Tryz.prog 271 #[.pointer (some ⟨b, 0, none⟩), .int .i64 (place : Int), .slice a arg.length c] w fun e w' => OneOut w b wants (stepF wc place arg x) e w' := by
  have c0 := (h.cell 0).trans rfl
  have hlen : (str wants).size = wants.length := rfl
  have hget := atI_get (str wants) place (by omega)
  rw [hwc] at hget
  have hreg := Hid.intro (fun (z : Bool) => itRegister_any a c arg z w hT.lies hT.short)
  have hrg := @regF_range arg (decide (wc = 122))
  have hF : stepF wc place arg x = match regF arg (decide (wc = 122)) with | none => .error 20 | some n => .ok (setReg place n x) := by unfold stepF; rw [if_pos hz]
  rw [hF]
  have hH := Hid.intro h
  clear hT h hF hwc
  generalize arg.length = n0 at hreg ⊢
  have hlt := hH.out.lt
  rcases hz with rfl | rfl
  · have hreg1 := hreg.out false
    have hrg1 : ∀ n, regF arg false = some n → 0 ≤ n ∧ n ≤ 7 := fun n hn => ⟨(hrg hn).1, (hrg hn).2.1⟩
    show Calls Tryz.prog 271 _ w fun e w' => OneOut w b wants (match regF arg false with | none => .error 20 | some n => .ok (setReg place n x)) e w'
    clear hreg hrg
    generalize regF arg false = R at hreg1 hrg1 ⊢
    cases R with
    | none =>
      simp only [regV] at hreg1
      replace hreg1 := Hid.intro hreg1
      go_enter Tryz.func271, Tryz.ntmps271
      go_wp2_with (go_at_call 272; (with_reducible refine (hreg1.out).mono ?_); rintro e w1 ⟨rfl, rfl⟩)
      all_goals first | omega | skip
      go_ret
      exact ⟨rfl, Below.refl _ _, trivial⟩
    | some r =>
      have hr := hrg1 r rfl
      simp only [regV] at hreg1
      replace hreg1 := Hid.intro hreg1
      have hset := Hid.intro (setRegister_any b wants x va n vc place r hr hp3 w hH.out)
      go_enter Tryz.func271, Tryz.ntmps271
      go_wp2_with (first | (go_at_call 272; (with_reducible refine (hreg1.out).mono ?_); rintro e w1 ⟨rfl, rfl⟩) | (go_at_call 270; (with_reducible refine (hset.out).mono ?_); rintro e w2 ⟨rfl, hg2, hO2⟩))
      all_goals first | omega | skip
      go_ret
      exact ⟨rfl, below_of_grown hg2 (Nat.le_refl _) (by omega), _, _, _, hO2⟩
  · have hreg1 := hreg.out true
    have hrg1 : ∀ n, regF arg true = some n → 0 ≤ n ∧ n ≤ 7 := fun n hn => ⟨(hrg hn).1, (hrg hn).2.1⟩
    show Calls Tryz.prog 271 _ w fun e w' => OneOut w b wants (match regF arg true with | none => .error 20 | some n => .ok (setReg place n x)) e w'
    clear hreg hrg
    generalize regF arg true = R at hreg1 hrg1 ⊢
    cases R with
    | none =>
      simp only [regV] at hreg1
      replace hreg1 := Hid.intro hreg1
      go_enter Tryz.func271, Tryz.ntmps271
      go_wp2_with (go_at_call 272; (with_reducible refine (hreg1.out).mono ?_); rintro e w1 ⟨rfl, rfl⟩)
      all_goals first | omega | skip
      go_ret
      exact ⟨rfl, Below.refl _ _, trivial⟩
    | some r =>
      have hr := hrg1 r rfl
      simp only [regV] at hreg1
      replace hreg1 := Hid.intro hreg1
      have hset := Hid.intro (setRegister_any b wants x va n vc place r hr hp3 w hH.out)
      go_enter Tryz.func271, Tryz.ntmps271
      go_wp2_with (first | (go_at_call 272; (with_reducible refine (hreg1.out).mono ?_); rintro e w1 ⟨rfl, rfl⟩) | (go_at_call 270; (with_reducible refine (hset.out).mono ?_); rintro e w2 ⟨rfl, hg2, hO2⟩))
      all_goals first | omega | skip
      go_ret
      exact ⟨rfl, below_of_grown hg2 (Nat.le_refl _) (by omega), _, _, _, hO2⟩
end Go.Proofs.YtogkchgjpflmjaaGreatDoor

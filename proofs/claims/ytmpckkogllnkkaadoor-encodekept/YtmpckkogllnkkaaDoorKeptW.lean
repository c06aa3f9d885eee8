/- The law EncodeKept, walked. -/
import Derived.Test.YtmpckkogllnkkaaDoorBBooks
import Derived.Test.YtmpckkogllnkkaaDoorIRoom
namespace Go.Proofs.YtmpckkogllnkkaaDoor
open Go.ChangeShapes Go.WideShapes Go.ChangeAt Go.RowKit
set_option linter.unusedVariables false
set_option maxRecDepth 100000

theorem Books.bel {w0 w : World} {B m F : Nat} (h : Books w0 w B m F) : Below w0.heap.size w0 w := by
  have := h.2.1
  rwa [h.1] at this

theorem SlB.ownT {w : World} {lo : Nat} {a : Option Addr} {m c : Nat} {zs : List Int} (h : SlB w lo a m c zs) : OwnT w lo a c zs := ⟨h.byt, h.got⟩

/-- Keep, of bytes whose row lies between two fences -/
theorem keep_fence {w0 w : World} {B m F F' cap n : Nat} {a0 : Option Addr} {L : List Int} (h : Books w0 w B m F) (hm : m ≤ 99) (hn : n = L.length) (hr : OwnT w F a0 cap L) (hL : L.length ≤ 1000) (hF : F ≤ F') (hFw : F' ≤ w.heap.size) (hlt : ∀ g, a0 = some ⟨g, 0, none⟩ → g < F') :
    Calls Tryd.prog 17 #[.pointer (some ⟨B, 0, none⟩), .slice a0 n cap] w fun e w' => e = .returned (.tuple #[]) ∧ Books w0 w' B (m + 1) F' ∧ K5 w w' ∧ w.heap.size ≤ w'.heap.size := by
  subst hn
  obtain ⟨h1, h2, h3, h4, es, a1, a2, c1, c2, held, e1, e2, e3, e5, e6⟩ := h
  have hcap : cap ≤ 9223372036854775807 := by
    rcases hr.2.2 with ⟨x, _⟩ | ⟨g, c, cur, x, _, _, _, hcm, _⟩
    · simp only [Value.slice.injEq] at x; omega
    · simp only [Value.slice.injEq, true_and] at x; unfold maxLen at hcm; omega
  have hgF : ∀ g, a0 = some ⟨g, 0, none⟩ → F ≤ g ∧ g < w.heap.size := fun g hg => by
    subst hg
    exact World.ownsRow.lt hr.2 g rfl
  refine (keep_any B cap a0 L es a1 a2 c1 c2 held w e3 (by omega) (hr.mono (by omega)) hL hcap).mono ?_
  rintro e w' ⟨rfl, wa, wc, j, b1, b2, d1, d2, hd, hj, hS, hk, hb⟩
  have hs := hb.size
  refine ⟨rfl, ⟨h1, h2.trans hb, by omega, by omega, _, b1, b2, d1, d2, hd, ?_, fun _ => ?_, hS, ?_, fun e he g hg => ?_⟩, hk, hs⟩
  · simp
    omega
  · intro hnil
    have := congrArg List.length hnil
    simp at this
    omega
  · exact apart_drop (apart_snoc e5 e6 (fun g hg => (hgF g hg).1)) j
  · rcases List.mem_append.1 (List.mem_of_mem_drop he) with h | h
    · have := e6 e h g hg
      omega
    · simp at h
      subst h
      exact hlt g hg

theorem apart_none (B : Nat) (w : World) (h0 : w.cell? ⟨B, 0, none⟩ = some (.slice none 0 0)) (h1 : w.cell? ⟨B, 1, none⟩ = some (.slice none 0 0)) (h2 : w.cell? ⟨B, 2, none⟩ = some (.int .i64 0)) (h3 : w.cell? ⟨B, 3, none⟩ = some (.bool false)) (hf : ∀ j, w.frozen? ⟨B, j, none⟩ = false) :
    Calls Tryd.prog 18 #[.pointer (some ⟨B, 0, none⟩), .func (.func 19) #[] #[]] w fun e w' => e = .returned (.bool true) ∧ Below B w w' := by
  have hst : Calls Tryd.prog 31 #[.pointer (some ⟨B, 0, none⟩)] w fun e w' => e = .returned (.bool true) ∧ w' = w := by
    go_enter Tryd.func31, Tryd.ntmps31
    go_wp2
    go_loopw [3] (fun i wr => i = .int .i64 0 ∧ wr = w) (fun _ _ => 0)
    case atStart => exact ⟨rfl, rfl⟩
    case round =>
      obtain ⟨rfl, rfl⟩ := hrel
      go_wp2
      go_ret
      exact ⟨rfl, rfl⟩
  have HST := Hid.intro hst
  clear hst
  go_enter Tryd.func18, Tryd.ntmps18
  go_wp2_with (go_at_call 31; refine (HST.out).mono ?_; rintro e w1 ⟨rfl, hw1⟩; subst hw1)
  go_loopw [5] (fun i wr => i = .int .i64 0 ∧ wr = w1) (fun _ _ => 0)
  case atStart => exact ⟨rfl, rfl⟩
  case round =>
    obtain ⟨rfl, rfl⟩ := hrel
    go_wp2
    go_loopw [8] (fun i wx => i = .int .i64 0 ∧ wx = wr) (fun _ _ => 0)
    case atStart => exact ⟨rfl, rfl⟩
    case round =>
      obtain ⟨rfl, rfl⟩ := hrel
      go_wp2
      go_ret
      exact ⟨rfl, Below.setCell (p := ⟨B, 2, none⟩) (Below.setCell (p := ⟨B, 1, none⟩) (Below.setCell (p := ⟨B, 0, none⟩) (Below.refl _ _) (Nat.le_refl _) _) (Nat.le_refl _) _) (Nat.le_refl _) _⟩

def twoCells (x : Ins) : Array Value := #[.int .i64 x.o, .int .i64 x.a, .int .i64 x.b, .int .i32 x.n, .int .i64 x.f, .int .i64 x.o, .int .i64 x.a, .int .i64 x.b, .int .i32 x.n, .int .i64 x.f]
theorem twice_lies (w : World) (x : Ins) (hok : x.ok) : ILies (w.alloc (.cells #[.int .i64 x.o, .int .i64 x.a, .int .i64 x.b, .int .i32 x.n, .int .i64 x.f, .int .i64 x.o, .int .i64 x.a, .int .i64 x.b, .int .i32 x.n, .int .i64 x.f] 27)) (some ⟨w.heap.size, 0, none⟩) [x, x] := by
  have hc := fun j => cell_block (heap_alloc_new w (.cells #[.int .i64 x.o, .int .i64 x.a, .int .i64 x.b, .int .i32 x.n, .int .i64 x.f, .int .i64 x.o, .int .i64 x.a, .int .i64 x.b, .int .i32 x.n, .int .i64 x.f] 27)) j
  refine ⟨fun y hy => ?_, .inr ⟨_, 0, rfl, fun i y hy => ?_⟩⟩
  · simp at hy
    subst hy
    exact hok
  · match i, hy with
    | 0, hy =>
      cases hy
      exact ⟨hc 0, hc 1, hc 2, hc 3, hc 4⟩
    | 1, hy =>
      cases hy
      exact ⟨hc 5, hc 6, hc 7, hc 8, hc 9⟩
    | i + 2, hy => simp at hy
theorem all_twice (w : World) (x : Ins) (hok : x.ok) (hT : Tab w) :
    Calls Tryd.prog 9 #[.slice (some ⟨w.heap.size, 0, none⟩) 2 2] (w.alloc (.cells #[.int .i64 x.o, .int .i64 x.a, .int .i64 x.b, .int .i32 x.n, .int .i64 x.f, .int .i64 x.o, .int .i64 x.a, .int .i64 x.b, .int .i32 x.n, .int .i64 x.f] 27)).drew fun e w' => ∃ a' k c' n' e', e = .returned (.tuple #[.slice a' k c', .int .i64 n', .int .i64 e']) ∧ SlB w' w.heap.size a' k c' (allL [x, x]) ∧ Below w.heap.size w w' := by
  have hb : Below w.heap.size w (w.alloc (.cells #[.int .i64 x.o, .int .i64 x.a, .int .i64 x.b, .int .i32 x.n, .int .i64 x.f, .int .i64 x.o, .int .i64 x.a, .int .i64 x.b, .int .i32 x.n, .int .i64 x.f] 27)).drew := (below_alloc w _).drew
  refine (all_any _ 2 [x, x] 2 rfl _ (hT.below hb hT.size) ((twice_lies w x hok).below ((Below.refl _ _).drew)) (by simp)).mono ?_
  rintro e w' ⟨a', k, c', rfl, hs, hb'⟩
  exact ⟨a', k, c', _, _, rfl, hs.mono hb.size, chain2 hb hb'⟩
theorem allL_len (xs : List Ins) : (allL xs).length ≤ 7 * xs.length := by
  unfold allL
  split
  · exact encAll_len xs
  · simp

theorem ILies.takeK {w : World} {a : Option Addr} {xs : List Ins} (h : ILies w a xs) (k : Nat) : ILies w a (xs.take k) := by
  refine ⟨fun x hx => h.1 x (List.mem_of_mem_take hx), ?_⟩
  rcases h.2 with rfl | ⟨g, off, ha, hc⟩
  · exact .inl (by simp)
  · refine .inr ⟨g, off, ha, fun i x hx => hc i x ?_⟩
    have hl := (List.getElem?_eq_some_iff.1 hx).1
    rw [List.length_take] at hl
    rwa [List.getElem?_take_of_lt (by omega)] at hx

set_option maxHeartbeats 4000000 in
theorem kept_short (a : Option Addr) (n c : Nat) (xs : List Ins) (hKn : n = xs.length) (w : World) (hT : Tab w) (hl : ILies w a xs) (hc : n ≤ c) (hcm : c ≤ 9223372036854775807) (hs : n ≤ 50) :
    Calls Tryd.prog 7 #[.slice a n c] w fun e w' => e = .returned (.bool true) ∧ Below w.heap.size w w' := by
  have hTH := Hid.intro hT
  have hlH := Hid.intro hl
  have hKH := Hid.intro hKn
  have hB0 := Hid.intro (Books.start w).grow
  clear hT hl hKn
  go_enter Tryd.func7, Tryd.ntmps7
  go_wp2
  all_goals first | omega | skip
  go_loopw [4] (fun vi wr => ∃ i : Nat, i ≤ n ∧ vi = .int .i64 (i : Int) ∧ Hid (Books w wr w.heap.size (2 * i) wr.heap.size) ∧ Hid (i = 0 → wr = w.alloc (.cells #[.slice none 0 0, .slice none 0 0, .int .i64 0, .bool false] 44))) (fun vi _ => n - (intOf vi).toNat)
  case atStart => exact ⟨0, by omega, rfl, hB0, fun _ => rfl⟩
  case round =>
    obtain ⟨i, hi, rfl, hB, hZ⟩ := hrel
    have hbw := Hid.intro hB.out.bel
    have hTr := Hid.intro (hTH.out.below hbw.out hTH.out.size)
    by_cases hlt : i < n
    · obtain ⟨x, hx⟩ : ∃ x, xs[i]? = some x := ⟨_, List.getElem?_eq_getElem (by have := hKH.out; omega)⟩
      obtain ⟨gl, ol, hal, hcl⟩ : ∃ gl ol, a = some ⟨gl, ol, none⟩ ∧ InsAt w gl (ol + i * 5) x := by
        rcases hlH.out.2 with h | ⟨gl, ol, ha, hcl⟩
        · rw [h] at hx; simp at hx
        · exact ⟨gl, ol, ha, hcl i x hx⟩
      subst hal
      have hok := Hid.intro (hlH.out.1 x (List.mem_of_getElem? hx))
      have hclH := Hid.intro hcl
      obtain ⟨q0, q1, q2, q3, q4⟩ := hcl.below hbw.out hcl.lt
      obtain ⟨C, hC⟩ : ∃ C, x.chk = C := ⟨_, rfl⟩
      obtain ⟨L, hL⟩ : ∃ L, x.enc = L := ⟨_, rfl⟩
      obtain ⟨LL, hLL⟩ : ∃ LL, allL [x, x] = LL := ⟨_, rfl⟩
      have hEn := Hid.intro (fun W hW => encode_at hC hL W hW hok.out)
      have hAl := Hid.intro (fun W hW => hLL ▸ all_twice W x hok.out hW)
      have hl7 : Hid (L.length ≤ 1000) := by show L.length ≤ 1000; have := encR_len x.o x.a x.b x.n x.f; rw [← hL]; exact Nat.le_trans this (by omega)
      have hl8 : Hid (LL.length ≤ 1000) := by show LL.length ≤ 1000; have := allL_len [x, x]; rw [← hLL]; exact Nat.le_trans this (by simp)
      have i1 : (0 : Int) ≤ (i : Int) := by omega
      have i2 : (i : Int) < (n : Int) := by omega
      clear hx hC hL hcl hLL
      go_wp2_with (go_at_call 8; (with_reducible refine (hEn.out _ hTr.out).mono ?_); rintro e w1 ⟨a1, m1, c1, rfl, hs1, hb1⟩; have hT1 := Hid.intro (hTr.out.below hb1 hTr.out.size); have hbw1 := Hid.intro (chain2 hbw.out hb1); obtain ⟨r0, r1, r2, r3, r4⟩ := hclH.out.below hbw1.out hclH.out.lt; replace hs1 := Hid.intro hs1; replace hb1 := Hid.intro hb1)
      all_goals first | omega | skip
      clear q0 q1 q2 q3 q4
      go_region_held3 (fun W => W.cell? ⟨gl, ol + i * 5, none⟩ = some (.int .i64 x.o) ∧ W.cell? ⟨gl, ol + i * 5 + 1, none⟩ = some (.int .i64 x.a) ∧ W.cell? ⟨gl, ol + i * 5 + 2, none⟩ = some (.int .i64 x.b) ∧ W.cell? ⟨gl, ol + i * 5 + 3, none⟩ = some (.int .i32 x.n) ∧ W.cell? ⟨gl, ol + i * 5 + 4, none⟩ = some (.int .i64 x.f)) (go_keep)
        ((go_at_call 9; (with_reducible refine (hAl.out w1 hT1.out).mono ?_); rintro e w2 ⟨a2, k2, c2, n2, e2, rfl, hs2, hb2⟩; have hbw2 := Hid.intro (chain2 hbw1.out hb2); obtain ⟨s0, s1, s2, s3, s4⟩ := hclH.out.below hbw2.out hclH.out.lt; replace hs2 := Hid.intro hs2; replace hb2 := Hid.intro hb2))
      all_goals have hBk : Hid (Books w w2 w.heap.size (2 * i) wr.heap.size) := hB.out.more (chain2 hb1.out hb2.out)
      all_goals have hK1 : Hid (Calls Tryd.prog 17 #[.pointer (some ⟨w.heap.size, 0, none⟩), .slice a1 m1 c1] w2 fun e w' => e = .returned (.tuple #[]) ∧ Books w w' w.heap.size (2 * i + 1) w1.heap.size ∧ K5 w2 w' ∧ w2.heap.size ≤ w'.heap.size) := keep_fence hBk.out (by omega) hs1.out.len ((hs1.out.below hb2.out).ownT) hl7.out hb1.out.size hb2.out.size (fun g hg => by subst hg; exact (World.ownsRow.lt hs1.out.got g rfl).2)
      all_goals clear s0 s1 s2 s3 s4 r0 r1 r2 r3 r4 hEn hAl
      all_goals go_wp2_with (first
        | (go_at_call 17; (with_reducible refine hK1.out.mono ?_); rintro e w3 ⟨rfl, hB3, hk3, hz3⟩; have hs3 : Hid (OwnT w3 w1.heap.size a2 c2 LL) := hs2.out.ownT.kept hk3; have hB3H := Hid.intro hB3; have hK2 : Hid (Calls Tryd.prog 17 #[.pointer (some ⟨w.heap.size, 0, none⟩), .slice a2 k2 c2] w3 fun e w' => e = .returned (.tuple #[]) ∧ Books w w' w.heap.size (2 * i + 1 + 1) w3.heap.size ∧ K5 w3 w' ∧ w3.heap.size ≤ w'.heap.size) := keep_fence hB3H.out (by omega) hs2.out.len hs3.out hl8.out (Nat.le_trans hb2.out.size hz3) (Nat.le_refl _) (fun g hg => by subst hg; exact (World.ownsRow.lt hs3.out.2 g rfl).2); clear hB3 hk3 hz3)
        | (go_at_call 17; (with_reducible refine hK2.out.mono ?_); rintro e w4 ⟨rfl, hB4, hk4, hz4⟩; have hB4H := Hid.intro hB4.grow; clear hB4 hk4 hz4))
      all_goals first | omega | skip
      all_goals clear hK1 hK2 hBk hB3H hs3
      all_goals go_roundw
      case rel => exact ⟨i + 1, by omega, by go_num, (show Books w w4 w.heap.size (2 * (i + 1)) w4.heap.size from hB4H.out), fun h => by omega⟩
      case measure => simp [intOf]; omega
    · obtain rfl : n = i := by omega
      by_cases h0 : n = 0
      · have hz := hZ.out h0
        subst hz
        have hcell := fun j => cell_block (heap_alloc_new w (.cells #[.slice none 0 0, .slice none 0 0, .int .i64 0, .bool false] 44)) j
        have hap := Hid.intro (apart_none w.heap.size _ (hcell 0) (hcell 1) (hcell 2) (hcell 3) (fun j => frozen_of_row _ _ j _ 44 (heap_alloc_new w _)))
        clear hcell
        go_wp2_with (first
          | (go_at_call 18; (with_reducible refine hap.out.mono ?_); rintro e w5 ⟨rfl, hb5⟩; have hbw5 := Hid.intro (hbw.out.trans hb5); have hT5 := Hid.intro (hTH.out.below hbw5.out hTH.out.size); clear hb5)
          | (go_at_call 10; (with_reducible refine (known_any _ hT5.out).mono ?_); rintro e w6 ⟨rfl, hb6⟩; replace hb6 := Hid.intro hb6))
        all_goals first | omega | skip
        all_goals go_ret
        all_goals exact ⟨rfl, chain2 hbw5.out hb6.out⟩
      · have hap := Hid.intro (apart_books hB.out (by omega) (by omega))
        go_wp2_with (first
          | (go_at_call 18; (with_reducible refine hap.out.mono ?_); rintro e w5 ⟨rfl, hb5⟩; have hbw5 := Hid.intro hb5; have hT5 := Hid.intro (hTH.out.below hbw5.out hTH.out.size); clear hb5)
          | (go_at_call 10; (with_reducible refine (known_any _ hT5.out).mono ?_); rintro e w6 ⟨rfl, hb6⟩; replace hb6 := Hid.intro hb6))
        all_goals first | omega | skip
        all_goals go_ret
        all_goals exact ⟨rfl, chain2 hbw5.out hb6.out⟩

set_option maxHeartbeats 4000000 in
theorem kept_long (a : Option Addr) (n c : Nat) (xs : List Ins) (hKn : 50 = xs.length) (w : World) (hT : Tab w) (hl : ILies w a xs) (hc : n ≤ c) (hcm : c ≤ 9223372036854775807) (hs : 50 < n) :
    Calls Tryd.prog 7 #[.slice a n c] w fun e w' => e = .returned (.bool true) ∧ Below w.heap.size w w' := by
  have hTH := Hid.intro hT
  have hlH := Hid.intro hl
  have hKH := Hid.intro hKn
  have hB0 := Hid.intro (Books.start w).grow
  have hd1 : decide ((50 : Int) < (n : Int)) = true := decide_eq_true (by omega)
  clear hT hl hKn
  go_enter Tryd.func7, Tryd.ntmps7
  go_wp2
  all_goals first | omega | skip
  go_loopw [4] (fun vi wr => ∃ i : Nat, i ≤ 50 ∧ vi = .int .i64 (i : Int) ∧ Hid (Books w wr w.heap.size (2 * i) wr.heap.size) ∧ Hid (i = 0 → wr = w.alloc (.cells #[.slice none 0 0, .slice none 0 0, .int .i64 0, .bool false] 44))) (fun vi _ => 50 - (intOf vi).toNat)
  case atStart => exact ⟨0, by omega, rfl, hB0, fun _ => rfl⟩
  case round =>
    obtain ⟨i, hi, rfl, hB, hZ⟩ := hrel
    have hbw := Hid.intro hB.out.bel
    have hTr := Hid.intro (hTH.out.below hbw.out hTH.out.size)
    by_cases hlt : i < 50
    · obtain ⟨x, hx⟩ : ∃ x, xs[i]? = some x := ⟨_, List.getElem?_eq_getElem (by have := hKH.out; omega)⟩
      obtain ⟨gl, ol, hal, hcl⟩ : ∃ gl ol, a = some ⟨gl, ol, none⟩ ∧ InsAt w gl (ol + i * 5) x := by
        rcases hlH.out.2 with h | ⟨gl, ol, ha, hcl⟩
        · rw [h] at hx; simp at hx
        · exact ⟨gl, ol, ha, hcl i x hx⟩
      subst hal
      have hok := Hid.intro (hlH.out.1 x (List.mem_of_getElem? hx))
      have hclH := Hid.intro hcl
      obtain ⟨q0, q1, q2, q3, q4⟩ := hcl.below hbw.out hcl.lt
      obtain ⟨C, hC⟩ : ∃ C, x.chk = C := ⟨_, rfl⟩
      obtain ⟨L, hL⟩ : ∃ L, x.enc = L := ⟨_, rfl⟩
      obtain ⟨LL, hLL⟩ : ∃ LL, allL [x, x] = LL := ⟨_, rfl⟩
      have hEn := Hid.intro (fun W hW => encode_at hC hL W hW hok.out)
      have hAl := Hid.intro (fun W hW => hLL ▸ all_twice W x hok.out hW)
      have hl7 : Hid (L.length ≤ 1000) := by show L.length ≤ 1000; have := encR_len x.o x.a x.b x.n x.f; rw [← hL]; exact Nat.le_trans this (by omega)
      have hl8 : Hid (LL.length ≤ 1000) := by show LL.length ≤ 1000; have := allL_len [x, x]; rw [← hLL]; exact Nat.le_trans this (by simp)
      have i1 : (0 : Int) ≤ (i : Int) := by omega
      have i2 : (i : Int) < (50 : Int) := by omega
      clear hx hC hL hcl hLL
      go_wp2_with (go_at_call 8; (with_reducible refine (hEn.out _ hTr.out).mono ?_); rintro e w1 ⟨a1, m1, c1, rfl, hs1, hb1⟩; have hT1 := Hid.intro (hTr.out.below hb1 hTr.out.size); have hbw1 := Hid.intro (chain2 hbw.out hb1); obtain ⟨r0, r1, r2, r3, r4⟩ := hclH.out.below hbw1.out hclH.out.lt; replace hs1 := Hid.intro hs1; replace hb1 := Hid.intro hb1)
      all_goals first | omega | skip
      clear q0 q1 q2 q3 q4
      go_region_held3 (fun W => W.cell? ⟨gl, ol + i * 5, none⟩ = some (.int .i64 x.o) ∧ W.cell? ⟨gl, ol + i * 5 + 1, none⟩ = some (.int .i64 x.a) ∧ W.cell? ⟨gl, ol + i * 5 + 2, none⟩ = some (.int .i64 x.b) ∧ W.cell? ⟨gl, ol + i * 5 + 3, none⟩ = some (.int .i32 x.n) ∧ W.cell? ⟨gl, ol + i * 5 + 4, none⟩ = some (.int .i64 x.f)) (go_keep)
        ((go_at_call 9; (with_reducible refine (hAl.out w1 hT1.out).mono ?_); rintro e w2 ⟨a2, k2, c2, n2, e2, rfl, hs2, hb2⟩; have hbw2 := Hid.intro (chain2 hbw1.out hb2); obtain ⟨s0, s1, s2, s3, s4⟩ := hclH.out.below hbw2.out hclH.out.lt; replace hs2 := Hid.intro hs2; replace hb2 := Hid.intro hb2))
      all_goals have hBk : Hid (Books w w2 w.heap.size (2 * i) wr.heap.size) := hB.out.more (chain2 hb1.out hb2.out)
      all_goals have hK1 : Hid (Calls Tryd.prog 17 #[.pointer (some ⟨w.heap.size, 0, none⟩), .slice a1 m1 c1] w2 fun e w' => e = .returned (.tuple #[]) ∧ Books w w' w.heap.size (2 * i + 1) w1.heap.size ∧ K5 w2 w' ∧ w2.heap.size ≤ w'.heap.size) := keep_fence hBk.out (by omega) hs1.out.len ((hs1.out.below hb2.out).ownT) hl7.out hb1.out.size hb2.out.size (fun g hg => by subst hg; exact (World.ownsRow.lt hs1.out.got g rfl).2)
      all_goals clear s0 s1 s2 s3 s4 r0 r1 r2 r3 r4 hEn hAl
      all_goals go_wp2_with (first
        | (go_at_call 17; (with_reducible refine hK1.out.mono ?_); rintro e w3 ⟨rfl, hB3, hk3, hz3⟩; have hs3 : Hid (OwnT w3 w1.heap.size a2 c2 LL) := hs2.out.ownT.kept hk3; have hB3H := Hid.intro hB3; have hK2 : Hid (Calls Tryd.prog 17 #[.pointer (some ⟨w.heap.size, 0, none⟩), .slice a2 k2 c2] w3 fun e w' => e = .returned (.tuple #[]) ∧ Books w w' w.heap.size (2 * i + 1 + 1) w3.heap.size ∧ K5 w3 w' ∧ w3.heap.size ≤ w'.heap.size) := keep_fence hB3H.out (by omega) hs2.out.len hs3.out hl8.out (Nat.le_trans hb2.out.size hz3) (Nat.le_refl _) (fun g hg => by subst hg; exact (World.ownsRow.lt hs3.out.2 g rfl).2); clear hB3 hk3 hz3)
        | (go_at_call 17; (with_reducible refine hK2.out.mono ?_); rintro e w4 ⟨rfl, hB4, hk4, hz4⟩; have hB4H := Hid.intro hB4.grow; clear hB4 hk4 hz4))
      all_goals first | omega | skip
      all_goals clear hK1 hK2 hBk hB3H hs3
      all_goals go_roundw
      case rel => exact ⟨i + 1, by omega, by go_num, (show Books w w4 w.heap.size (2 * (i + 1)) w4.heap.size from hB4H.out), fun h => by omega⟩
      case measure => simp [intOf]; omega
    · obtain rfl : 50 = i := by omega
      have hap := Hid.intro (apart_books hB.out (by omega) (by omega))
      go_wp2_with (first
        | (go_at_call 18; (with_reducible refine hap.out.mono ?_); rintro e w5 ⟨rfl, hb5⟩; have hbw5 := Hid.intro hb5; have hT5 := Hid.intro (hTH.out.below hbw5.out hTH.out.size); clear hb5)
        | (go_at_call 10; (with_reducible refine (known_any _ hT5.out).mono ?_); rintro e w6 ⟨rfl, hb6⟩; replace hb6 := Hid.intro hb6))
      all_goals first | omega | skip
      all_goals go_ret
      all_goals exact ⟨rfl, chain2 hbw5.out hb6.out⟩

theorem kept_law (a : Option Addr) (n c : Nat) (xs : List Ins) (hn : n = xs.length) (w : World) (hT : Tab w) (hl : ILies w a xs) (hc : n ≤ c) (hcm : c ≤ maxLen) :
    Calls Tryd.prog 7 #[.slice a n c] w fun e w' => e = .returned (.bool true) ∧ Below w.heap.size w w' := by
  unfold maxLen at hcm
  by_cases hb : 50 < n
  · exact kept_long a n c (xs.take 50) (by rw [List.length_take]; omega) w hT (hl.takeK 50) hc (by omega) hb
  · exact kept_short a n c xs hn w hT hl hc (by omega) (by omega)
end Go.Proofs.YtmpckkogllnkkaaDoor

/- item's reading of all of an operation's arguments. -/
import Derived.Test.YtogkchgjpflmjaaGreatDoorIt4
/- item's readOne: constants and expressions. -/
namespace Go.Proofs.YtogkchgjpflmjaaGreatDoor
open Go.ChangeShapes Go.WideShapes Go.ChangeAt Go.RowKit
set_option linter.unusedVariables false
set_option maxRecDepth 100000
theorem Tab.grown {w w' : World} {b : Nat} (h : Tab w) (hg : w.grownBy w' (some b)) (hb : 4 ≤ b) : Tab w' := by
  obtain ⟨⟨t, z, h1⟩, t2, z2, h2⟩ := h
  have l0 := (Array.getElem?_eq_some_iff.1 h1).1
  have l1 := (Array.getElem?_eq_some_iff.1 h2).1
  exact ⟨⟨t, z, by rw [hg.block 1 l0 (by simp; omega)]; exact h1⟩, t2, z2, by rw [hg.block 3 l1 (by simp; omega)]; exact h2⟩
set_option maxHeartbeats 1000000 in
theorem readOne_const (b : Nat) (wants : List UInt8) (x : Itm) (va : Option Addr) (n vc : Nat) (place : Nat) (hwc : atI (bs (str wants)) place = 110) (hpl : place < wants.length) (hws : wants.length ≤ 10) (a : Option Addr) (c : Nat) (arg : List Tok) (w : World) (hT : Toks w a c arg) (h : OpB w b wants x va n vc) (hTab : Tab w) (hb2 : 4 ≤ b) :
    Calls Tryz.prog 271 #[.pointer (some ⟨b, 0, none⟩), .int .i64 (place : Int), .slice a arg.length c] w fun e w' => OneOut w b wants (stepF 110 place arg x) e w' := by
  have c0 := (h.cell 0).trans rfl
  have hlen : (str wants).size = wants.length := rfl
  have hget := atI_get (str wants) place (by omega)
  rw [hwc] at hget
  have hcon := constant_any a c arg w hT
  have hrg := @constF_range arg
  have her := @constF_err arg
  have hF : stepF 110 place arg x = match constF arg with | .error k => .error k | .ok n => if checkN x.op x.a x.b n x.form = 0 then .ok { x with m := n } else .error 21 := by unfold stepF; rw [if_neg (by omega), if_pos rfl]; try rfl
  rw [hF]
  have hH := Hid.intro h
  have hTH := Hid.intro hTab
  clear hT h hF hwc hTab
  generalize arg.length = n0 at hcon ⊢
  have hlt := hH.out.lt
  generalize constF arg = R at hcon hrg her ⊢
  cases R with
  | error k =>
    have hk0 : (k == 0) = false := by rcases her rfl with rfl | rfl <;> rfl
    simp only [constV] at hcon ⊢
    replace hcon := Hid.intro hcon
    clear her hrg
    go_enter Tryz.func271, Tryz.ntmps271
    go_wp2_with (go_at_call 230; (with_reducible refine (hcon.out).mono ?_); rintro e w1 ⟨rfl, hb1⟩; have hO1 := Hid.intro (hH.out.below hb1); have d6 := (hO1.out.cell 6).trans rfl; have f6 := hO1.out.frozen 6)
    all_goals first | omega | skip
    go_ret
    refine ⟨rfl, ?_, trivial⟩
    obtain ⟨s1, s2⟩ := opb_set hO1.out 6 (.int .i32 0) { x with m := 0 } rfl rfl
    have := hb1.size
    exact (hb1.mono (by omega)).grown s2 (by omega) (fun j hj => by cases hj; exact Nat.le_refl _)
  | ok r =>
    have hr := hrg rfl
    simp only [constV] at hcon ⊢
    replace hcon := Hid.intro hcon
    clear her hrg
    have hchk := Hid.intro (fun (w3 : World) (h3 : Tab w3) => check_any x.op x.a x.b r x.form w3 h3 hr)
    generalize checkN x.op x.a x.b r x.form = ck at hchk ⊢
    by_cases hck : ck = 0
    · subst hck
      rw [if_pos rfl]
      go_enter Tryz.func271, Tryz.ntmps271
      go_wp2_with (first | (go_at_call 230; (with_reducible refine (hcon.out).mono ?_); rintro e w1 ⟨rfl, hb1⟩; have hO1 := Hid.intro (hH.out.below hb1); have d6 := (hO1.out.cell 6).trans rfl; have f6 := hO1.out.frozen 6; have hS := Hid.intro (opb_set hO1.out 6 (.int .i32 r) { x with m := r } rfl rfl); have e3 := (hS.out.1.cell 3).trans rfl; have e4 := (hS.out.1.cell 4).trans rfl; have e5 := (hS.out.1.cell 5).trans rfl; have e6 := (hS.out.1.cell 6).trans rfl; have e7 := (hS.out.1.cell 7).trans rfl; have hT2 := Hid.intro ((hTH.out.below hb1 hTH.out.size).grown hS.out.2 hb2)) | (go_at_call 145; (with_reducible refine (hchk.out _ hT2.out).mono ?_); rintro e w3 ⟨rfl, hb3⟩))
      all_goals first | omega | skip
      go_ret
      have h1 := hb1.size
      have h2 := hS.out.2.size
      have hBB : Below b w w3 := ((hb1.mono (by omega)).grown hS.out.2 (by omega) (fun j hj => by cases hj; exact Nat.le_refl _)).trans (hb3.mono (by omega))
      exact ⟨rfl, hBB, _, _, _, hS.out.1.below hb3⟩
    · rw [if_neg hck]
      have hck0 : (ck == 0) = false := by simp [hck]
      go_enter Tryz.func271, Tryz.ntmps271
      go_wp2_with (first | (go_at_call 230; (with_reducible refine (hcon.out).mono ?_); rintro e w1 ⟨rfl, hb1⟩; have hO1 := Hid.intro (hH.out.below hb1); have d6 := (hO1.out.cell 6).trans rfl; have f6 := hO1.out.frozen 6; have hS := Hid.intro (opb_set hO1.out 6 (.int .i32 r) { x with m := r } rfl rfl); have e3 := (hS.out.1.cell 3).trans rfl; have e4 := (hS.out.1.cell 4).trans rfl; have e5 := (hS.out.1.cell 5).trans rfl; have e6 := (hS.out.1.cell 6).trans rfl; have e7 := (hS.out.1.cell 7).trans rfl; have hT2 := Hid.intro ((hTH.out.below hb1 hTH.out.size).grown hS.out.2 hb2)) | (go_at_call 145; (with_reducible refine (hchk.out _ hT2.out).mono ?_); rintro e w3 ⟨rfl, hb3⟩))
      all_goals first | omega | skip
      go_ret
      have h1 := hb1.size
      have h2 := hS.out.2.size
      have hBB : Below b w w3 := ((hb1.mono (by omega)).grown hS.out.2 (by omega) (fun j hj => by cases hj; exact Nat.le_refl _)).trans (hb3.mono (by omega))
      exact ⟨rfl, hBB, trivial⟩
theorem opb_expr {w w1 : World} {b : Nat} {wants : List UInt8} {x : Itm} {va : Option Addr} {n vc : Nat} (h : OpB w b wants x va n vc) (hb : Below w.heap.size w w1) (y : Lin) (vb : Option Addr) (m vd : Nat) (ho : w1.ownsRow w.heap.size 123 2 (.slice vb m vd) y.terms.length (rowT y.terms)) :
    OpB ((w1.setCell ⟨b, 8, none⟩ (.slice vb m vd)).setCell ⟨b, 9, none⟩ (.int .u32 y.const)) b wants { x with e := y } vb m vd ∧ Below b w ((w1.setCell ⟨b, 8, none⟩ (.slice vb m vd)).setCell ⟨b, 9, none⟩ (.int .u32 y.const)) := by
  have hlt := h.lt
  obtain ⟨s1, s2⟩ := row_set (h.below hb).heap 8 (.slice vb m vd)
  obtain ⟨t1, t2⟩ := row_set s1 9 (.int .u32 y.const)
  have q1 := hb.size
  have q2 := s2.size
  exact ⟨⟨t1, own_weaken (own_low (own_low ho s2 hlt) t2 hlt) (by omega)⟩, ((hb.mono (by omega)).grown s2 (by omega) (fun j hj => by cases hj; exact Nat.le_refl _)).grown t2 (by omega) (fun j hj => by cases hj; exact Nat.le_refl _)⟩
theorem parse_why (a : Option Addr) (c : Nat) (arg : List Tok) (x : Itm) (w : World) (hT : Toks w a c arg) :
    Calls Tryz.prog 231 #[.slice a arg.length c] w fun e w' => Below w.heap.size w w' ∧ ∃ y vb m vd, e = .returned (.tuple #[linV (.slice vb m vd) y.const, .int .i64 (whyOf (exprF arg x))]) ∧ w'.ownsRow w.heap.size 123 2 (.slice vb m vd) y.terms.length (rowT y.terms) ∧ (∀ x', exprF arg x = .ok x' → x' = { x with e := y }) := by
  refine (parse_any a c arg w hT).mono ?_
  rintro e w' ⟨hb, hm⟩
  refine ⟨hb, ?_⟩
  unfold exprF
  cases hp : parseF arg with
  | error k =>
    rw [hp] at hm
    simp only at hm
    subst hm
    exact ⟨linE, none, 0, 0, rfl, ⟨by simp [linE, rowT], .inl ⟨rfl, rfl⟩⟩, fun x' h => by cases h⟩
  | ok y =>
    rw [hp] at hm
    obtain ⟨va, n, vc, rfl, ho⟩ := hm
    exact ⟨y, va, n, vc, rfl, ho, fun x' h => by cases h; rfl⟩
theorem readOne_expr (b : Nat) (wants : List UInt8) (x : Itm) (va : Option Addr) (n vc : Nat) (place : Nat) (hwc : atI (bs (str wants)) place = 101) (hpl : place < wants.length) (hws : wants.length ≤ 10) (a : Option Addr) (c : Nat) (arg : List Tok) (w : World) (hT : Toks w a c arg) (h : OpB w b wants x va n vc) :
    Calls Tryz.prog 271 #[.pointer (some ⟨b, 0, none⟩), .int .i64 (place : Int), .slice a arg.length c] w fun e w' => OneOut w b wants (stepF 101 place arg x) e w' := by
  have c0 := (h.cell 0).trans rfl
  have hlen : (str wants).size = wants.length := rfl
  have hget := atI_get (str wants) place (by omega)
  rw [hwc] at hget
  have hp := Hid.intro (parse_why a c arg x w hT)
  have hF : stepF 101 place arg x = exprF arg x := by unfold stepF; rw [if_neg (by omega), if_neg (by omega), if_neg (by omega)]
  rw [hF]
  have hH := Hid.intro h
  clear hT h hF hwc
  generalize exprF arg x = R at hp ⊢
  generalize arg.length = n0 at hp ⊢
  have hlt := hH.out.lt
  go_enter Tryz.func271, Tryz.ntmps271
  go_wp2_with (go_at_call 231; (with_reducible refine (hp.out).mono ?_); rintro e w1 ⟨hb1, y, vb, m, vd, rfl, ho, hx⟩; have hO1 := Hid.intro (hH.out.below hb1); have d8 := (hO1.out.cell 8).trans rfl; have d9 := (hO1.out.cell 9).trans rfl; have f8 := hO1.out.frozen 8; have f9 := hO1.out.frozen 9; have hE := Hid.intro (opb_expr hH.out hb1 y vb m vd ho))
  all_goals first | omega | skip
  go_ret
  refine ⟨rfl, hE.out.2, ?_⟩
  cases R with
  | error k => trivial
  | ok x' => rw [hx x' rfl]; exact ⟨_, _, _, hE.out.1⟩
end Go.Proofs.YtogkchgjpflmjaaGreatDoor
/- item's readOne: a literal; all of an operation's arguments. -/
namespace Go.Proofs.YtogkchgjpflmjaaGreatDoor
open Go.ChangeShapes Go.WideShapes Go.ChangeAt Go.RowKit
set_option linter.unusedVariables false
set_option maxRecDepth 100000
theorem Toks.tail {w : World} {gt o c : Nat} {t : Tok} {r : List Tok} (h : Toks w (some ⟨gt, o, none⟩) c (t :: r)) : (c = 1 → r = [] ∧ Toks w (some ⟨gt, o, none⟩) 0 r) ∧ (c ≠ 1 → Toks w (some ⟨gt, o + 4, none⟩) (c - 1) r) := by
  have hc := h.cap
  have hm := h.most
  have hf := h.few
  simp only [List.length_cons] at hc hf
  have ho := h.old _ rfl
  simp only at ho
  refine ⟨fun h1 => ?_, fun h1 => ?_⟩
  · have hr : r = [] := by cases r with | nil => rfl | cons u r => simp at hc; omega
    subst hr
    exact ⟨rfl, .inl rfl, h.old, by simp, by omega, by simp, fun t ht => by cases ht⟩
  · obtain ⟨g, o', ha, hg, _, ht⟩ := h.lies.head
    cases ha
    exact ⟨tokFrom_tail hg ht, fun x hx => by cases hx; exact ho, by omega, by omega, by omega, fun u hu => h.short u (List.mem_cons_of_mem _ hu)⟩
set_option maxHeartbeats 2000000 in
theorem readOne_lit (b : Nat) (wants : List UInt8) (x : Itm) (va : Option Addr) (n vc : Nat) (place : Nat) (hwc : atI (bs (str wants)) place = 61) (hpl : place < wants.length) (hws : wants.length ≤ 10) (a : Option Addr) (c : Nat) (arg : List Tok) (w : World) (hT : Toks w a c arg) (h : OpB w b wants x va n vc) :
    Calls Tryz.prog 271 #[.pointer (some ⟨b, 0, none⟩), .int .i64 (place : Int), .slice a arg.length c] w fun e w' => OneOut w b wants (stepF 61 place arg x) e w' := by
  have c0 := (h.cell 0).trans rfl
  have hlen : (str wants).size = wants.length := rfl
  have hget := atI_get (str wants) place (by omega)
  rw [hwc] at hget
  have hlt := h.lt
  have hH := Hid.intro h
  clear h hwc
  cases arg with
  | nil =>
    have hF : stepF 61 place [] x = .error 20 := by unfold stepF; rw [if_neg (by omega), if_neg (by omega), if_pos rfl]
    rw [hF]
    clear hT hF
    show Calls Tryz.prog 271 #[.pointer (some ⟨b, 0, none⟩), .int .i64 (place : Int), .slice a 0 c] w _
    go_enter Tryz.func271, Tryz.ntmps271
    go_wp2
    all_goals first | omega | skip
    go_ret
    exact ⟨rfl, Below.refl _ _, trivial⟩
  | cons t r =>
    have hF : stepF 61 place (t :: r) x = if isS t 61 = true then exprF r x else .error 20 := by unfold stepF; rw [if_neg (by omega), if_neg (by omega), if_pos rfl]
    rw [hF]
    obtain ⟨gt, o, rfl, hg, ⟨q0, q1, q2, q3⟩, _⟩ := hT.lies.head
    have htl := hT.tail
    have hcap := hT.cap
    have hmost := hT.most
    have hfew := hT.few
    simp only [List.length_cons] at hcap hfew ⊢
    clear hT hF
    obtain ⟨n1, hn1⟩ : ∃ n1, n1 = r.length := ⟨_, rfl⟩
    rw [← hn1] at hcap hfew ⊢
    by_cases hk : t.kind = 3
    · rw [hk] at q0
      by_cases htx : t.text = [61]
      · rw [if_pos (by simp [isS, hk, htx])]
        rw [htx] at q1
        replace q1 : w.cell? ⟨gt, o + 1, none⟩ = some (.string ⟨#[61]⟩) := q1
        by_cases hc1 : c = 1
        · obtain ⟨hr, hT2⟩ := htl.1 hc1
          have hp := Hid.intro (parse_why (some ⟨gt, o, none⟩) 0 r x w hT2)
          rw [← hn1] at hp
          have hn0 : n1 = 0 := by rw [hn1, hr]; rfl
          subst hc1
          clear hn1 htl hT2 hr
          subst hn0
          generalize exprF r x = R at hp ⊢
          go_enter Tryz.func271, Tryz.ntmps271
          go_wp2_with (go_at_call 231; (with_reducible refine (hp.out).mono ?_); rintro e w1 ⟨hb1, y, vb, m, vd, rfl, ho, hx⟩; have hO1 := Hid.intro (hH.out.below hb1); have d8 := (hO1.out.cell 8).trans rfl; have d9 := (hO1.out.cell 9).trans rfl; have f8 := hO1.out.frozen 8; have f9 := hO1.out.frozen 9; have hE := Hid.intro (opb_expr hH.out hb1 y vb m vd ho))
          all_goals first | omega | skip
          go_ret
          refine ⟨rfl, hE.out.2, ?_⟩
          cases R with
          | error k => trivial
          | ok x' => rw [hx x' rfl]; exact ⟨_, _, _, hE.out.1⟩
        · have hT2 := htl.2 hc1
          have hp := Hid.intro (parse_why (some ⟨gt, o + 4, none⟩) (c - 1) r x w hT2)
          rw [← hn1] at hp
          clear hn1 htl hT2
          generalize exprF r x = R at hp ⊢
          have hc2 : 2 ≤ c := by omega
          go_enter Tryz.func271, Tryz.ntmps271
          go_wp2_with (go_at_call 231; (with_reducible refine (hp.out).mono ?_); rintro e w1 ⟨hb1, y, vb, m, vd, rfl, ho, hx⟩; have hO1 := Hid.intro (hH.out.below hb1); have d8 := (hO1.out.cell 8).trans rfl; have d9 := (hO1.out.cell 9).trans rfl; have f8 := hO1.out.frozen 8; have f9 := hO1.out.frozen 9; have hE := Hid.intro (opb_expr hH.out hb1 y vb m vd ho))
          all_goals first | omega | skip
          go_ret
          refine ⟨rfl, hE.out.2, ?_⟩
          cases R with
          | error k => trivial
          | ok x' => rw [hx x' rfl]; exact ⟨_, _, _, hE.out.1⟩
      · rw [if_neg (by simp [isS, htx])]
        have hny : ((str t.text).toList == [61]) = false := by rw [str_toList]; exact beq_false_of_ne htx
        have hnz : (t.text == [61]) = false := beq_false_of_ne htx
        clear hn1 htl
        go_enter Tryz.func271, Tryz.ntmps271
        go_wp2
        all_goals first | omega | skip
        go_ret
        exact ⟨rfl, Below.refl _ _, trivial⟩
    · rw [if_neg (by simp [isS, hk])]
      have hk' : (t.kind == 3) = false := by simp [hk]
      clear hn1 htl
      go_enter Tryz.func271, Tryz.ntmps271
      go_wp2
      all_goals first | omega | skip
      go_ret
      exact ⟨rfl, Below.refl _ _, trivial⟩
end Go.Proofs.YtogkchgjpflmjaaGreatDoor
namespace Go.Proofs.YtogkchgjpflmjaaGreatDoor
open Go.ChangeShapes Go.WideShapes Go.ChangeAt Go.RowKit
set_option linter.unusedVariables false
set_option maxRecDepth 100000
theorem Toks.low {w w' : World} {a : Option Addr} {c : Nat} {ts : List Tok} {B : Nat} (h : Toks w a c ts) (hy : ∀ y, a = some y → y.block < B) (hb : Below B w w') (hB : B ≤ w.heap.size) : Toks w' a c ts := by
  refine ⟨?_, fun x hx => by have := hy x hx; have := hb.size; omega, h.cap, h.most, h.few, h.short⟩
  rcases h.lies with h1 | ⟨g, o, ha, hg, hl⟩
  · exact .inl h1
  · have hgB := hy _ ha
    refine .inr ⟨g, o, ha, by have := hb.size; omega, fun i t hi => ?_⟩
    obtain ⟨k0, k1, k2, k3⟩ := hl i t hi
    exact ⟨(hb.cell (p := ⟨g, o + i * 4, none⟩) hgB).trans k0, (hb.cell (p := ⟨g, o + i * 4 + 1, none⟩) hgB).trans k1, (hb.cell (p := ⟨g, o + i * 4 + 2, none⟩) hgB).trans k2, (hb.cell (p := ⟨g, o + i * 4 + 3, none⟩) hgB).trans k3⟩
structure ArgsIn (B : Nat) (w : World) (a : Option Addr) (acc : List (List Tok)) : Prop where
  outer : acc = [] ∨ ∃ G, a = some ⟨G, 0, none⟩ ∧ G < B ∧ ∀ (i : Nat) (xs : List Tok), acc[i]? = some xs → ∃ a' c', w.cell? ⟨G, i, none⟩ = some (.slice a' xs.length c') ∧ Toks w a' c' xs ∧ ∀ y, a' = some y → y.block < B
  size : B ≤ w.heap.size
theorem ArgsIn.below {B : Nat} {w w' : World} {a : Option Addr} {acc : List (List Tok)} (h : ArgsIn B w a acc) (hb : Below B w w') : ArgsIn B w' a acc := by
  refine ⟨?_, Nat.le_trans h.size hb.size⟩
  rcases h.outer with h1 | ⟨G, ha, hG, hl⟩
  · exact .inl h1
  · refine .inr ⟨G, ha, hG, fun i xs hi => ?_⟩
    obtain ⟨a', c', k1, k2, k3⟩ := hl i xs hi
    exact ⟨a', c', (hb.cell (p := ⟨G, i, none⟩) hG).trans k1, k2.low k3 hb h.size, k3⟩
theorem ArgsIn.mono {B B' : Nat} {w : World} {a : Option Addr} {acc : List (List Tok)} (h : ArgsIn B w a acc) (h1 : B ≤ B') (h2 : B' ≤ w.heap.size) : ArgsIn B' w a acc := by
  refine ⟨?_, h2⟩
  rcases h.outer with h3 | ⟨G, ha, hG, hl⟩
  · exact .inl h3
  · refine .inr ⟨G, ha, by omega, fun i xs hi => ?_⟩
    obtain ⟨a', c', k1, k2, k3⟩ := hl i xs hi
    exact ⟨a', c', k1, k2, fun y hy => by have := k3 y hy; omega⟩
theorem ArgsIn.at {B : Nat} {w : World} {a : Option Addr} {acc : List (List Tok)} (h : ArgsIn B w a acc) {i : Nat} {xs : List Tok} (hi : acc[i]? = some xs) : ∃ G a' c', a = some ⟨G, 0, none⟩ ∧ G < B ∧ w.cell? ⟨G, i, none⟩ = some (.slice a' xs.length c') ∧ Toks w a' c' xs ∧ ∀ y, a' = some y → y.block < B := by
  rcases h.outer with h3 | ⟨G, ha, hG, hl⟩
  · rw [h3] at hi; simp at hi
  · obtain ⟨a', c', k1, k2, k3⟩ := hl i xs hi
    exact ⟨G, a', c', ha, hG, k1, k2, k3⟩
def opF (wants : List UInt8) : List (List Tok) → Nat → Itm → Except Int Itm
  | [], _, x => .ok x
  | arg :: r, place, x =>
    match stepF (atI (bs (str wants)) place) place arg x with
    | .error k => .error k
    | .ok x' => opF wants r (place + 1) x'
theorem exprF_err {arg : List Tok} {x : Itm} {k : Int} (h : exprF arg x = .error k) : k = 20 ∨ k = 21 := by
  unfold exprF at h
  cases hp : parseF arg with
  | error e => rw [hp] at h; cases h; exact parseF_err hp
  | ok y => rw [hp] at h; cases h
theorem stepF_err {wc : Int} {place : Nat} {arg : List Tok} {x : Itm} {k : Int} (h : stepF wc place arg x = .error k) : k = 20 ∨ k = 21 := by
  unfold stepF at h
  split at h
  · split at h
    · cases h; exact .inl rfl
    · cases h
  · split at h
    · split at h
      · cases h; rename_i hc; exact constF_err hc
      · split at h
        · cases h
        · cases h; exact .inr rfl
    · split at h
      · split at h
        · cases h; exact .inl rfl
        · split at h
          · exact exprF_err h
          · cases h; exact .inl rfl
      · exact exprF_err h
def wantC (c : Int) : Prop := c = 114 ∨ c = 122 ∨ c = 110 ∨ c = 61 ∨ c = 101
theorem readOne_any (b : Nat) (wants : List UInt8) (x : Itm) (va : Option Addr) (n vc : Nat) (place : Nat) (hwc : wantC (atI (bs (str wants)) place)) (hpl : place < wants.length) (hws : wants.length ≤ 3) (a : Option Addr) (c : Nat) (arg : List Tok) (w : World) (hT : Toks w a c arg) (h : OpB w b wants x va n vc) (hTab : Tab w) (hb2 : 4 ≤ b) :
    Calls Tryz.prog 271 #[.pointer (some ⟨b, 0, none⟩), .int .i64 (place : Int), .slice a arg.length c] w fun e w' => OneOut w b wants (stepF (atI (bs (str wants)) place) place arg x) e w' := by
  rcases hwc with hc | hc | hc | hc | hc
  · exact readOne_reg b wants x va n vc place _ rfl hpl (by omega) (by omega) a c arg w hT h (.inl hc)
  · exact readOne_reg b wants x va n vc place _ rfl hpl (by omega) (by omega) a c arg w hT h (.inr hc)
  · rw [hc]; exact readOne_const b wants x va n vc place hc hpl (by omega) a c arg w hT h hTab hb2
  · rw [hc]; exact readOne_lit b wants x va n vc place hc hpl (by omega) a c arg w hT h
  · rw [hc]; exact readOne_expr b wants x va n vc place hc hpl (by omega) a c arg w hT h
structure ORd (w : World) (b : Nat) (wants : List UInt8) (a : Option Addr) (args : List (List Tok)) (R0 : Except Int Itm) (i : Nat) (wr : World) : Prop where
  op : ∃ x va n vc, OpB wr b wants x va n vc ∧ R0 = opF wants (args.drop i) i x
  bel : Below b w wr
  ins : ArgsIn b wr a args
  tab : Tab wr
set_option maxHeartbeats 1000000 in
theorem opRead_any (b : Nat) (wants : List UInt8) (x : Itm) (va : Option Addr) (n vc : Nat) (hwc : ∀ i, i < wants.length → wantC (atI (bs (str wants)) i)) (hws : wants.length ≤ 3) (a : Option Addr) (c : Nat) (args : List (List Tok)) (hal : args.length = wants.length) (w : World) (hA : ArgsIn b w a args) (h : OpB w b wants x va n vc) (hTab : Tab w) (hb2 : 4 ≤ b) :
    Calls Tryz.prog 269 #[.pointer (some ⟨b, 0, none⟩), .slice a args.length c] w fun e w' => OneOut w b wants (opF wants args 0 x) e w' := by
  obtain ⟨R0, hR0⟩ : ∃ R0, R0 = opF wants args 0 x := ⟨_, rfl⟩
  have hst : Hid (ORd w b wants a args R0 0 w) := ⟨⟨x, va, n, vc, h, by rw [hR0]; rfl⟩, Below.refl _ _, hA, hTab⟩
  rw [← hR0]
  clear hR0 h hTab hA
  obtain ⟨n0, hn0⟩ : ∃ n0, n0 = args.length := ⟨_, rfl⟩
  rw [← hn0]
  have hn3 : n0 ≤ 3 := by omega
  replace hn0 := Hid.intro hn0
  replace hal := Hid.intro hal
  go_enter Tryz.func269, Tryz.ntmps269
  go_wp2
  go_loopw [10] (fun v10 wr => ∃ i : Nat, i ≤ n0 ∧ v10 = .int .i64 (i : Int) ∧ Hid (ORd w b wants a args R0 i wr)) (fun v10 wr => n0 - (intOf v10).toNat)
  case atStart => exact ⟨0, by omega, rfl, hst⟩
  case round =>
    clear hst
    obtain ⟨i, hi, rfl, hS⟩ := hrel
    by_cases hlt : i < n0
    · obtain ⟨arg, harg⟩ : ∃ arg, args[i]? = some arg := ⟨args[i]'(by rw [← hn0.out]; exact hlt), List.getElem?_eq_getElem _⟩
      obtain ⟨G, a', c', rfl, hG, hcell, hT, hy⟩ := hS.out.ins.at harg
      obtain ⟨y, vb, m, vd, hO, hR⟩ := hS.out.op
      have hlt2 : (i : Int) < (n0 : Int) := by omega
      have hone := readOne_any b wants y vb m vd i (hwc i (by have := hn0.out; have := hal.out; omega)) (by have := hn0.out; have := hal.out; omega) hws a' c' arg wr hT hO hS.out.tab hb2
      rw [drop_at args i arg harg, opF] at hR
      have hse := @stepF_err (atI (bs (str wants)) i) i arg y
      generalize stepF (atI (bs (str wants)) i) i arg y = R1 at hone hR hse
      generalize arg.length = ln at hone hcell
      cases R1 with
      | error k =>
        have hk0 : (k == 0) = false := by rcases hse rfl with rfl | rfl <;> rfl
        simp only at hR
        replace hR := Hid.intro hR
        clear hse harg hT hO
        simp only [OneOut, whyOf] at hone
        replace hone := Hid.intro hone
        go_wp2_with (go_at_call 271; (with_reducible refine (hone.out).mono ?_); rintro e w1 ⟨rfl, hb1, _⟩)
        all_goals first | omega | skip
        go_ret
        rw [hR.out]
        exact ⟨rfl, hS.out.bel.trans hb1, trivial⟩
      | ok y' =>
        simp only at hR
        replace hR := Hid.intro hR
        clear hse harg hT hO
        simp only [OneOut, whyOf] at hone
        replace hone := Hid.intro hone
        go_wp2_with (go_at_call 271; (with_reducible refine (hone.out).mono ?_); rintro e w1 ⟨rfl, hb1, hO1⟩)
        all_goals first | omega | skip
        go_roundw
        case rel =>
          obtain ⟨v1, n1, c1, hO1⟩ := hO1
          exact ⟨i + 1, by omega, by go_num, Hid.intro ⟨⟨y', v1, n1, c1, hO1, hR.out⟩, hS.out.bel.trans hb1, hS.out.ins.below hb1, hS.out.tab.below hb1 hb2⟩⟩
        case measure => simp [intOf]; omega
    · have hin : i = n0 := by omega
      have hdr : args.drop i = [] := List.drop_eq_nil_of_le (by rw [← hn0.out]; omega)
      have hfin : Hid (∃ x va n vc, OpB wr b wants x va n vc ∧ R0 = .ok x) := by
        obtain ⟨y, vb, m, vd, hO, hR⟩ := hS.out.op
        exact ⟨y, vb, m, vd, hO, by rw [hR, hdr]; rfl⟩
      clear hdr
      subst hin
      have hlt3 : ¬ ((i : Int) < (i : Int)) := by omega
      go_wp2
      all_goals first | omega | skip
      go_ret
      obtain ⟨y, vb, m, vd, hO, hR⟩ := hfin.out
      rw [hR]
      exact ⟨rfl, hS.out.bel, vb, m, vd, hO⟩
end Go.Proofs.YtogkchgjpflmjaaGreatDoor

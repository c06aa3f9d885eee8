/- Items that are owned, with their terms. -/
import Derived.Test.YtogkchgjpflmjaaGreatDoorIt5
/- item's readOne: a literal; all of an operation's arguments. -/
namespace Go.Proofs.YtogkchgjpflmjaaGreatDoor
open Go.ChangeShapes Go.WideShapes Go.ChangeAt Go.RowKit
set_option linter.unusedVariables false
set_option maxRecDepth 100000
theorem Toks.tail {w : World} {gt o c : Nat} {t : Tok} {r : List Tok} (h : Toks w (some ⟨gt, o, none⟩) c (t :: r)) : (c = 1 → r = [] ∧ Toks w (some ⟨gt, o, none⟩) 0 r) ∧ (c ≠ 1 → Toks w (some ⟨gt, o + 4, none⟩) (c - 1) r) := by
  have hc := h.cap
  have hm := h.most
  have hf := h.few
  simp only [List.length_cons] at hc hf
  have ho := h.old _ rfl
  simp only at ho
  refine ⟨fun h1 => ?_, fun h1 => ?_⟩
  · have hr : r = [] := by cases r with | nil => rfl | cons u r => simp at hc; omega
    subst hr
    exact ⟨rfl, .inl rfl, h.old, by simp, by omega, by simp, fun t ht => by cases ht⟩
  · obtain ⟨g, o', ha, hg, _, ht⟩ := h.lies.head
    cases ha
    exact ⟨tokFrom_tail hg ht, fun x hx => by cases hx; exact ho, by omega, by omega, by omega, fun u hu => h.short u (List.mem_cons_of_mem _ hu)⟩
set_option maxHeartbeats 2000000 in
theorem readOne_lit (b : Nat) (wants : List UInt8) (x : Itm) (va : Option Addr) (n vc : Nat) (place : Nat) (hwc : atI (bs (str wants)) place = 61) (hpl : place < wants.length) (hws : wants.length ≤ 10) (a : Option Addr) (c : Nat) (arg : List Tok) (w : World) (hT : Toks w a c arg) (h : OpB w b wants x va n vc) :
    Calls Tryz.prog 271 #[.pointer (some ⟨b, 0, none⟩), .int .i64 (place : Int), .slice a arg.length c] w fun e w' => OneOut w b wants (stepF 61 place arg x) e w' := by
  have c0 := (h.cell 0).trans rfl
  have hlen : (str wants).size = wants.length := rfl
  have hget := atI_get (str wants) place (by omega)
  rw [hwc] at hget
  have hlt := h.lt
  have hH := Hid.intro h
  clear h hwc
  cases arg with
  | nil =>
    have hF : stepF 61 place [] x = .error 20 := by unfold stepF; rw [if_neg (by omega), if_neg (by omega), if_pos rfl]
    rw [hF]
    clear hT hF
    show Calls Tryz.prog 271 #[.pointer (some ⟨b, 0, none⟩), .int .i64 (place : Int), .slice a 0 c] w _
    go_enter Tryz.func271, Tryz.ntmps271
    go_wp2
    all_goals first | omega | skip
    go_ret
    exact ⟨rfl, Below.refl _ _, trivial⟩
  | cons t r =>
    have hF : stepF 61 place (t :: r) x = if isS t 61 = true then exprF r x else .error 20 := by unfold stepF; rw [if_neg (by omega), if_neg (by omega), if_pos rfl]
    rw [hF]
    obtain ⟨gt, o, rfl, hg, ⟨q0, q1, q2, q3⟩, _⟩ := hT.lies.head
    have htl := hT.tail
    have hcap := hT.cap
    have hmost := hT.most
    have hfew := hT.few
    simp only [List.length_cons] at hcap hfew ⊢
    clear hT hF
    obtain ⟨n1, hn1⟩ : ∃ n1, n1 = r.length := ⟨_, rfl⟩
    rw [← hn1] at hcap hfew ⊢
    by_cases hk : t.kind = 3
    · rw [hk] at q0
      by_cases htx : t.text = [61]
      · rw [if_pos (by simp [isS, hk, htx])]
        rw [htx] at q1
        replace q1 : w.cell? ⟨gt, o + 1, none⟩ = some (.string ⟨#[61]⟩) := q1
        by_cases hc1 : c = 1
        · obtain ⟨hr, hT2⟩ := htl.1 hc1
          have hp := Hid.intro (parse_why (some ⟨gt, o, none⟩) 0 r x w hT2)
          rw [← hn1] at hp
          have hn0 : n1 = 0 := by rw [hn1, hr]; rfl
          subst hc1
          clear hn1 htl hT2 hr
          subst hn0
          generalize exprF r x = R at hp ⊢
          go_enter Tryz.func271, Tryz.ntmps271
          go_wp2_with (go_at_call 231; (with_reducible refine (hp.out).mono ?_); rintro e w1 ⟨hb1, y, vb, m, vd, rfl, ho, hx⟩; have hO1 := Hid.intro (hH.out.below hb1); have d8 := (hO1.out.cell 8).trans rfl; have d9 := (hO1.out.cell 9).trans rfl; have f8 := hO1.out.frozen 8; have f9 := hO1.out.frozen 9; have hE := Hid.intro (opb_expr hH.out hb1 y vb m vd ho))
          all_goals first | omega | skip
          go_ret
          refine ⟨rfl, hE.out.2, ?_⟩
          cases R with
          | error k => trivial
          | ok x' => rw [hx x' rfl]; exact ⟨_, _, _, hE.out.1⟩
        · have hT2 := htl.2 hc1
          have hp := Hid.intro (parse_why (some ⟨gt, o + 4, none⟩) (c - 1) r x w hT2)
          rw [← hn1] at hp
          clear hn1 htl hT2
          generalize exprF r x = R at hp ⊢
          have hc2 : 2 ≤ c := by omega
          go_enter Tryz.func271, Tryz.ntmps271
          go_wp2_with (go_at_call 231; (with_reducible refine (hp.out).mono ?_); rintro e w1 ⟨hb1, y, vb, m, vd, rfl, ho, hx⟩; have hO1 := Hid.intro (hH.out.below hb1); have d8 := (hO1.out.cell 8).trans rfl; have d9 := (hO1.out.cell 9).trans rfl; have f8 := hO1.out.frozen 8; have f9 := hO1.out.frozen 9; have hE := Hid.intro (opb_expr hH.out hb1 y vb m vd ho))
          all_goals first | omega | skip
          go_ret
          refine ⟨rfl, hE.out.2, ?_⟩
          cases R with
          | error k => trivial
          | ok x' => rw [hx x' rfl]; exact ⟨_, _, _, hE.out.1⟩
      · rw [if_neg (by simp [isS, htx])]
        have hny : ((str t.text).toList == [61]) = false := by rw [str_toList]; exact beq_false_of_ne htx
        have hnz : (t.text == [61]) = false := beq_false_of_ne htx
        clear hn1 htl
        go_enter Tryz.func271, Tryz.ntmps271
        go_wp2
        all_goals first | omega | skip
        go_ret
        exact ⟨rfl, Below.refl _ _, trivial⟩
    · rw [if_neg (by simp [isS, hk])]
      have hk' : (t.kind == 3) = false := by simp [hk]
      clear hn1 htl
      go_enter Tryz.func271, Tryz.ntmps271
      go_wp2
      all_goals first | omega | skip
      go_ret
      exact ⟨rfl, Below.refl _ _, trivial⟩
end Go.Proofs.YtogkchgjpflmjaaGreatDoor
/- item's reading of all of an operation's arguments. -/
namespace Go.Proofs.YtogkchgjpflmjaaGreatDoor
open Go.ChangeShapes Go.WideShapes Go.ChangeAt Go.RowKit
set_option linter.unusedVariables false
set_option maxRecDepth 100000
theorem Toks.low {w w' : World} {a : Option Addr} {c : Nat} {ts : List Tok} {B : Nat} (h : Toks w a c ts) (hy : ∀ y, a = some y → y.block < B) (hb : Below B w w') (hB : B ≤ w.heap.size) : Toks w' a c ts := by
  refine ⟨?_, fun x hx => by have := hy x hx; have := hb.size; omega, h.cap, h.most, h.few, h.short⟩
  rcases h.lies with h1 | ⟨g, o, ha, hg, hl⟩
  · exact .inl h1
  · have hgB := hy _ ha
    refine .inr ⟨g, o, ha, by have := hb.size; omega, fun i t hi => ?_⟩
    obtain ⟨k0, k1, k2, k3⟩ := hl i t hi
    exact ⟨(hb.cell (p := ⟨g, o + i * 4, none⟩) hgB).trans k0, (hb.cell (p := ⟨g, o + i * 4 + 1, none⟩) hgB).trans k1, (hb.cell (p := ⟨g, o + i * 4 + 2, none⟩) hgB).trans k2, (hb.cell (p := ⟨g, o + i * 4 + 3, none⟩) hgB).trans k3⟩
structure ArgsIn (B : Nat) (w : World) (a : Option Addr) (acc : List (List Tok)) : Prop where
  outer : acc = [] ∨ ∃ G, a = some ⟨G, 0, none⟩ ∧ G < B ∧ ∀ (i : Nat) (xs : List Tok), acc[i]? = some xs → ∃ a' c', w.cell? ⟨G, i, none⟩ = some (.slice a' xs.length c') ∧ Toks w a' c' xs ∧ ∀ y, a' = some y → y.block < B
  size : B ≤ w.heap.size
theorem ArgsIn.below {B : Nat} {w w' : World} {a : Option Addr} {acc : List (List Tok)} (h : ArgsIn B w a acc) (hb : Below B w w') : ArgsIn B w' a acc := by
  refine ⟨?_, Nat.le_trans h.size hb.size⟩
  rcases h.outer with h1 | ⟨G, ha, hG, hl⟩
  · exact .inl h1
  · refine .inr ⟨G, ha, hG, fun i xs hi => ?_⟩
    obtain ⟨a', c', k1, k2, k3⟩ := hl i xs hi
    exact ⟨a', c', (hb.cell (p := ⟨G, i, none⟩) hG).trans k1, k2.low k3 hb h.size, k3⟩
theorem ArgsIn.mono {B B' : Nat} {w : World} {a : Option Addr} {acc : List (List Tok)} (h : ArgsIn B w a acc) (h1 : B ≤ B') (h2 : B' ≤ w.heap.size) : ArgsIn B' w a acc := by
  refine ⟨?_, h2⟩
  rcases h.outer with h3 | ⟨G, ha, hG, hl⟩
  · exact .inl h3
  · refine .inr ⟨G, ha, by omega, fun i xs hi => ?_⟩
    obtain ⟨a', c', k1, k2, k3⟩ := hl i xs hi
    exact ⟨a', c', k1, k2, fun y hy => by have := k3 y hy; omega⟩
theorem ArgsIn.at {B : Nat} {w : World} {a : Option Addr} {acc : List (List Tok)} (h : ArgsIn B w a acc) {i : Nat} {xs : List Tok} (hi : acc[i]? = some xs) : ∃ G a' c', a = some ⟨G, 0, none⟩ ∧ G < B ∧ w.cell? ⟨G, i, none⟩ = some (.slice a' xs.length c') ∧ Toks w a' c' xs ∧ ∀ y, a' = some y → y.block < B := by
  rcases h.outer with h3 | ⟨G, ha, hG, hl⟩
  · rw [h3] at hi; simp at hi
  · obtain ⟨a', c', k1, k2, k3⟩ := hl i xs hi
    exact ⟨G, a', c', ha, hG, k1, k2, k3⟩
def opF (wants : List UInt8) : List (List Tok) → Nat → Itm → Except Int Itm
  | [], _, x => .ok x
  | arg :: r, place, x =>
    match stepF (atI (bs (str wants)) place) place arg x with
    | .error k => .error k
    | .ok x' => opF wants r (place + 1) x'
theorem exprF_err {arg : List Tok} {x : Itm} {k : Int} (h : exprF arg x = .error k) : k = 20 ∨ k = 21 := by
  unfold exprF at h
  cases hp : parseF arg with
  | error e => rw [hp] at h; cases h; exact parseF_err hp
  | ok y => rw [hp] at h; cases h
theorem stepF_err {wc : Int} {place : Nat} {arg : List Tok} {x : Itm} {k : Int} (h : stepF wc place arg x = .error k) : k = 20 ∨ k = 21 := by
  unfold stepF at h
  split at h
  · split at h
    · cases h; exact .inl rfl
    · cases h
  · split at h
    · split at h
      · cases h; rename_i hc; exact constF_err hc
      · split at h
        · cases h
        · cases h; exact .inr rfl
    · split at h
      · split at h
        · cases h; exact .inl rfl
        · split at h
          · exact exprF_err h
          · cases h; exact .inl rfl
      · exact exprF_err h
def wantC (c : Int) : Prop := c = 114 ∨ c = 122 ∨ c = 110 ∨ c = 61 ∨ c = 101
theorem readOne_any (b : Nat) (wants : List UInt8) (x : Itm) (va : Option Addr) (n vc : Nat) (place : Nat) (hwc : wantC (atI (bs (str wants)) place)) (hpl : place < wants.length) (hws : wants.length ≤ 3) (a : Option Addr) (c : Nat) (arg : List Tok) (w : World) (hT : Toks w a c arg) (h : OpB w b wants x va n vc) (hTab : Tab w) (hb2 : 4 ≤ b) :
    Calls Tryz.prog 271 #[.pointer (some ⟨b, 0, none⟩), .int .i64 (place : Int), .slice a arg.length c] w fun e w' => OneOut w b wants (stepF (atI (bs (str wants)) place) place arg x) e w' := by
  rcases hwc with hc | hc | hc | hc | hc
  · exact readOne_reg b wants x va n vc place _ rfl hpl (by omega) (by omega) a c arg w hT h (.inl hc)
  · exact readOne_reg b wants x va n vc place _ rfl hpl (by omega) (by omega) a c arg w hT h (.inr hc)
  · rw [hc]; exact readOne_const b wants x va n vc place hc hpl (by omega) a c arg w hT h hTab hb2
  · rw [hc]; exact readOne_lit b wants x va n vc place hc hpl (by omega) a c arg w hT h
  · rw [hc]; exact readOne_expr b wants x va n vc place hc hpl (by omega) a c arg w hT h
structure ORd (w : World) (b : Nat) (wants : List UInt8) (a : Option Addr) (args : List (List Tok)) (R0 : Except Int Itm) (i : Nat) (wr : World) : Prop where
  op : ∃ x va n vc, OpB wr b wants x va n vc ∧ R0 = opF wants (args.drop i) i x
  bel : Below b w wr
  ins : ArgsIn b wr a args
  tab : Tab wr
set_option maxHeartbeats 1000000 in
theorem opRead_any (b : Nat) (wants : List UInt8) (x : Itm) (va : Option Addr) (n vc : Nat) (hwc : ∀ i, i < wants.length → wantC (atI (bs (str wants)) i)) (hws : wants.length ≤ 3) (a : Option Addr) (c : Nat) (args : List (List Tok)) (hal : args.length = wants.length) (w : World) (hA : ArgsIn b w a args) (h : OpB w b wants x va n vc) (hTab : Tab w) (hb2 : 4 ≤ b) :
    Calls Tryz.prog 269 #[.pointer (some ⟨b, 0, none⟩), .slice a args.length c] w fun e w' => OneOut w b wants (opF wants args 0 x) e w' := by
  obtain ⟨R0, hR0⟩ : ∃ R0, R0 = opF wants args 0 x := ⟨_, rfl⟩
  have hst : Hid (ORd w b wants a args R0 0 w) := ⟨⟨x, va, n, vc, h, by rw [hR0]; rfl⟩, Below.refl _ _, hA, hTab⟩
  rw [← hR0]
  clear hR0 h hTab hA
  obtain ⟨n0, hn0⟩ : ∃ n0, n0 = args.length := ⟨_, rfl⟩
  rw [← hn0]
  have hn3 : n0 ≤ 3 := by omega
  replace hn0 := Hid.intro hn0
  replace hal := Hid.intro hal
  go_enter Tryz.func269, Tryz.ntmps269
  go_wp2
  go_loopw [10] (fun v10 wr => ∃ i : Nat, i ≤ n0 ∧ v10 = .int .i64 (i : Int) ∧ Hid (ORd w b wants a args R0 i wr)) (fun v10 wr => n0 - (intOf v10).toNat)
  case atStart => exact ⟨0, by omega, rfl, hst⟩
  case round =>
    clear hst
    obtain ⟨i, hi, rfl, hS⟩ := hrel
    by_cases hlt : i < n0
    · obtain ⟨arg, harg⟩ : ∃ arg, args[i]? = some arg := ⟨args[i]'(by rw [← hn0.out]; exact hlt), List.getElem?_eq_getElem _⟩
      obtain ⟨G, a', c', rfl, hG, hcell, hT, hy⟩ := hS.out.ins.at harg
      obtain ⟨y, vb, m, vd, hO, hR⟩ := hS.out.op
      have hlt2 : (i : Int) < (n0 : Int) := by omega
      have hone := readOne_any b wants y vb m vd i (hwc i (by have := hn0.out; have := hal.out; omega)) (by have := hn0.out; have := hal.out; omega) hws a' c' arg wr hT hO hS.out.tab hb2
      rw [drop_at args i arg harg, opF] at hR
      have hse := @stepF_err (atI (bs (str wants)) i) i arg y
      generalize stepF (atI (bs (str wants)) i) i arg y = R1 at hone hR hse
      generalize arg.length = ln at hone hcell
      cases R1 with
      | error k =>
        have hk0 : (k == 0) = false := by rcases hse rfl with rfl | rfl <;> rfl
        simp only at hR
        replace hR := Hid.intro hR
        clear hse harg hT hO
        simp only [OneOut, whyOf] at hone
        replace hone := Hid.intro hone
        go_wp2_with (go_at_call 271; (with_reducible refine (hone.out).mono ?_); rintro e w1 ⟨rfl, hb1, _⟩)
        all_goals first | omega | skip
        go_ret
        rw [hR.out]
        exact ⟨rfl, hS.out.bel.trans hb1, trivial⟩
      | ok y' =>
        simp only at hR
        replace hR := Hid.intro hR
        clear hse harg hT hO
        simp only [OneOut, whyOf] at hone
        replace hone := Hid.intro hone
        go_wp2_with (go_at_call 271; (with_reducible refine (hone.out).mono ?_); rintro e w1 ⟨rfl, hb1, hO1⟩)
        all_goals first | omega | skip
        go_roundw
        case rel =>
          obtain ⟨v1, n1, c1, hO1⟩ := hO1
          exact ⟨i + 1, by omega, by go_num, Hid.intro ⟨⟨y', v1, n1, c1, hO1, hR.out⟩, hS.out.bel.trans hb1, hS.out.ins.below hb1, hS.out.tab.below hb1 hb2⟩⟩
        case measure => simp [intOf]; omega
    · have hin : i = n0 := by omega
      have hdr : args.drop i = [] := List.drop_eq_nil_of_le (by rw [← hn0.out]; omega)
      have hfin : Hid (∃ x va n vc, OpB wr b wants x va n vc ∧ R0 = .ok x) := by
        obtain ⟨y, vb, m, vd, hO, hR⟩ := hS.out.op
        exact ⟨y, vb, m, vd, hO, by rw [hR, hdr]; rfl⟩
      clear hdr
      subst hin
      have hlt3 : ¬ ((i : Int) < (i : Int)) := by omega
      go_wp2
      all_goals first | omega | skip
      go_ret
      obtain ⟨y, vb, m, vd, hO, hR⟩ := hfin.out
      rw [hR]
      exact ⟨rfl, hS.out.bel, vb, m, vd, hO⟩
end Go.Proofs.YtogkchgjpflmjaaGreatDoor
/- item's readerOf, said, Read of an operation's line. -/
namespace Go.Proofs.YtogkchgjpflmjaaGreatDoor
open Go.ChangeShapes Go.WideShapes Go.ChangeAt Go.RowKit
set_option linter.unusedVariables false
set_option maxRecDepth 100000
def dirs : List (List UInt8) := [[97, 108, 105, 103, 110], [112, 111, 111, 108], [98, 121, 116, 101], [119, 111, 114, 100], [115, 112, 97, 99, 101], [101, 113, 117], [103, 108, 111, 98, 97, 108], [115, 101, 99, 116, 105, 111, 110]]
def opItm (n : Int) : Itm := { itmE with kind := 2, op := n }
theorem dirs_ne {s : List UInt8} (h : s ∉ dirs) : ((str s).toList == [97, 108, 105, 103, 110]) = false ∧ ((str s).toList == [112, 111, 111, 108]) = false ∧ ((str s).toList == [98, 121, 116, 101]) = false ∧ ((str s).toList == [119, 111, 114, 100]) = false ∧ ((str s).toList == [115, 112, 97, 99, 101]) = false ∧ ((str s).toList == [101, 113, 117]) = false ∧ ((str s).toList == [103, 108, 111, 98, 97, 108]) = false ∧ ((str s).toList == [115, 101, 99, 116, 105, 111, 110]) = false := by
  rw [str_toList]
  simp only [dirs, List.mem_cons, List.not_mem_nil, or_false, not_or] at h
  obtain ⟨h1, h2, h3, h4, h5, h6, h7, h8⟩ := h
  exact ⟨beq_false_of_ne h1, beq_false_of_ne h2, beq_false_of_ne h3, beq_false_of_ne h4, beq_false_of_ne h5, beq_false_of_ne h6, beq_false_of_ne h7, beq_false_of_ne h8⟩
theorem wants_len (s : Int) : (wantsF s).length ≤ 3 := by
  unfold wantsF
  (repeat' split) <;> simp
theorem readerOf_op (s : List UInt8) (hd : s ∉ dirs) (hf : 1 ≤ findN s) (hf2 : findN s ≤ 43) (w : World) (hT : Tab w) :
    Calls Tryz.prog 105 #[.string (str s)] w fun e w' => Below w.heap.size w w' ∧ ∃ b, w.heap.size ≤ b ∧ e = .returned (.tuple #[.iface 242 (.pointer (some ⟨b, 0, none⟩)), .int .i64 (wantsF (shapeN (findN s))).length, .int .i64 (wantsF (shapeN (findN s))).length]) ∧ OpB w' b (wantsF (shapeN (findN s))) (opItm (findN s)) none 0 0 := by
  obtain ⟨d1, d2, d3, d4, d5, d6, d7, d8⟩ := dirs_ne hd
  have hfind := find_any (str s) w hT
  have hnm : nm (str s) = s := by simp [nm, str]
  rw [hnm] at hfind
  generalize findN s = N at hf hf2 hfind ⊢
  rw [show decide (N > 0) = true from by simp; omega] at hfind
  replace hfind := Hid.intro hfind
  have hat := at_parts N w hT
  rw [show decide (1 ≤ N ∧ N ≤ 43) = true from by simp; omega] at hat
  replace hat := Hid.intro hat
  have hwant := Hid.intro (fun w1 => wanted_any (shapeN N) w1)
  have hwl := wants_len (shapeN N)
  generalize wantsF (shapeN N) = W at hwant hwl ⊢
  generalize shapeN N = S at hat hwant
  have hsz : (str W).size = W.length := rfl
  clear hnm hT
  go_enter Tryz.func105, Tryz.ntmps105
  go_wp2_with (first | (go_at_call 132; (with_reducible refine (hfind.out).mono ?_); rintro e w1 ⟨rfl, rfl⟩) | (go_at_call 95; (with_reducible refine (hat.out).mono ?_); rintro e w2 ⟨⟨s2, b2, rfl⟩, hb2⟩) | (go_at_call 133; (with_reducible refine (hwant.out _).mono ?_); rintro e w3 ⟨rfl, rfl⟩))
  all_goals first | omega | skip
  go_ret3
  have hs1 : (w2.alloc (Obj.cells #[Value.string (istr s2), Value.int IntKind.u8 b2, Value.int IntKind.i64 S] 166)).heap.size = w2.heap.size + 1 := by simp
  have hs2 := hb2.size
  refine ⟨(hb2.alloc (by omega) _).alloc (by omega) _, w2.heap.size + 1, by omega, rfl, ⟨?_, ⟨by simp [opItm, itmE, linE, rowT], .inl ⟨rfl, rfl⟩⟩⟩⟩
  rw [← hs1]
  exact heap_alloc_new _ _
structure ItAt (w : World) (g o : Nat) (x : Itm) (va : Option Addr) (n vc : Nat) : Prop where
  kind : w.cell? ⟨g, o, none⟩ = some (.int .i64 x.kind)
  name : w.cell? ⟨g, o + 1, none⟩ = some (.string (str x.name))
  op : w.cell? ⟨g, o + 2, none⟩ = some (.int .i64 x.op)
  a : w.cell? ⟨g, o + 3, none⟩ = some (.int .i64 x.a)
  b : w.cell? ⟨g, o + 4, none⟩ = some (.int .i64 x.b)
  m : w.cell? ⟨g, o + 5, none⟩ = some (.int .i32 x.m)
  form : w.cell? ⟨g, o + 6, none⟩ = some (.int .i64 x.form)
  terms : w.cell? ⟨g, o + 7, none⟩ = some (.slice va n vc)
  const : w.cell? ⟨g, o + 8, none⟩ = some (.int .u32 x.e.const)
  n : w.cell? ⟨g, o + 9, none⟩ = some (.int .i64 x.n)
abbrev itmCells (x : Itm) (v : Value) : Array Value := #[.int .i64 x.kind, .string (str x.name), .int .i64 x.op, .int .i64 x.a, .int .i64 x.b, .int .i32 x.m, .int .i64 x.form, v, .int .u32 x.e.const, .int .i64 x.n]
abbrev thgV (k : Int) (vi : Value) (nm : List UInt8) (ve : Value) (c sec : Int) : Value := .agg #[.int .i64 k, vi, .string (str nm), ve, .int .u32 c, .int .i64 sec]
theorem assert_op (a : Addr) (w : World) : (Instr.typeAssert (.iface 242 (.pointer (some a))) 192 242 true).run Tryz.prog w = .ok (.tuple #[.pointer (some a), .bool true]) w := by kernel_rfl
theorem said_op (b : Nat) (wants : List UInt8) (x : Itm) (va : Option Addr) (n vc : Nat) (w : World) (h : OpB w b wants x va n vc) :
    Calls Tryz.prog 106 #[.iface 242 (.pointer (some ⟨b, 0, none⟩))] w fun e w' => Below w.heap.size w w' ∧ ∃ q, w.heap.size < q ∧ e = .returned (thgV 1 (.slice (some ⟨q, 0, none⟩) 1 1) [] (.slice none 0 0) 0 0) ∧ w'.heap[q]? = some (.cells (itmCells x (.slice va n vc)) 91 (0, 0)) := by
  have hc := fun j => h.cell j
  have c1 := (hc 1).trans rfl
  have c2 := (hc 2).trans rfl
  have c3 := (hc 3).trans rfl
  have c4 := (hc 4).trans rfl
  have c5 := (hc 5).trans rfl
  have c6 := (hc 6).trans rfl
  have c7 := (hc 7).trans rfl
  have c8 := (hc 8).trans rfl
  have c9 := (hc 9).trans rfl
  have c10 := (hc 10).trans rfl
  have hlt := h.lt
  clear hc h
  have hta := fun a w => assert_op a w
  go_enter Tryz.func106, Tryz.ntmps106
  go_wp2
  all_goals first | omega | skip
  have hB : Below w.heap.size w ((w.alloc (.cells #[.int .i64 1, .slice (some ⟨w.heap.size + 1, 0, none⟩) 1 1, .string ⟨#[]⟩, .slice none 0 0, .int .u32 0, .int .i64 0] 137)).alloc (.cells (itmCells x (.slice va n vc)) 91)) := (below_alloc w _).alloc (by simp) _
  have hs1 : (w.alloc (.cells #[.int .i64 1, .slice (some ⟨w.heap.size + 1, 0, none⟩) 1 1, .string ⟨#[]⟩, .slice none 0 0, .int .u32 0, .int .i64 0] 137)).heap.size = w.heap.size + 1 := by simp
  have hq := heap_alloc_new (w.alloc (.cells #[.int .i64 1, .slice (some ⟨w.heap.size + 1, 0, none⟩) 1 1, .string ⟨#[]⟩, .slice none 0 0, .int .u32 0, .int .i64 0] 137)) (.cells (itmCells x (.slice va n vc)) 91)
  rw [hs1] at hq
  have hr : ((w.alloc (.cells #[.int .i64 1, .slice (some ⟨w.heap.size + 1, 0, none⟩) 1 1, .string ⟨#[]⟩, .slice none 0 0, .int .u32 0, .int .i64 0] 137)).alloc (.cells (itmCells x (.slice va n vc)) 91)).heap[w.heap.size]? = some (.cells #[.int .i64 1, .slice (some ⟨w.heap.size + 1, 0, none⟩) 1 1, .string ⟨#[]⟩, .slice none 0 0, .int .u32 0, .int .i64 0] 137 (0, 0)) := by
    rw [Below.heap_alloc _ _ _ (by omega)]
    exact heap_alloc_new w _
  generalize ((w.alloc (.cells #[.int .i64 1, .slice (some ⟨w.heap.size + 1, 0, none⟩) 1 1, .string ⟨#[]⟩, .slice none 0 0, .int .u32 0, .int .i64 0] 137)).alloc (.cells (itmCells x (.slice va n vc)) 91)) = w9 at hB hq hr ⊢
  have k0 := (cell_blockT hr 0).trans rfl
  have k1 := (cell_blockT hr 1).trans rfl
  have k2 := (cell_blockT hr 2).trans rfl
  have k3 := (cell_blockT hr 3).trans rfl
  have k4 := (cell_blockT hr 4).trans rfl
  have k5 := (cell_blockT hr 5).trans rfl
  refine bodyPost_ret (by simp [results, Tryz.results106, go_sem, k0, k1, k2, k3, k4, k5]; try rfl) rfl ?_
  exact ⟨hB, w.heap.size + 1, by omega, rfl, hq⟩
end Go.Proofs.YtogkchgjpflmjaaGreatDoor
namespace Go.Proofs.YtogkchgjpflmjaaGreatDoor
open Go.ChangeShapes Go.WideShapes Go.ChangeAt Go.RowKit
set_option linter.unusedVariables false
set_option maxRecDepth 100000
theorem own_keptB {w w' : World} {B : Nat} {e : TypeId} {size : Nat} {v : Value} {n : Nat} {xs : List Value} (h : w.ownsRow B e size v n xs) (hb : Below w.heap.size w w') : w'.ownsRow B e size v n xs :=
  h.kept (grown_of_below hb) (by cases v.ownBlock <;> simp)
def rowI (p : List (Itm × Value)) : List Value := p.flatMap fun q => (itmCells q.1 q.2).toList
theorem rowI_push (p : List (Itm × Value)) (q : Itm × Value) : rowI (p ++ [q]) = rowI p ++ (itmCells q.1 q.2).toList := by simp [rowI]
theorem rowI_length (p : List (Itm × Value)) : (rowI p).length = p.length * 10 := by
  induction p with
  | nil => rfl
  | cons q p ih => simp [rowI] at ih ⊢; omega
structure ItOwn (lo : Nat) (w : World) (v : Value) (p : List (Itm × Value)) : Prop where
  row : w.ownsRow lo 91 10 v p.length (rowI p)
  each : ∀ q ∈ p, w.ownsRow lo 123 2 q.2 q.1.e.terms.length (rowT q.1.e.terms)
theorem ItOwn.start (lo : Nat) (w : World) : ItOwn lo w (.slice none 0 0) [] := ⟨World.ownsRow_nil _ _ _ _, fun q h => by cases h⟩
theorem ItOwn.low {lo k : Nat} {w w' : World} {v : Value} {p : List (Itm × Value)} (h : ItOwn lo w v p) (hg : w.grownBy w' (some k)) (hk : k < lo) : ItOwn lo w' v p :=
  ⟨own_low h.row hg hk, fun q hq => own_low (h.each q hq) hg hk⟩
theorem ItOwn.below {lo : Nat} {w w' : World} {v : Value} {p : List (Itm × Value)} (h : ItOwn lo w v p) (hb : Below w.heap.size w w') : ItOwn lo w' v p :=
  ⟨own_keptB h.row hb, fun q hq => own_keptB (h.each q hq) hb⟩
theorem ItOwn.weaken {lo B : Nat} {w : World} {v : Value} {p : List (Itm × Value)} (h : ItOwn lo w v p) (hB : B ≤ lo) : ItOwn B w v p := ⟨own_weaken h.row hB, fun q hq => own_weaken (h.each q hq) hB⟩
def ThO (lo : Nat) (w : World) (vi : Value) (l : List Itm) (vt : Value) (ts : List Tm) : Prop := ∃ p : List (Itm × Value), l = p.map (·.1) ∧ ItOwn lo w vi p ∧ w.ownsRow lo 123 2 vt ts.length (rowT ts)
theorem ThO.below {lo : Nat} {w w' : World} {vi : Value} {l : List Itm} {vt : Value} {ts : List Tm} (h : ThO lo w vi l vt ts) (hb : Below w.heap.size w w') : ThO lo w' vi l vt ts := by
  obtain ⟨p, h1, h2, h3⟩ := h
  exact ⟨p, h1, h2.below hb, own_keptB h3 hb⟩
theorem ThO.low {lo k : Nat} {w w' : World} {vi : Value} {l : List Itm} {vt : Value} {ts : List Tm} (h : ThO lo w vi l vt ts) (hg : w.grownBy w' (some k)) (hk : k < lo) : ThO lo w' vi l vt ts := by
  obtain ⟨p, h1, h2, h3⟩ := h
  exact ⟨p, h1, h2.low hg hk, own_low h3 hg hk⟩
theorem ThO.weaken {lo B : Nat} {w : World} {vi : Value} {l : List Itm} {vt : Value} {ts : List Tm} (h : ThO lo w vi l vt ts) (hB : B ≤ lo) : ThO B w vi l vt ts := by
  obtain ⟨p, h1, h2, h3⟩ := h
  exact ⟨p, h1, h2.weaken hB, own_weaken h3 hB⟩
theorem ThO.none (lo : Nat) (w : World) : ThO lo w (.slice none 0 0) [] (.slice none 0 0) [] := ⟨[], rfl, ItOwn.start _ _, World.ownsRow_nil _ _ _ _⟩
theorem ItOwn.one {lo q : Nat} {w : World} {x : Itm} {v : Value} (h : w.heap[q]? = some (.cells (itmCells x v) 91 (0, 0))) (hq : lo ≤ q) (ho : w.ownsRow lo 123 2 v x.e.terms.length (rowT x.e.terms)) : ItOwn lo w (.slice (some ⟨q, 0, Option.none⟩) 1 1) [(x, v)] := by
  refine ⟨⟨by simp [rowI], .inr ⟨q, 1, itmCells x v, rfl, hq, h, Nat.le_refl _, by unfold maxLen; omega, rfl, by simp [rowI]⟩⟩, fun y hy => ?_⟩
  rw [List.mem_singleton] at hy
  subst hy
  exact ho
theorem ThO.one {lo q : Nat} {w : World} {x : Itm} {v : Value} (h : w.heap[q]? = some (.cells (itmCells x v) 91 (0, 0))) (hq : lo ≤ q) (ho : w.ownsRow lo 123 2 v x.e.terms.length (rowT x.e.terms)) : ThO lo w (.slice (some ⟨q, 0, Option.none⟩) 1 1) [x] (.slice Option.none 0 0) [] :=
  ⟨[(x, v)], rfl, ItOwn.one h hq ho, World.ownsRow_nil _ _ _ _⟩
def ThOwn (lo : Nat) (w' : World) (R : Except Int Thg) (e : Ending) : Prop :=
  match R with
  | .error k => e = .returned (.tuple #[thgV 0 (.slice none 0 0) [] (.slice none 0 0) 0 0, .int .i64 k])
  | .ok t => ∃ vi va n vc, e = .returned (.tuple #[thgV t.kind vi t.name (.slice va n vc) t.e.const t.sec, .int .i64 0]) ∧ ThO lo w' vi t.items (.slice va n vc) t.e.terms
end Go.Proofs.YtogkchgjpflmjaaGreatDoor

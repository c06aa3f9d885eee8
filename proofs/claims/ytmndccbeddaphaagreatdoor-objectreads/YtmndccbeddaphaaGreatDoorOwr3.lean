/- object's writer: code, an item, lists of items, equs, globals. -/
import Derived.Test.YtmndccbeddaphaaGreatDoorOwr1
import Derived.Test.YtmndccbeddaphaaGreatDoorOrd9
import Derived.Test.YtmndccbeddaphaaGreatDoorOrd14
/- object's writer: isFull, term, a list of terms, lin. -/
namespace Go.Proofs.YtmndccbeddaphaaGreatDoor
open Go.ChangeShapes Go.WideShapes Go.ChangeAt Go.RowKit Go.Sort
set_option linter.unusedVariables false
set_option linter.unusedSimpArgs false
set_option maxRecDepth 100000
def sTx (s : List UInt8) : List Int := O.putT [] (str s)
def sTm (t : Tm) : List Int := sTx t.name ++ O.leB t.coef 4
def sTms (l : List Tm) : List Int := O.leB ((l.length : Int) % 4294967296) 2 ++ l.flatMap sTm
def sLin (x : Lin) : List Int := sTms x.terms ++ O.leB x.const 4
def okW (t : Tm) : Prop := t.name.length ≤ 32 ∧ 0 ≤ t.coef ∧ t.coef ≤ 4294967295
section
variable {w w' w0 : World} {r : Nat} {acc zs : List Int} {k : Nat} {a : Option Addr} {c : Nat}
theorem isFull_is (h : WS w r acc k a c zs) (hk : k ≤ 100000) : Calls Tryz.prog 30 #[.pointer (some ⟨r, 0, none⟩)] w fun e w' => e = .returned (.bool (decide (1048576 < zs.length))) ∧ w' = w := by
  have c0 := one_read h.blk
  have hfew := h.few
  obtain ⟨nz, hnz⟩ : ∃ nz, nz = zs.length := ⟨_, rfl⟩
  rw [← hnz] at c0 hfew ⊢
  clear h hnz
  go_enter Tryz.func30, Tryz.ntmps30
  go_wp2
  all_goals first | omega | skip
  go_ret
  refine ⟨?_, rfl⟩
  by_cases hq : 1048576 < nz
  · simp [hq]; omega
  · simp [hq]; omega
set_option maxHeartbeats 4000000 in
theorem wterm_is (h : WX w r acc k) (hk : k ≤ 50000) (t : Tm) (ht : okW t) : Calls Tryz.prog 136 #[.pointer (some ⟨r, 0, none⟩), .agg #[.string (str t.name), .int .u32 t.coef]] w fun e w' => e = .returned (.tuple #[]) ∧ WG w w' r ∧ WX w' r (acc ++ sTm t) (k + 44) := by
  have hb := below_alloc w (.cells #[.string (str t.name), .int .u32 t.coef] 107)
  have hr := h.lt
  have e1 := heap_alloc_new w (.cells #[.string (str t.name), .int .u32 t.coef] 107)
  have h73 := Hid.intro (wtext_is (h.below hb) (by omega) (str t.name) 40 (by rw [str_size]; have := ht.1; omega) (by omega))
  have h109 : Hid (∀ w1, WG (w.alloc (.cells #[.string (str t.name), .int .u32 t.coef] 107)) w1 r → WX w1 r (acc ++ O.putT [] (str t.name)) (k + 40) → Calls Tryz.prog 109 #[.pointer (some ⟨r, 0, none⟩), .int .u32 t.coef, .int .i64 4] w1 fun e w' => e = .returned (.tuple #[]) ∧ WG w w' r ∧ WX w' r (acc ++ sTm t) (k + 44)) := fun w1 g1 x1 => by
    refine (wnum_is x1 (by omega) t.coef ht.2 4 (.inr (.inr rfl))).mono ?_
    rintro e w2 ⟨rfl, g2, x2⟩
    refine ⟨rfl, ((WG.of_below hb hr).trans g1).trans g2, ?_⟩
    rw [List.append_assoc] at x2
    exact x2
  have hcell : Hid (∀ w1, WG (w.alloc (.cells #[.string (str t.name), .int .u32 t.coef] 107)) w1 r → w1.cell? ⟨w.heap.size, 1, none⟩ = some (.int .u32 t.coef)) := fun w1 g1 => (two_readR (g1.blk e1 (by omega) (by decide))).2
  generalize str t.name = S at *
  generalize t.coef = C at *
  clear h hb hr e1
  go_enter Tryz.func136, Tryz.ntmps136
  go_wp2_with (first
    | (go_at_call 73; (with_reducible refine (h73.out).mono ?_); rintro e w1 ⟨rfl, g1, x1⟩; have d1 := hcell.out w1 g1; replace g1 := Hid.intro g1; replace x1 := Hid.intro x1)
    | (go_at_call 109; (with_reducible refine (h109.out w1 g1.out x1.out).mono ?_); rintro e w2 ⟨rfl, g2, x2⟩; replace g2 := Hid.intro g2; replace x2 := Hid.intro x2))
  all_goals first | omega | skip
  go_end0
  exact ⟨rfl, g2.out, x2.out⟩
theorem WS.full (h : WS w r acc k a c zs) (hz : 1048576 < zs.length) (ys : List Int) : WX w r (acc ++ ys) k := ⟨a, c, zs, h.blk, h.own, h.bytes, h.rel.long hz ys, h.few⟩
theorem WS.room (h : WS w r acc k a c zs) (hz : ¬ 1048576 < zs.length) : WX w r acc 0 := ⟨a, c, zs, h.blk, h.own, h.bytes, h.rel, by omega⟩
theorem flat_take {α : Type} (f : α → List Int) (l : List α) (i : Nat) (x : α) (hx : l[i]? = some x) : (l.take (i + 1)).flatMap f = (l.take i).flatMap f ++ f x := by
  rw [List.take_add_one, hx]
  simp
theorem flat_rest {α : Type} (f : α → List Int) (l : List α) (i : Nat) : (l.take i).flatMap f ++ (l.drop i).flatMap f = l.flatMap f := by
  rw [← List.flatMap_append, List.take_append_drop]
structure WL {α : Type} (w : World) (r : Nat) (acc : List Int) (k : Nat) (f : α → List Int) (l : List α) (i : Nat) (wr : World) : Prop where
  g : WG w wr r
  x : WX wr r (acc ++ (O.leB ((l.length : Int) % 4294967296) 2 ++ (l.take i).flatMap f)) k
theorem WL.next {α : Type} {f : α → List Int} {l : List α} {i : Nat} {wr w2 w3 : World} (h : WL w r acc k f l i wr) (hb : Below wr.heap.size wr w2) {x : α} (hx : l[i]? = some x) {k' : Nat} (hk : k' ≤ k) (hg : WG w2 w3 r) (hX : WX w3 r (acc ++ (O.leB ((l.length : Int) % 4294967296) 2 ++ (l.take i).flatMap f) ++ f x) k') : WL w r acc k f l (i + 1) w3 := by
  refine ⟨(h.g.trans (WG.of_below hb h.x.lt)).trans hg, ?_⟩
  rw [flat_take f l i x hx, ← List.append_assoc (O.leB _ _), ← List.append_assoc acc]
  exact hX.more hk
theorem WL.end {α : Type} {f : α → List Int} {l : List α} {wr : World} (h : WL w r acc k f l l.length wr) : WX wr r (acc ++ (O.leB ((l.length : Int) % 4294967296) 2 ++ l.flatMap f)) k := by
  have := h.x
  rw [List.take_length] at this
  exact this
theorem WL.full {α : Type} {f : α → List Int} {l : List α} {i : Nat} {w2 : World} (hS : WS w2 r (acc ++ (O.leB ((l.length : Int) % 4294967296) 2 ++ (l.take i).flatMap f)) k a c zs) (hz : 1048576 < zs.length) : WX w2 r (acc ++ (O.leB ((l.length : Int) % 4294967296) 2 ++ l.flatMap f)) k := by
  have := hS.full hz ((l.drop i).flatMap f)
  rw [List.append_assoc, List.append_assoc, flat_rest] at this
  exact this
set_option maxHeartbeats 8000000 in
theorem wterms_is (h : WX w r acc k) (hk : k ≤ 40000) (hr : w0.heap.size ≤ r) (hB : Below w0.heap.size w0 w) (l : List Tm) (hl : l.length ≤ 9000000) (hok : ∀ x ∈ l, okW x) (hI : TmLies w0 a l) : Calls Tryz.prog 135 #[.pointer (some ⟨r, 0, none⟩), .slice a l.length c, .func (.func 136) #[.pointer (some ⟨r, 0, none⟩)] #[]] w fun e w' => e = .returned (.tuple #[]) ∧ WG w w' r ∧ WX w' r (acc ++ (O.leB ((l.length : Int) % 4294967296) 2 ++ l.flatMap sTm)) (k + 200) := by
  have h109 : Hid (Calls Tryz.prog 109 #[.pointer (some ⟨r, 0, none⟩), .int .u32 ((l.length : Int) % 4294967296), .int .i64 2] w fun e w' => e = .returned (.tuple #[]) ∧ WL w r acc (k + 200) sTm l 0 w') := by
    refine (wnum_is h (by omega) ((l.length : Int) % 4294967296) (by omega) 2 (.inr (.inl rfl))).mono ?_
    rintro e w1 ⟨rfl, g1, x1⟩
    exact ⟨rfl, g1, by simpa using x1.more (by omega)⟩
  have hget : Hid (∀ wr i x, WL w r acc (k + 200) sTm l i wr → l[i]? = some x → ∃ g o, a = some ⟨g, o, none⟩ ∧ wr.cell? ⟨g, o + i * 2, none⟩ = some (.string (str x.name)) ∧ wr.cell? ⟨g, o + i * 2 + 1, none⟩ = some (.int .u32 x.coef)) := fun wr i x hL hx => by
    have hb := hB.trans (hL.g.below.mono hr)
    rcases hI with rfl | ⟨g, o, ha, hg, hI⟩
    · cases hx
    · have := (hI i x hx).below hb hg
      exact ⟨g, o, ha, this.name, this.coef⟩
  have hone : Hid (∀ wr i x, WL w r acc (k + 200) sTm l i wr → l[i]? = some x → WX (wr.alloc (.cells #[.string (str x.name), .int .u32 x.coef] 107)) r (acc ++ (O.leB ((l.length : Int) % 4294967296) 2 ++ (l.take i).flatMap sTm)) 0 → Calls Tryz.prog 136 #[.pointer (some ⟨r, 0, none⟩), .agg #[.string (str x.name), .int .u32 x.coef]] (wr.alloc (.cells #[.string (str x.name), .int .u32 x.coef] 107)) fun e w' => e = .returned (.tuple #[]) ∧ WL w r acc (k + 200) sTm l (i + 1) w') := fun wr i x hL hx hX => by
    have ht := hok x (List.mem_of_getElem? hx)
    refine (wterm_is hX (by omega) x ht).mono ?_
    rintro e w1 ⟨rfl, g1, x1⟩
    exact ⟨rfl, hL.next (below_alloc wr _) hx (by omega) g1 x1⟩
  have hfull : Hid (∀ wr i (x : Tm) az cz zs, WL w r acc (k + 200) sTm l i wr → WS (wr.alloc (.cells #[.string (str x.name), .int .u32 x.coef] 107)) r (acc ++ (O.leB ((l.length : Int) % 4294967296) 2 ++ (l.take i).flatMap sTm)) (k + 200) az cz zs → 1048576 < zs.length → WG w (wr.alloc (.cells #[.string (str x.name), .int .u32 x.coef] 107)) r ∧ WX (wr.alloc (.cells #[.string (str x.name), .int .u32 x.coef] 107)) r (acc ++ (O.leB ((l.length : Int) % 4294967296) 2 ++ l.flatMap sTm)) (k + 200)) := fun wr i x az cz zs hL hS hz => ⟨hL.g.trans (WG.of_below (below_alloc wr _) hL.x.lt), WL.full hS hz⟩
  have hend : Hid (∀ wr, WL w r acc (k + 200) sTm l l.length wr → WG w wr r ∧ WX wr r (acc ++ (O.leB ((l.length : Int) % 4294967296) 2 ++ l.flatMap sTm)) (k + 200)) := fun wr hL => ⟨hL.g, hL.end⟩
  have hsome : Hid (∀ i, i < l.length → ∃ x, l[i]? = some x) := fun i hi => ⟨_, List.getElem?_eq_getElem hi⟩
  obtain ⟨n0, hn0⟩ : ∃ n0, n0 = l.length := ⟨_, rfl⟩
  have hmod : Hid ((n0 : Int) % 4294967296 = n0) := by show _ = _; omega
  rw [← hn0] at h109 hend hl hsome ⊢
  rw [hmod.out] at h109
  replace hn0 := Hid.intro hn0
  clear h hB hI hok hmod hr
  go_enter Tryz.func135, Tryz.ntmps135
  go_wp2_with (go_at_call 109; (with_reducible refine (h109.out).mono ?_); rintro e w1 ⟨rfl, hL1⟩; replace hL1 := Hid.intro hL1)
  all_goals first | omega | skip
  clear h109
  go_loopw [15] (fun v15 wr => ∃ (i : Nat), i ≤ n0 ∧ v15 = .int .i64 (i : Int) ∧ Hid (WL w r acc (k + 200) sTm l i wr)) (fun v15 _ => n0 - (intOf v15).toNat)
  case atStart => exact ⟨0, by omega, rfl, hL1⟩
  case round =>
    obtain ⟨i, hi, rfl, hL⟩ := hrel
    clear hL1
    by_cases hin : i < n0
    · obtain ⟨x, hx⟩ := hsome.out i hin
      replace hx := Hid.intro hx
      obtain ⟨g, o, ha, d0, d1⟩ := hget.out wr i x hL.out hx.out
      subst ha
      obtain ⟨az, cz, zs, hS⟩ := hL.out.x.below (below_alloc wr (.cells #[.string (str x.name), .int .u32 x.coef] 107))
      have h30 := Hid.intro (isFull_is hS (by omega))
      by_cases hz : 1048576 < zs.length
      · rw [decide_eq_true hz] at h30
        have hf := Hid.intro (hfull.out wr i x az cz zs hL.out hS hz)
        rw [← hn0.out] at hf
        clear hS hz hone hend hget hsome
        go_wp2_with (go_at_call 30; (with_reducible refine (h30.out).mono ?_); rintro e w2 ⟨rfl, hw2⟩; subst w2)
        all_goals first | omega | skip
        refine bodyPost_ret (results_none rfl _ _ _) rfl ?_
        exact ⟨rfl, hf.out⟩
      · rw [decide_eq_false hz] at h30
        have ho := Hid.intro (hone.out wr i x hL.out hx.out (hS.room hz))
        clear hS hz hone hend hget hsome hfull hL
        go_wp2_with (first
          | (go_at_call 30; (with_reducible refine (h30.out).mono ?_); rintro e w2 ⟨rfl, hw2⟩; subst w2)
          | (go_at_call 136; (with_reducible refine (ho.out).mono ?_); rintro e w3 ⟨rfl, hL3⟩; replace hL3 := Hid.intro hL3))
        all_goals first | omega | skip
        go_roundw
        case rel => exact ⟨i + 1, by omega, by go_num, hL3⟩
        case measure => simp [intOf]; omega
    · obtain rfl : i = n0 := by omega
      have he := Hid.intro (hend.out wr hL.out)
      clear hend hone hfull hget hsome hL
      go_wp2_with fail
      all_goals first | omega | skip
      go_end0
      exact ⟨rfl, he.out⟩
set_option maxHeartbeats 4000000 in
theorem wlin_is (h : WX w r acc k) (hk : k ≤ 30000) (hr : w0.heap.size ≤ r) (hB : Below w0.heap.size w0 w) (x : Lin) (hl : x.terms.length ≤ 9000000) (hok : ∀ t ∈ x.terms, okW t) (hc : 0 ≤ x.const ∧ x.const ≤ 4294967295) (hI : TmLies w0 a x.terms) : Calls Tryz.prog 111 #[.pointer (some ⟨r, 0, none⟩), .agg #[.slice a x.terms.length c, .int .u32 x.const]] w fun e w' => e = .returned (.tuple #[]) ∧ WG w w' r ∧ WX w' r (acc ++ sLin x) (k + 204) := by
  have hrl := h.lt
  obtain ⟨n0, hn0⟩ : ∃ n0, n0 = x.terms.length := ⟨_, rfl⟩
  have hb := below_alloc w (.cells #[.slice a n0 c, .int .u32 x.const] 84)
  have e1 := heap_alloc_new w (.cells #[.slice a n0 c, .int .u32 x.const] 84)
  have hsz : w0.heap.size ≤ w.heap.size := hB.size
  have h135 := Hid.intro (wterms_is (c := c) (h.below hb) (by omega) hr (hB.trans (hb.mono hsz)) x.terms hl hok hI)
  have h109 : Hid (∀ w1, WG (w.alloc (.cells #[.slice a n0 c, .int .u32 x.const] 84)) w1 r → WX w1 r (acc ++ (O.leB ((x.terms.length : Int) % 4294967296) 2 ++ x.terms.flatMap sTm)) (k + 200) → Calls Tryz.prog 109 #[.pointer (some ⟨r, 0, none⟩), .int .u32 x.const, .int .i64 4] w1 fun e w' => e = .returned (.tuple #[]) ∧ WG w w' r ∧ WX w' r (acc ++ sLin x) (k + 204)) := fun w1 g1 x1 => by
    refine (wnum_is x1 (by omega) x.const hc 4 (.inr (.inr rfl))).mono ?_
    rintro e w2 ⟨rfl, g2, x2⟩
    refine ⟨rfl, ((WG.of_below hb hrl).trans g1).trans g2, ?_⟩
    rw [List.append_assoc] at x2
    exact x2
  have hcell : Hid (∀ w1, WG (w.alloc (.cells #[.slice a n0 c, .int .u32 x.const] 84)) w1 r → w1.cell? ⟨w.heap.size, 1, none⟩ = some (.int .u32 x.const)) := fun w1 g1 => (two_readR (g1.blk e1 (by omega) (by decide))).2
  rw [← hn0] at h135 h109 ⊢
  generalize sLin x = SL at *
  generalize x.terms.flatMap sTm = ST at *
  generalize x.const = C at *
  clear h hb hrl e1 hB hI hok hn0 hl
  go_enter Tryz.func111, Tryz.ntmps111
  go_wp2_with (first
    | (go_at_call 135; (with_reducible refine (h135.out).mono ?_); rintro e w1 ⟨rfl, g1, x1⟩; have d1 := hcell.out w1 g1; replace g1 := Hid.intro g1; replace x1 := Hid.intro x1)
    | (go_at_call 109; (with_reducible refine (h109.out w1 g1.out x1.out).mono ?_); rintro e w2 ⟨rfl, g2, x2⟩; replace g2 := Hid.intro g2; replace x2 := Hid.intro x2))
  all_goals first | omega | skip
  go_end0
  exact ⟨rfl, g2.out, x2.out⟩
end
end Go.Proofs.YtmndccbeddaphaaGreatDoor
namespace Go.Proofs.YtmndccbeddaphaaGreatDoor
open Go.ChangeShapes Go.WideShapes Go.ChangeAt Go.RowKit Go.Sort
set_option linter.unusedVariables false
set_option linter.unusedSimpArgs false
set_option maxRecDepth 100000
abbrev u32 (n : Int) : Int := n % 4294967296
def sCode (x : Itm) : List Int := O.leB (u32 x.op) 1 ++ O.leB (u32 x.a) 1 ++ O.leB (u32 x.b) 1 ++ O.leB (u32 x.m) 4 ++ if shE (shapeN x.op) then sLin x.e else []
def sItem (x : Itm) : List Int := O.leB (u32 x.kind) 1 ++ (if x.kind = 1 then sTx x.name else if x.kind = 2 then sCode x else if x.kind = 3 ∨ x.kind = 5 then O.leB (u32 x.n) 2 else if x.kind = 6 then sLin x.e else if x.kind = 7 then O.leB (u32 x.n) 4 else [])
def sEqu (q : Eqv) : List Int := sTx q.1 ++ sLin q.2
structure okN (x : Lin) : Prop where
  few : x.terms.length ≤ 9000000
  each : ∀ t ∈ x.terms, okW t
  const : 0 ≤ x.const ∧ x.const ≤ 4294967295
structure okJ (x : Itm) : Prop where
  name : x.name.length ≤ 32
  lin : okN x.e
section
variable {w w' w0 wA : World} {r : Nat} {acc zs : List Int} {k : Nat} {a : Option Addr} {c : Nat}
theorem u32_bd (n : Int) : 0 ≤ u32 n ∧ u32 n ≤ 4294967295 := by unfold u32; omega
theorem wn1 (g : WG wA w r) (h : WX w r acc k) (hk : k ≤ 50000) (n : Int) : Calls Tryz.prog 109 #[.pointer (some ⟨r, 0, none⟩), .int .u32 (u32 n), .int .i64 1] w fun e w' => e = .returned (.tuple #[]) ∧ WG wA w' r ∧ WX w' r (acc ++ O.leB (u32 n) 1) (k + 4) := by
  refine (wnum_is h (by omega) (u32 n) (u32_bd n) 1 (.inl rfl)).mono ?_
  rintro e w1 ⟨rfl, g1, x1⟩
  exact ⟨rfl, g.trans g1, x1⟩
theorem wn2 (g : WG wA w r) (h : WX w r acc k) (hk : k ≤ 50000) (n : Int) : Calls Tryz.prog 109 #[.pointer (some ⟨r, 0, none⟩), .int .u32 (u32 n), .int .i64 2] w fun e w' => e = .returned (.tuple #[]) ∧ WG wA w' r ∧ WX w' r (acc ++ O.leB (u32 n) 2) (k + 4) := by
  refine (wnum_is h (by omega) (u32 n) (u32_bd n) 2 (.inr (.inl rfl))).mono ?_
  rintro e w1 ⟨rfl, g1, x1⟩
  exact ⟨rfl, g.trans g1, x1⟩
theorem wn4 (g : WG wA w r) (h : WX w r acc k) (hk : k ≤ 50000) (n : Int) : Calls Tryz.prog 109 #[.pointer (some ⟨r, 0, none⟩), .int .u32 (u32 n), .int .i64 4] w fun e w' => e = .returned (.tuple #[]) ∧ WG wA w' r ∧ WX w' r (acc ++ O.leB (u32 n) 4) (k + 4) := by
  refine (wnum_is h (by omega) (u32 n) (u32_bd n) 4 (.inr (.inr rfl))).mono ?_
  rintro e w1 ⟨rfl, g1, x1⟩
  exact ⟨rfl, g.trans g1, x1⟩
theorem wtx (g : WG wA w r) (h : WX w r acc k) (hk : k ≤ 50000) (s : List UInt8) (hs : s.length ≤ 32) : Calls Tryz.prog 73 #[.pointer (some ⟨r, 0, none⟩), .string (str s)] w fun e w' => e = .returned (.tuple #[]) ∧ WG wA w' r ∧ WX w' r (acc ++ sTx s) (k + 40) := by
  refine (wtext_is h (by omega) (str s) 40 (by rw [str_size]; omega) (by omega)).mono ?_
  rintro e w1 ⟨rfl, g1, x1⟩
  exact ⟨rfl, g.trans g1, x1⟩
theorem wli (hr : w0.heap.size ≤ r) (hB : Below w0.heap.size w0 wA) (g : WG wA w r) (h : WX w r acc k) (hk : k ≤ 20000) (x : Lin) (hx : okN x) (hI : TmLies w0 a x.terms) : Calls Tryz.prog 111 #[.pointer (some ⟨r, 0, none⟩), .agg #[.slice a x.terms.length c, .int .u32 x.const]] w fun e w' => e = .returned (.tuple #[]) ∧ WG wA w' r ∧ WX w' r (acc ++ sLin x) (k + 204) := by
  refine (wlin_is h (by omega) hr (hB.trans (g.below.mono hr)) x hx.few hx.each hx.const hI).mono ?_
  rintro e w1 ⟨rfl, g1, x1⟩
  exact ⟨rfl, g.trans g1, x1⟩
theorem ten_read {T : TypeId} {g : Nat} {v0 v1 v2 v3 v4 v5 v6 v7 v8 v9 : Value} (h : w.heap[g]? = some (.cells #[v0, v1, v2, v3, v4, v5, v6, v7, v8, v9] T (0, 0))) : (w.cell? ⟨g, 0, none⟩ = some v0 ∧ w.cell? ⟨g, 1, none⟩ = some v1 ∧ w.cell? ⟨g, 2, none⟩ = some v2 ∧ w.cell? ⟨g, 3, none⟩ = some v3 ∧ w.cell? ⟨g, 4, none⟩ = some v4) ∧ w.cell? ⟨g, 5, none⟩ = some v5 ∧ w.cell? ⟨g, 6, none⟩ = some v6 ∧ w.cell? ⟨g, 7, none⟩ = some v7 ∧ w.cell? ⟨g, 8, none⟩ = some v8 ∧ w.cell? ⟨g, 9, none⟩ = some v9 :=
  ⟨⟨(cell_blockT h 0).trans rfl, (cell_blockT h 1).trans rfl, (cell_blockT h 2).trans rfl, (cell_blockT h 3).trans rfl, (cell_blockT h 4).trans rfl⟩, (cell_blockT h 5).trans rfl, (cell_blockT h 6).trans rfl, (cell_blockT h 7).trans rfl, (cell_blockT h 8).trans rfl, (cell_blockT h 9).trans rfl⟩
set_option maxHeartbeats 8000000 in
theorem wcode_is (h : WX w r acc k) (hk : k ≤ 10000) (hr : w0.heap.size ≤ r) (hB : Below w0.heap.size w0 w) (hT : Tab w0) (x : Itm) (hx : okJ x) (hI : TmLies w0 a x.e.terms) : Calls Tryz.prog 110 #[.pointer (some ⟨r, 0, none⟩), .agg (itmCells x (.slice a x.e.terms.length c))] w fun e w' => e = .returned (.tuple #[]) ∧ WG w w' r ∧ WX w' r (acc ++ sCode x) (k + 230) := by
  have hrl := h.lt
  obtain ⟨n0, hn0⟩ : ∃ n0, n0 = x.e.terms.length := ⟨_, rfl⟩
  have hb := below_alloc w (.cells (itmCells x (.slice a n0 c)) 86)
  have e1 := heap_alloc_new w (.cells (itmCells x (.slice a n0 c)) 86)
  have hsz : w0.heap.size ≤ w.heap.size := hB.size
  have hg0 : WG w (w.alloc (.cells (itmCells x (.slice a n0 c)) 86)) r := WG.of_below hb hrl
  have hX0 := Hid.intro (h.below hb)
  have hTB : Hid (∀ w1, WG w w1 r → Tab w1) := fun w1 g1 => (hT.below hB hT.size).below g1.below (Nat.le_trans hT.size hr)
  have hcell : Hid (∀ w1, WG (w.alloc (.cells (itmCells x (.slice a n0 c)) 86)) w1 r → _) := fun w1 g1 => ten_read (g1.blk e1 (by omega) (by decide))
  have hLB := hB
  have h1 : Hid (∀ w1 w2, WG w w1 r → WG w1 w2 r → WG w w2 r) := fun w1 w2 g1 g2 => g1.trans g2
  have hA := Hid.intro (wn1 (n := x.op) (WG.refl _ r) hX0.out (by omega))
  have hBB : Hid (∀ w1, WG (w.alloc (.cells (itmCells x (.slice a n0 c)) 86)) w1 r → WX w1 r (acc ++ O.leB (u32 x.op) 1) (k + 4) → _) := fun w1 g1 x1 => wn1 (n := x.a) g1 x1 (by omega)
  have hC : Hid (∀ w1, WG (w.alloc (.cells (itmCells x (.slice a n0 c)) 86)) w1 r → WX w1 r (acc ++ O.leB (u32 x.op) 1 ++ O.leB (u32 x.a) 1) (k + 4 + 4) → _) := fun w1 g1 x1 => wn1 (n := x.b) g1 x1 (by omega)
  have hD : Hid (∀ w1, WG (w.alloc (.cells (itmCells x (.slice a n0 c)) 86)) w1 r → WX w1 r (acc ++ O.leB (u32 x.op) 1 ++ O.leB (u32 x.a) 1 ++ O.leB (u32 x.b) 1) (k + 4 + 4 + 4) → _) := fun w1 g1 x1 => wn4 (n := x.m) g1 x1 (by omega)
  have hE : Hid (∀ w1, WG (w.alloc (.cells (itmCells x (.slice a n0 c)) 86)) w1 r → WX w1 r (acc ++ O.leB (u32 x.op) 1 ++ O.leB (u32 x.a) 1 ++ O.leB (u32 x.b) 1 ++ O.leB (u32 x.m) 4) (k + 4 + 4 + 4 + 4) → Calls Tryz.prog 134 #[.int .i64 x.op] w1 fun e w' => e = .returned (.bool (shE (shapeN x.op))) ∧ WG (w.alloc (.cells (itmCells x (.slice a n0 c)) 86)) w' r ∧ WX w' r (acc ++ O.leB (u32 x.op) 1 ++ O.leB (u32 x.a) 1 ++ O.leB (u32 x.b) 1 ++ O.leB (u32 x.m) 4) (k + 4 + 4 + 4 + 4)) := fun w1 g1 x1 => by
    refine (hasExpr_is x.op w1 (hTB.out w1 (hg0.trans g1))).mono ?_
    rintro e w2 ⟨rfl, hb2⟩
    exact ⟨rfl, g1.trans (WG.of_below hb2 x1.lt), x1.below hb2⟩
  have hF : Hid (∀ w1, WG (w.alloc (.cells (itmCells x (.slice a n0 c)) 86)) w1 r → WX w1 r (acc ++ O.leB (u32 x.op) 1 ++ O.leB (u32 x.a) 1 ++ O.leB (u32 x.b) 1 ++ O.leB (u32 x.m) 4) (k + 4 + 4 + 4 + 4) → Calls Tryz.prog 111 #[.pointer (some ⟨r, 0, none⟩), .agg #[.slice a n0 c, .int .u32 x.e.const]] w1 fun e w' => e = .returned (.tuple #[]) ∧ WG (w.alloc (.cells (itmCells x (.slice a n0 c)) 86)) w' r ∧ WX w' r (acc ++ O.leB (u32 x.op) 1 ++ O.leB (u32 x.a) 1 ++ O.leB (u32 x.b) 1 ++ O.leB (u32 x.m) 4 ++ sLin x.e) (k + 4 + 4 + 4 + 4 + 204)) := fun w1 g1 x1 => by
    subst hn0
    exact wli hr (hB.trans (hb.mono hsz)) g1 x1 (by omega) x.e hx.lin hI
  have hfin : Hid (∀ w1, WG (w.alloc (.cells (itmCells x (.slice a n0 c)) 86)) w1 r → WX w1 r (acc ++ O.leB (u32 x.op) 1 ++ O.leB (u32 x.a) 1 ++ O.leB (u32 x.b) 1 ++ O.leB (u32 x.m) 4 ++ if shE (shapeN x.op) then sLin x.e else []) (k + 220) → WG w w1 r ∧ WX w1 r (acc ++ sCode x) (k + 230)) := fun w1 g1 x1 => by
    refine ⟨hg0.trans g1, ?_⟩
    unfold sCode
    simp only [← List.append_assoc] at x1 ⊢
    exact x1.more (by omega)
  have hWop : IntKind.u32.wrap x.op = u32 x.op := by rw [IntKind.wrap_u32]
  have hWa : IntKind.u32.wrap x.a = u32 x.a := by rw [IntKind.wrap_u32]
  have hWb : IntKind.u32.wrap x.b = u32 x.b := by rw [IntKind.wrap_u32]
  have hWm : IntKind.u32.wrap x.m = u32 x.m := by rw [IntKind.wrap_u32]
  rw [← hn0]
  clear hn0 h hb e1 hB hT hI hx hTB hLB h1 hg0 hX0 hrl hsz
  generalize u32 x.op = UO at *
  generalize u32 x.a = UA at *
  generalize u32 x.b = UB at *
  generalize u32 x.m = UM at *
  cases hS : shE (shapeN x.op)
  all_goals rw [hS] at hE hfin
  · go_enter Tryz.func110, Tryz.ntmps110
    go_wp2_with (first
      | (go_at_call 109; (with_reducible refine (hA.out).mono ?_); rintro e w1 ⟨rfl, g1, x1⟩; obtain ⟨⟨_, _, d2, d3, d4⟩, d5, _, d7, d8, _⟩ := hcell.out w1 g1; replace g1 := Hid.intro g1; replace x1 := Hid.intro x1; clear hA)
      | (go_at_call 109; (with_reducible refine (hBB.out w1 g1.out x1.out).mono ?_); rintro e w2 ⟨rfl, g2, x2⟩; clear d2 d3 d4 d5 d7 d8; obtain ⟨⟨_, _, d2, d3, d4⟩, d5, _, d7, d8, _⟩ := hcell.out w2 g2; replace g2 := Hid.intro g2; replace x2 := Hid.intro x2; clear g1 x1)
      | (go_at_call 109; (with_reducible refine (hC.out w2 g2.out x2.out).mono ?_); rintro e w3 ⟨rfl, g3, x3⟩; clear d2 d3 d4 d5 d7 d8; obtain ⟨⟨_, _, d2, d3, d4⟩, d5, _, d7, d8, _⟩ := hcell.out w3 g3; replace g3 := Hid.intro g3; replace x3 := Hid.intro x3; clear g2 x2)
      | (go_at_call 109; (with_reducible refine (hD.out w3 g3.out x3.out).mono ?_); rintro e w4 ⟨rfl, g4, x4⟩; clear d2 d3 d4 d5 d7 d8; obtain ⟨⟨_, _, d2, d3, d4⟩, d5, _, d7, d8, _⟩ := hcell.out w4 g4; replace g4 := Hid.intro g4; replace x4 := Hid.intro x4; clear g3 x3)
      | (go_at_call 134; (with_reducible refine (hE.out w4 g4.out x4.out).mono ?_); rintro e w5 ⟨rfl, g5, x5⟩; clear d2 d3 d4 d5 d7 d8; obtain ⟨⟨_, _, d2, d3, d4⟩, d5, _, d7, d8, _⟩ := hcell.out w5 g5; replace g5 := Hid.intro g5; replace x5 := Hid.intro x5; clear g4 x4))
    all_goals first | omega | skip
    go_end0
    exact ⟨rfl, hfin.out _ g5.out (by simpa using x5.out.more (by omega))⟩
  · go_enter Tryz.func110, Tryz.ntmps110
    go_wp2_with (first
      | (go_at_call 109; (with_reducible refine (hA.out).mono ?_); rintro e w1 ⟨rfl, g1, x1⟩; obtain ⟨⟨_, _, d2, d3, d4⟩, d5, _, d7, d8, _⟩ := hcell.out w1 g1; replace g1 := Hid.intro g1; replace x1 := Hid.intro x1; clear hA)
      | (go_at_call 109; (with_reducible refine (hBB.out w1 g1.out x1.out).mono ?_); rintro e w2 ⟨rfl, g2, x2⟩; clear d2 d3 d4 d5 d7 d8; obtain ⟨⟨_, _, d2, d3, d4⟩, d5, _, d7, d8, _⟩ := hcell.out w2 g2; replace g2 := Hid.intro g2; replace x2 := Hid.intro x2; clear g1 x1)
      | (go_at_call 109; (with_reducible refine (hC.out w2 g2.out x2.out).mono ?_); rintro e w3 ⟨rfl, g3, x3⟩; clear d2 d3 d4 d5 d7 d8; obtain ⟨⟨_, _, d2, d3, d4⟩, d5, _, d7, d8, _⟩ := hcell.out w3 g3; replace g3 := Hid.intro g3; replace x3 := Hid.intro x3; clear g2 x2)
      | (go_at_call 109; (with_reducible refine (hD.out w3 g3.out x3.out).mono ?_); rintro e w4 ⟨rfl, g4, x4⟩; clear d2 d3 d4 d5 d7 d8; obtain ⟨⟨_, _, d2, d3, d4⟩, d5, _, d7, d8, _⟩ := hcell.out w4 g4; replace g4 := Hid.intro g4; replace x4 := Hid.intro x4; clear g3 x3)
      | (go_at_call 134; (with_reducible refine (hE.out w4 g4.out x4.out).mono ?_); rintro e w5 ⟨rfl, g5, x5⟩; clear d2 d3 d4 d5 d7 d8; obtain ⟨⟨_, _, d2, d3, d4⟩, d5, _, d7, d8, _⟩ := hcell.out w5 g5; replace g5 := Hid.intro g5; replace x5 := Hid.intro x5; clear g4 x4)
      | (go_at_call 111; (with_reducible refine (hF.out w5 g5.out x5.out).mono ?_); rintro e w6 ⟨rfl, g6, x6⟩; replace g6 := Hid.intro g6; replace x6 := Hid.intro x6; clear g5 x5))
    all_goals first | omega | skip
    go_end0
    exact ⟨rfl, hfin.out _ g6.out (by simpa using x6.out.more (by omega))⟩
set_option maxHeartbeats 8000000 in
theorem witem_1 (h : WX w r acc k) (hk : k ≤ 8000) (hr : w0.heap.size ≤ r) (hB : Below w0.heap.size w0 w) (hT : Tab w0) (x : Itm) (hx : okJ x) (hI : TmLies w0 a x.e.terms) (hkd : x.kind = 1) : Calls Tryz.prog 69 #[.pointer (some ⟨r, 0, none⟩), .agg (itmCells x (.slice a x.e.terms.length c))] w fun e w' => e = .returned (.tuple #[]) ∧ WG w w' r ∧ WX w' r (acc ++ sItem x) (k + 240) := by
  have hrl := h.lt
  obtain ⟨n0, hn0⟩ : ∃ n0, n0 = x.e.terms.length := ⟨_, rfl⟩
  have hb := below_alloc w (.cells (itmCells x (.slice a n0 c)) 86)
  have e1 := heap_alloc_new w (.cells (itmCells x (.slice a n0 c)) 86)
  have hsz : w0.heap.size ≤ w.heap.size := hB.size
  have hg0 : WG w (w.alloc (.cells (itmCells x (.slice a n0 c)) 86)) r := WG.of_below hb hrl
  have hX0 := Hid.intro (h.below hb)
  have hTB : Hid (∀ w1, WG w w1 r → Tab w1) := fun w1 g1 => (hT.below hB hT.size).below g1.below (Nat.le_trans hT.size hr)
  have hcell : Hid (∀ w1, WG (w.alloc (.cells (itmCells x (.slice a n0 c)) 86)) w1 r → _) := fun w1 g1 => ten_read (g1.blk e1 (by omega) (by decide))
  have hLB := hB
  have h1 : Hid (∀ w1 w2, WG w w1 r → WG w1 w2 r → WG w w2 r) := fun w1 w2 g1 g2 => g1.trans g2
  have hA := Hid.intro (wn1 (n := x.kind) (WG.refl _ r) hX0.out (by omega))
  have hBB : Hid (∀ w1, WG (w.alloc (.cells (itmCells x (.slice a n0 c)) 86)) w1 r → WX w1 r (acc ++ O.leB (u32 x.kind) 1) (k + 4) → Calls Tryz.prog 73 #[.pointer (some ⟨r, 0, none⟩), .string (str x.name)] w1 fun e w' => e = .returned (.tuple #[]) ∧ WG (w.alloc (.cells (itmCells x (.slice a n0 c)) 86)) w' r ∧ WX w' r (acc ++ O.leB (u32 x.kind) 1 ++ sTx x.name) (k + 240)) := fun w1 g1 x1 => by
    subst hn0
    refine (wtx g1 x1 (by omega) x.name hx.name).mono ?_
    rintro e w2 ⟨rfl, g2, x2⟩
    exact ⟨rfl, g2, x2.more (by omega)⟩
  have hser : sItem x = O.leB (u32 x.kind) 1 ++ sTx x.name := by
    unfold sItem
    simp [hkd]
  have hfin : Hid (∀ w1, WG (w.alloc (.cells (itmCells x (.slice a n0 c)) 86)) w1 r → WX w1 r (acc ++ O.leB (u32 x.kind) 1 ++ sTx x.name) (k + 240) → WG w w1 r ∧ WX w1 r (acc ++ sItem x) (k + 240)) := fun w1 g1 x1 => by
    refine ⟨hg0.trans g1, ?_⟩
    rw [hser, ← List.append_assoc]
    exact x1
  have hWk : IntKind.u32.wrap x.kind = u32 x.kind := by rw [IntKind.wrap_u32]
  have hWn : IntKind.u32.wrap x.n = u32 x.n := by rw [IntKind.wrap_u32]
  rw [← hn0]
  obtain ⟨kd, nm, op, ra, rb, m, fo, e, n⟩ := x
  dsimp only at *
  subst hkd
  clear hn0 h hb e1 hB hT hI hx hTB hLB h1 hg0 hX0 hrl hsz hser
  go_enter Tryz.func69, Tryz.ntmps69
  go_wp2_with (first
    | (go_at_call 109; (with_reducible refine (hA.out).mono ?_); rintro e w1 ⟨rfl, g1, x1⟩; obtain ⟨⟨d0, d1, d2, d3, d4⟩, d5, d6, d7, d8, d9⟩ := hcell.out w1 g1; replace g1 := Hid.intro g1; replace x1 := Hid.intro x1; clear hA)
    | (go_at_call 73; (with_reducible refine (hBB.out w1 g1.out x1.out).mono ?_); rintro e w2 ⟨rfl, g2, x2⟩; replace g2 := Hid.intro g2; replace x2 := Hid.intro x2; clear g1 x1))
  all_goals first | omega | skip
  go_end0
  exact ⟨rfl, hfin.out _ g2.out x2.out⟩
set_option maxHeartbeats 8000000 in
theorem witem_2 (h : WX w r acc k) (hk : k ≤ 8000) (hr : w0.heap.size ≤ r) (hB : Below w0.heap.size w0 w) (hT : Tab w0) (x : Itm) (hx : okJ x) (hI : TmLies w0 a x.e.terms) (hkd : x.kind = 2) : Calls Tryz.prog 69 #[.pointer (some ⟨r, 0, none⟩), .agg (itmCells x (.slice a x.e.terms.length c))] w fun e w' => e = .returned (.tuple #[]) ∧ WG w w' r ∧ WX w' r (acc ++ sItem x) (k + 240) := by
  have hrl := h.lt
  obtain ⟨n0, hn0⟩ : ∃ n0, n0 = x.e.terms.length := ⟨_, rfl⟩
  have hb := below_alloc w (.cells (itmCells x (.slice a n0 c)) 86)
  have e1 := heap_alloc_new w (.cells (itmCells x (.slice a n0 c)) 86)
  have hsz : w0.heap.size ≤ w.heap.size := hB.size
  have hg0 : WG w (w.alloc (.cells (itmCells x (.slice a n0 c)) 86)) r := WG.of_below hb hrl
  have hX0 := Hid.intro (h.below hb)
  have hTB : Hid (∀ w1, WG w w1 r → Tab w1) := fun w1 g1 => (hT.below hB hT.size).below g1.below (Nat.le_trans hT.size hr)
  have hcell : Hid (∀ w1, WG (w.alloc (.cells (itmCells x (.slice a n0 c)) 86)) w1 r → _) := fun w1 g1 => ten_read (g1.blk e1 (by omega) (by decide))
  have hLB := hB
  have h1 : Hid (∀ w1 w2, WG w w1 r → WG w1 w2 r → WG w w2 r) := fun w1 w2 g1 g2 => g1.trans g2
  have hA := Hid.intro (wn1 (n := x.kind) (WG.refl _ r) hX0.out (by omega))
  have hBB : Hid (∀ w1, WG (w.alloc (.cells (itmCells x (.slice a n0 c)) 86)) w1 r → WX w1 r (acc ++ O.leB (u32 x.kind) 1) (k + 4) → Calls Tryz.prog 110 #[.pointer (some ⟨r, 0, none⟩), .agg (itmCells x (.slice a n0 c))] w1 fun e w' => e = .returned (.tuple #[]) ∧ WG (w.alloc (.cells (itmCells x (.slice a n0 c)) 86)) w' r ∧ WX w' r (acc ++ O.leB (u32 x.kind) 1 ++ sCode x) (k + 240)) := fun w1 g1 x1 => by
    subst hn0
    refine (wcode_is x1 (by omega) hr ((hB.trans (hb.mono hsz)).trans (g1.below.mono hr)) hT x hx hI).mono ?_
    rintro e w2 ⟨rfl, g2, x2⟩
    exact ⟨rfl, g1.trans g2, x2.more (by omega)⟩
  have hser : sItem x = O.leB (u32 x.kind) 1 ++ sCode x := by
    unfold sItem
    simp [hkd]
  have hfin : Hid (∀ w1, WG (w.alloc (.cells (itmCells x (.slice a n0 c)) 86)) w1 r → WX w1 r (acc ++ O.leB (u32 x.kind) 1 ++ sCode x) (k + 240) → WG w w1 r ∧ WX w1 r (acc ++ sItem x) (k + 240)) := fun w1 g1 x1 => by
    refine ⟨hg0.trans g1, ?_⟩
    rw [hser, ← List.append_assoc]
    exact x1
  have hWk : IntKind.u32.wrap x.kind = u32 x.kind := by rw [IntKind.wrap_u32]
  have hWn : IntKind.u32.wrap x.n = u32 x.n := by rw [IntKind.wrap_u32]
  rw [← hn0]
  obtain ⟨kd, nm, op, ra, rb, m, fo, e, n⟩ := x
  dsimp only at *
  subst hkd
  clear hn0 h hb e1 hB hT hI hx hTB hLB h1 hg0 hX0 hrl hsz hser
  go_enter Tryz.func69, Tryz.ntmps69
  go_wp2_with (first
    | (go_at_call 109; (with_reducible refine (hA.out).mono ?_); rintro e w1 ⟨rfl, g1, x1⟩; obtain ⟨⟨d0, d1, d2, d3, d4⟩, d5, d6, d7, d8, d9⟩ := hcell.out w1 g1; replace g1 := Hid.intro g1; replace x1 := Hid.intro x1; clear hA)
    | (go_at_call 110; (with_reducible refine (hBB.out w1 g1.out x1.out).mono ?_); rintro e w2 ⟨rfl, g2, x2⟩; replace g2 := Hid.intro g2; replace x2 := Hid.intro x2; clear g1 x1))
  all_goals first | omega | skip
  go_end0
  exact ⟨rfl, hfin.out _ g2.out x2.out⟩
set_option maxHeartbeats 8000000 in
theorem witem_3 (h : WX w r acc k) (hk : k ≤ 8000) (hr : w0.heap.size ≤ r) (hB : Below w0.heap.size w0 w) (hT : Tab w0) (x : Itm) (hx : okJ x) (hI : TmLies w0 a x.e.terms) (hkd : x.kind = 3) : Calls Tryz.prog 69 #[.pointer (some ⟨r, 0, none⟩), .agg (itmCells x (.slice a x.e.terms.length c))] w fun e w' => e = .returned (.tuple #[]) ∧ WG w w' r ∧ WX w' r (acc ++ sItem x) (k + 240) := by
  have hrl := h.lt
  obtain ⟨n0, hn0⟩ : ∃ n0, n0 = x.e.terms.length := ⟨_, rfl⟩
  have hb := below_alloc w (.cells (itmCells x (.slice a n0 c)) 86)
  have e1 := heap_alloc_new w (.cells (itmCells x (.slice a n0 c)) 86)
  have hsz : w0.heap.size ≤ w.heap.size := hB.size
  have hg0 : WG w (w.alloc (.cells (itmCells x (.slice a n0 c)) 86)) r := WG.of_below hb hrl
  have hX0 := Hid.intro (h.below hb)
  have hTB : Hid (∀ w1, WG w w1 r → Tab w1) := fun w1 g1 => (hT.below hB hT.size).below g1.below (Nat.le_trans hT.size hr)
  have hcell : Hid (∀ w1, WG (w.alloc (.cells (itmCells x (.slice a n0 c)) 86)) w1 r → _) := fun w1 g1 => ten_read (g1.blk e1 (by omega) (by decide))
  have hLB := hB
  have h1 : Hid (∀ w1 w2, WG w w1 r → WG w1 w2 r → WG w w2 r) := fun w1 w2 g1 g2 => g1.trans g2
  have hA := Hid.intro (wn1 (n := x.kind) (WG.refl _ r) hX0.out (by omega))
  have hBB : Hid (∀ w1, WG (w.alloc (.cells (itmCells x (.slice a n0 c)) 86)) w1 r → WX w1 r (acc ++ O.leB (u32 x.kind) 1) (k + 4) → Calls Tryz.prog 109 #[.pointer (some ⟨r, 0, none⟩), .int .u32 (u32 x.n), .int .i64 2] w1 fun e w' => e = .returned (.tuple #[]) ∧ WG (w.alloc (.cells (itmCells x (.slice a n0 c)) 86)) w' r ∧ WX w' r (acc ++ O.leB (u32 x.kind) 1 ++ O.leB (u32 x.n) 2) (k + 240)) := fun w1 g1 x1 => by
    subst hn0
    refine (wn2 (n := x.n) g1 x1 (by omega)).mono ?_
    rintro e w2 ⟨rfl, g2, x2⟩
    exact ⟨rfl, g2, x2.more (by omega)⟩
  have hser : sItem x = O.leB (u32 x.kind) 1 ++ O.leB (u32 x.n) 2 := by
    unfold sItem
    simp [hkd]
  have hfin : Hid (∀ w1, WG (w.alloc (.cells (itmCells x (.slice a n0 c)) 86)) w1 r → WX w1 r (acc ++ O.leB (u32 x.kind) 1 ++ O.leB (u32 x.n) 2) (k + 240) → WG w w1 r ∧ WX w1 r (acc ++ sItem x) (k + 240)) := fun w1 g1 x1 => by
    refine ⟨hg0.trans g1, ?_⟩
    rw [hser, ← List.append_assoc]
    exact x1
  have hWk : IntKind.u32.wrap x.kind = u32 x.kind := by rw [IntKind.wrap_u32]
  have hWn : IntKind.u32.wrap x.n = u32 x.n := by rw [IntKind.wrap_u32]
  rw [← hn0]
  obtain ⟨kd, nm, op, ra, rb, m, fo, e, n⟩ := x
  dsimp only at *
  subst hkd
  clear hn0 h hb e1 hB hT hI hx hTB hLB h1 hg0 hX0 hrl hsz hser
  go_enter Tryz.func69, Tryz.ntmps69
  go_wp2_with (first
    | (go_at_call 109; (with_reducible refine (hA.out).mono ?_); rintro e w1 ⟨rfl, g1, x1⟩; obtain ⟨⟨d0, d1, d2, d3, d4⟩, d5, d6, d7, d8, d9⟩ := hcell.out w1 g1; replace g1 := Hid.intro g1; replace x1 := Hid.intro x1; clear hA)
    | (go_at_call 109; (with_reducible refine (hBB.out w1 g1.out x1.out).mono ?_); rintro e w2 ⟨rfl, g2, x2⟩; replace g2 := Hid.intro g2; replace x2 := Hid.intro x2; clear g1 x1))
  all_goals first | omega | skip
  go_end0
  exact ⟨rfl, hfin.out _ g2.out x2.out⟩
set_option maxHeartbeats 8000000 in
theorem witem_5 (h : WX w r acc k) (hk : k ≤ 8000) (hr : w0.heap.size ≤ r) (hB : Below w0.heap.size w0 w) (hT : Tab w0) (x : Itm) (hx : okJ x) (hI : TmLies w0 a x.e.terms) (hkd : x.kind = 5) : Calls Tryz.prog 69 #[.pointer (some ⟨r, 0, none⟩), .agg (itmCells x (.slice a x.e.terms.length c))] w fun e w' => e = .returned (.tuple #[]) ∧ WG w w' r ∧ WX w' r (acc ++ sItem x) (k + 240) := by
  have hrl := h.lt
  obtain ⟨n0, hn0⟩ : ∃ n0, n0 = x.e.terms.length := ⟨_, rfl⟩
  have hb := below_alloc w (.cells (itmCells x (.slice a n0 c)) 86)
  have e1 := heap_alloc_new w (.cells (itmCells x (.slice a n0 c)) 86)
  have hsz : w0.heap.size ≤ w.heap.size := hB.size
  have hg0 : WG w (w.alloc (.cells (itmCells x (.slice a n0 c)) 86)) r := WG.of_below hb hrl
  have hX0 := Hid.intro (h.below hb)
  have hTB : Hid (∀ w1, WG w w1 r → Tab w1) := fun w1 g1 => (hT.below hB hT.size).below g1.below (Nat.le_trans hT.size hr)
  have hcell : Hid (∀ w1, WG (w.alloc (.cells (itmCells x (.slice a n0 c)) 86)) w1 r → _) := fun w1 g1 => ten_read (g1.blk e1 (by omega) (by decide))
  have hLB := hB
  have h1 : Hid (∀ w1 w2, WG w w1 r → WG w1 w2 r → WG w w2 r) := fun w1 w2 g1 g2 => g1.trans g2
  have hA := Hid.intro (wn1 (n := x.kind) (WG.refl _ r) hX0.out (by omega))
  have hBB : Hid (∀ w1, WG (w.alloc (.cells (itmCells x (.slice a n0 c)) 86)) w1 r → WX w1 r (acc ++ O.leB (u32 x.kind) 1) (k + 4) → Calls Tryz.prog 109 #[.pointer (some ⟨r, 0, none⟩), .int .u32 (u32 x.n), .int .i64 2] w1 fun e w' => e = .returned (.tuple #[]) ∧ WG (w.alloc (.cells (itmCells x (.slice a n0 c)) 86)) w' r ∧ WX w' r (acc ++ O.leB (u32 x.kind) 1 ++ O.leB (u32 x.n) 2) (k + 240)) := fun w1 g1 x1 => by
    subst hn0
    refine (wn2 (n := x.n) g1 x1 (by omega)).mono ?_
    rintro e w2 ⟨rfl, g2, x2⟩
    exact ⟨rfl, g2, x2.more (by omega)⟩
  have hser : sItem x = O.leB (u32 x.kind) 1 ++ O.leB (u32 x.n) 2 := by
    unfold sItem
    simp [hkd]
  have hfin : Hid (∀ w1, WG (w.alloc (.cells (itmCells x (.slice a n0 c)) 86)) w1 r → WX w1 r (acc ++ O.leB (u32 x.kind) 1 ++ O.leB (u32 x.n) 2) (k + 240) → WG w w1 r ∧ WX w1 r (acc ++ sItem x) (k + 240)) := fun w1 g1 x1 => by
    refine ⟨hg0.trans g1, ?_⟩
    rw [hser, ← List.append_assoc]
    exact x1
  have hWk : IntKind.u32.wrap x.kind = u32 x.kind := by rw [IntKind.wrap_u32]
  have hWn : IntKind.u32.wrap x.n = u32 x.n := by rw [IntKind.wrap_u32]
  rw [← hn0]
  obtain ⟨kd, nm, op, ra, rb, m, fo, e, n⟩ := x
  dsimp only at *
  subst hkd
  clear hn0 h hb e1 hB hT hI hx hTB hLB h1 hg0 hX0 hrl hsz hser
  go_enter Tryz.func69, Tryz.ntmps69
  go_wp2_with (first
    | (go_at_call 109; (with_reducible refine (hA.out).mono ?_); rintro e w1 ⟨rfl, g1, x1⟩; obtain ⟨⟨d0, d1, d2, d3, d4⟩, d5, d6, d7, d8, d9⟩ := hcell.out w1 g1; replace g1 := Hid.intro g1; replace x1 := Hid.intro x1; clear hA)
    | (go_at_call 109; (with_reducible refine (hBB.out w1 g1.out x1.out).mono ?_); rintro e w2 ⟨rfl, g2, x2⟩; replace g2 := Hid.intro g2; replace x2 := Hid.intro x2; clear g1 x1))
  all_goals first | omega | skip
  go_end0
  exact ⟨rfl, hfin.out _ g2.out x2.out⟩
set_option maxHeartbeats 8000000 in
theorem witem_6 (h : WX w r acc k) (hk : k ≤ 8000) (hr : w0.heap.size ≤ r) (hB : Below w0.heap.size w0 w) (hT : Tab w0) (x : Itm) (hx : okJ x) (hI : TmLies w0 a x.e.terms) (hkd : x.kind = 6) : Calls Tryz.prog 69 #[.pointer (some ⟨r, 0, none⟩), .agg (itmCells x (.slice a x.e.terms.length c))] w fun e w' => e = .returned (.tuple #[]) ∧ WG w w' r ∧ WX w' r (acc ++ sItem x) (k + 240) := by
  have hrl := h.lt
  obtain ⟨n0, hn0⟩ : ∃ n0, n0 = x.e.terms.length := ⟨_, rfl⟩
  have hb := below_alloc w (.cells (itmCells x (.slice a n0 c)) 86)
  have e1 := heap_alloc_new w (.cells (itmCells x (.slice a n0 c)) 86)
  have hsz : w0.heap.size ≤ w.heap.size := hB.size
  have hg0 : WG w (w.alloc (.cells (itmCells x (.slice a n0 c)) 86)) r := WG.of_below hb hrl
  have hX0 := Hid.intro (h.below hb)
  have hTB : Hid (∀ w1, WG w w1 r → Tab w1) := fun w1 g1 => (hT.below hB hT.size).below g1.below (Nat.le_trans hT.size hr)
  have hcell : Hid (∀ w1, WG (w.alloc (.cells (itmCells x (.slice a n0 c)) 86)) w1 r → _) := fun w1 g1 => ten_read (g1.blk e1 (by omega) (by decide))
  have hLB := hB
  have h1 : Hid (∀ w1 w2, WG w w1 r → WG w1 w2 r → WG w w2 r) := fun w1 w2 g1 g2 => g1.trans g2
  have hA := Hid.intro (wn1 (n := x.kind) (WG.refl _ r) hX0.out (by omega))
  have hBB : Hid (∀ w1, WG (w.alloc (.cells (itmCells x (.slice a n0 c)) 86)) w1 r → WX w1 r (acc ++ O.leB (u32 x.kind) 1) (k + 4) → Calls Tryz.prog 111 #[.pointer (some ⟨r, 0, none⟩), .agg #[.slice a n0 c, .int .u32 x.e.const]] w1 fun e w' => e = .returned (.tuple #[]) ∧ WG (w.alloc (.cells (itmCells x (.slice a n0 c)) 86)) w' r ∧ WX w' r (acc ++ O.leB (u32 x.kind) 1 ++ sLin x.e) (k + 240)) := fun w1 g1 x1 => by
    subst hn0
    refine (wli hr (hB.trans (hb.mono hsz)) g1 x1 (by omega) x.e hx.lin hI).mono ?_
    rintro e w2 ⟨rfl, g2, x2⟩
    exact ⟨rfl, g2, x2.more (by omega)⟩
  have hser : sItem x = O.leB (u32 x.kind) 1 ++ sLin x.e := by
    unfold sItem
    simp [hkd]
  have hfin : Hid (∀ w1, WG (w.alloc (.cells (itmCells x (.slice a n0 c)) 86)) w1 r → WX w1 r (acc ++ O.leB (u32 x.kind) 1 ++ sLin x.e) (k + 240) → WG w w1 r ∧ WX w1 r (acc ++ sItem x) (k + 240)) := fun w1 g1 x1 => by
    refine ⟨hg0.trans g1, ?_⟩
    rw [hser, ← List.append_assoc]
    exact x1
  have hWk : IntKind.u32.wrap x.kind = u32 x.kind := by rw [IntKind.wrap_u32]
  have hWn : IntKind.u32.wrap x.n = u32 x.n := by rw [IntKind.wrap_u32]
  rw [← hn0]
  obtain ⟨kd, nm, op, ra, rb, m, fo, e, n⟩ := x
  dsimp only at *
  subst hkd
  clear hn0 h hb e1 hB hT hI hx hTB hLB h1 hg0 hX0 hrl hsz hser
  go_enter Tryz.func69, Tryz.ntmps69
  go_wp2_with (first
    | (go_at_call 109; (with_reducible refine (hA.out).mono ?_); rintro e w1 ⟨rfl, g1, x1⟩; obtain ⟨⟨d0, d1, d2, d3, d4⟩, d5, d6, d7, d8, d9⟩ := hcell.out w1 g1; replace g1 := Hid.intro g1; replace x1 := Hid.intro x1; clear hA)
    | (go_at_call 111; (with_reducible refine (hBB.out w1 g1.out x1.out).mono ?_); rintro e w2 ⟨rfl, g2, x2⟩; replace g2 := Hid.intro g2; replace x2 := Hid.intro x2; clear g1 x1))
  all_goals first | omega | skip
  go_end0
  exact ⟨rfl, hfin.out _ g2.out x2.out⟩
set_option maxHeartbeats 8000000 in
theorem witem_7 (h : WX w r acc k) (hk : k ≤ 8000) (hr : w0.heap.size ≤ r) (hB : Below w0.heap.size w0 w) (hT : Tab w0) (x : Itm) (hx : okJ x) (hI : TmLies w0 a x.e.terms) (hkd : x.kind = 7) : Calls Tryz.prog 69 #[.pointer (some ⟨r, 0, none⟩), .agg (itmCells x (.slice a x.e.terms.length c))] w fun e w' => e = .returned (.tuple #[]) ∧ WG w w' r ∧ WX w' r (acc ++ sItem x) (k + 240) := by
  have hrl := h.lt
  obtain ⟨n0, hn0⟩ : ∃ n0, n0 = x.e.terms.length := ⟨_, rfl⟩
  have hb := below_alloc w (.cells (itmCells x (.slice a n0 c)) 86)
  have e1 := heap_alloc_new w (.cells (itmCells x (.slice a n0 c)) 86)
  have hsz : w0.heap.size ≤ w.heap.size := hB.size
  have hg0 : WG w (w.alloc (.cells (itmCells x (.slice a n0 c)) 86)) r := WG.of_below hb hrl
  have hX0 := Hid.intro (h.below hb)
  have hTB : Hid (∀ w1, WG w w1 r → Tab w1) := fun w1 g1 => (hT.below hB hT.size).below g1.below (Nat.le_trans hT.size hr)
  have hcell : Hid (∀ w1, WG (w.alloc (.cells (itmCells x (.slice a n0 c)) 86)) w1 r → _) := fun w1 g1 => ten_read (g1.blk e1 (by omega) (by decide))
  have hLB := hB
  have h1 : Hid (∀ w1 w2, WG w w1 r → WG w1 w2 r → WG w w2 r) := fun w1 w2 g1 g2 => g1.trans g2
  have hA := Hid.intro (wn1 (n := x.kind) (WG.refl _ r) hX0.out (by omega))
  have hBB : Hid (∀ w1, WG (w.alloc (.cells (itmCells x (.slice a n0 c)) 86)) w1 r → WX w1 r (acc ++ O.leB (u32 x.kind) 1) (k + 4) → Calls Tryz.prog 109 #[.pointer (some ⟨r, 0, none⟩), .int .u32 (u32 x.n), .int .i64 4] w1 fun e w' => e = .returned (.tuple #[]) ∧ WG (w.alloc (.cells (itmCells x (.slice a n0 c)) 86)) w' r ∧ WX w' r (acc ++ O.leB (u32 x.kind) 1 ++ O.leB (u32 x.n) 4) (k + 240)) := fun w1 g1 x1 => by
    subst hn0
    refine (wn4 (n := x.n) g1 x1 (by omega)).mono ?_
    rintro e w2 ⟨rfl, g2, x2⟩
    exact ⟨rfl, g2, x2.more (by omega)⟩
  have hser : sItem x = O.leB (u32 x.kind) 1 ++ O.leB (u32 x.n) 4 := by
    unfold sItem
    simp [hkd]
  have hfin : Hid (∀ w1, WG (w.alloc (.cells (itmCells x (.slice a n0 c)) 86)) w1 r → WX w1 r (acc ++ O.leB (u32 x.kind) 1 ++ O.leB (u32 x.n) 4) (k + 240) → WG w w1 r ∧ WX w1 r (acc ++ sItem x) (k + 240)) := fun w1 g1 x1 => by
    refine ⟨hg0.trans g1, ?_⟩
    rw [hser, ← List.append_assoc]
    exact x1
  have hWk : IntKind.u32.wrap x.kind = u32 x.kind := by rw [IntKind.wrap_u32]
  have hWn : IntKind.u32.wrap x.n = u32 x.n := by rw [IntKind.wrap_u32]
  rw [← hn0]
  obtain ⟨kd, nm, op, ra, rb, m, fo, e, n⟩ := x
  dsimp only at *
  subst hkd
  clear hn0 h hb e1 hB hT hI hx hTB hLB h1 hg0 hX0 hrl hsz hser
  go_enter Tryz.func69, Tryz.ntmps69
  go_wp2_with (first
    | (go_at_call 109; (with_reducible refine (hA.out).mono ?_); rintro e w1 ⟨rfl, g1, x1⟩; obtain ⟨⟨d0, d1, d2, d3, d4⟩, d5, d6, d7, d8, d9⟩ := hcell.out w1 g1; replace g1 := Hid.intro g1; replace x1 := Hid.intro x1; clear hA)
    | (go_at_call 109; (with_reducible refine (hBB.out w1 g1.out x1.out).mono ?_); rintro e w2 ⟨rfl, g2, x2⟩; replace g2 := Hid.intro g2; replace x2 := Hid.intro x2; clear g1 x1))
  all_goals first | omega | skip
  go_end0
  exact ⟨rfl, hfin.out _ g2.out x2.out⟩
set_option maxHeartbeats 8000000 in
theorem witem_o (h : WX w r acc k) (hk : k ≤ 8000) (hr : w0.heap.size ≤ r) (hB : Below w0.heap.size w0 w) (hT : Tab w0) (x : Itm) (hx : okJ x) (hI : TmLies w0 a x.e.terms) (hkd : x.kind ≠ 1 ∧ x.kind ≠ 2 ∧ x.kind ≠ 3 ∧ x.kind ≠ 5 ∧ x.kind ≠ 6 ∧ x.kind ≠ 7) : Calls Tryz.prog 69 #[.pointer (some ⟨r, 0, none⟩), .agg (itmCells x (.slice a x.e.terms.length c))] w fun e w' => e = .returned (.tuple #[]) ∧ WG w w' r ∧ WX w' r (acc ++ sItem x) (k + 240) := by
  have hrl := h.lt
  obtain ⟨n0, hn0⟩ : ∃ n0, n0 = x.e.terms.length := ⟨_, rfl⟩
  have hb := below_alloc w (.cells (itmCells x (.slice a n0 c)) 86)
  have e1 := heap_alloc_new w (.cells (itmCells x (.slice a n0 c)) 86)
  have hsz : w0.heap.size ≤ w.heap.size := hB.size
  have hg0 : WG w (w.alloc (.cells (itmCells x (.slice a n0 c)) 86)) r := WG.of_below hb hrl
  have hX0 := Hid.intro (h.below hb)
  have hTB : Hid (∀ w1, WG w w1 r → Tab w1) := fun w1 g1 => (hT.below hB hT.size).below g1.below (Nat.le_trans hT.size hr)
  have hcell : Hid (∀ w1, WG (w.alloc (.cells (itmCells x (.slice a n0 c)) 86)) w1 r → _) := fun w1 g1 => ten_read (g1.blk e1 (by omega) (by decide))
  have hLB := hB
  have h1 : Hid (∀ w1 w2, WG w w1 r → WG w1 w2 r → WG w w2 r) := fun w1 w2 g1 g2 => g1.trans g2
  have hA := Hid.intro (wn1 (n := x.kind) (WG.refl _ r) hX0.out (by omega))
  have hser : sItem x = O.leB (u32 x.kind) 1 ++ [] := by
    unfold sItem
    rw [if_neg hkd.1, if_neg hkd.2.1, if_neg (by have := hkd; omega), if_neg hkd.2.2.2.2.1, if_neg hkd.2.2.2.2.2]
  have hfin : Hid (∀ w1, WG (w.alloc (.cells (itmCells x (.slice a n0 c)) 86)) w1 r → WX w1 r (acc ++ O.leB (u32 x.kind) 1 ++ []) (k + 240) → WG w w1 r ∧ WX w1 r (acc ++ sItem x) (k + 240)) := fun w1 g1 x1 => by
    refine ⟨hg0.trans g1, ?_⟩
    rw [hser, ← List.append_assoc]
    exact x1
  have hWk : IntKind.u32.wrap x.kind = u32 x.kind := by rw [IntKind.wrap_u32]
  have hWn : IntKind.u32.wrap x.n = u32 x.n := by rw [IntKind.wrap_u32]
  rw [← hn0]
  have q1 : (x.kind == 1) = false := by simpa using hkd.1
  have q2 : (x.kind == 2) = false := by simpa using hkd.2.1
  have q3 : (x.kind == 3) = false := by simpa using hkd.2.2.1
  have q5 : (x.kind == 5) = false := by simpa using hkd.2.2.2.1
  have q6 : (x.kind == 6) = false := by simpa using hkd.2.2.2.2.1
  have q7 : (x.kind == 7) = false := by simpa using hkd.2.2.2.2.2
  clear hkd
  clear hn0 h hb e1 hB hT hI hx hTB hLB h1 hg0 hX0 hrl hsz hser
  go_enter Tryz.func69, Tryz.ntmps69
  go_wp2_with (first
    | (go_at_call 109; (with_reducible refine (hA.out).mono ?_); rintro e w1 ⟨rfl, g1, x1⟩; obtain ⟨⟨d0, d1, d2, d3, d4⟩, d5, d6, d7, d8, d9⟩ := hcell.out w1 g1; replace g1 := Hid.intro g1; replace x1 := Hid.intro x1; clear hA))
  all_goals first | omega | skip
  go_end0
  exact ⟨rfl, hfin.out _ g1.out (by simpa using x1.out.more (by omega))⟩
theorem witem_is (h : WX w r acc k) (hk : k ≤ 8000) (hr : w0.heap.size ≤ r) (hB : Below w0.heap.size w0 w) (hT : Tab w0) (x : Itm) (hx : okJ x) (hI : TmLies w0 a x.e.terms) : Calls Tryz.prog 69 #[.pointer (some ⟨r, 0, none⟩), .agg (itmCells x (.slice a x.e.terms.length c))] w fun e w' => e = .returned (.tuple #[]) ∧ WG w w' r ∧ WX w' r (acc ++ sItem x) (k + 240) := by
  by_cases h1 : x.kind = 1
  · exact witem_1 h hk hr hB hT x hx hI h1
  · by_cases h2 : x.kind = 2
    · exact witem_2 h hk hr hB hT x hx hI h2
    · by_cases h3 : x.kind = 3
      · exact witem_3 h hk hr hB hT x hx hI h3
      · by_cases h5 : x.kind = 5
        · exact witem_5 h hk hr hB hT x hx hI h5
        · by_cases h6 : x.kind = 6
          · exact witem_6 h hk hr hB hT x hx hI h6
          · by_cases h7 : x.kind = 7
            · exact witem_7 h hk hr hB hT x hx hI h7
            · exact witem_o h hk hr hB hT x hx hI ⟨h1, h2, h3, h5, h6, h7⟩
end
end Go.Proofs.YtmndccbeddaphaaGreatDoor

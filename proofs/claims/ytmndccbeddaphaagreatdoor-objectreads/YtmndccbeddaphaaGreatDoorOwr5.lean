/- object's writer: what is right can be written; which Lins have too many terms; a unit; Write. -/
import Derived.Test.YtmndccbeddaphaaGreatDoorOwr3
import Derived.Test.YtmndccbeddaphaaGreatDoorUGl
import Derived.Test.YtmndccbeddaphaaGreatDoorOcGets0
/- object's writer: lists of items, equs, globals. -/
namespace Go.Proofs.YtmndccbeddaphaaGreatDoor
open Go.ChangeShapes Go.WideShapes Go.ChangeAt Go.RowKit Go.Sort
set_option linter.unusedVariables false
set_option linter.unusedSimpArgs false
set_option maxRecDepth 100000
section
variable {w w' w0 wA : World} {r : Nat} {acc zs : List Int} {k : Nat} {a : Option Addr} {c : Nat}
set_option maxHeartbeats 8000000 in
theorem witems_is (h : WX w r acc k) (hk : k ≤ 40000) (hr : w0.heap.size ≤ r) (hB : Below w0.heap.size w0 w) (hT : Tab w0) (l : List Itm) (hl : l.length ≤ 9000000) (hok : ∀ x ∈ l, okJ x) (hI : ItIn w0 a l) : Calls Tryz.prog 68 #[.pointer (some ⟨r, 0, none⟩), .slice a l.length c, .func (.func 69) #[.pointer (some ⟨r, 0, none⟩)] #[]] w fun e w' => e = .returned (.tuple #[]) ∧ WG w w' r ∧ WX w' r (acc ++ (O.leB ((l.length : Int) % 4294967296) 2 ++ l.flatMap sItem)) (k + 300) := by
  have h109 : Hid (Calls Tryz.prog 109 #[.pointer (some ⟨r, 0, none⟩), .int .u32 ((l.length : Int) % 4294967296), .int .i64 2] w fun e w' => e = .returned (.tuple #[]) ∧ WL w r acc (k + 300) sItem l 0 w') := by
    refine (wnum_is h (by omega) ((l.length : Int) % 4294967296) (by omega) 2 (.inr (.inl rfl))).mono ?_
    rintro e w1 ⟨rfl, g1, x1⟩
    exact ⟨rfl, g1, by simpa using x1.more (by omega)⟩
  have hget : Hid (∀ wr i x, WL w r acc (k + 300) sItem l i wr → l[i]? = some x → ∃ g o va vc, a = some ⟨g, o, none⟩ ∧ TmLies w0 va x.e.terms ∧ ItAt wr g (o + i * 10) x va x.e.terms.length vc) := fun wr i x hL hx => by
    have hb := hB.trans (hL.g.below.mono hr)
    rcases hI with rfl | ⟨g, o, ha, hg, hI⟩
    · cases hx
    · obtain ⟨va, vc, h1, h2⟩ := hI i x hx
      exact ⟨g, o, va, vc, ha, h2, h1.below hb hg⟩
  have hone : Hid (∀ wr i x (va : Option Addr) (vc : Nat), WL w r acc (k + 300) sItem l i wr → l[i]? = some x → TmLies w0 va x.e.terms → WX (wr.alloc (.cells #[.int .i64 x.kind, .string (str x.name), .int .i64 x.op, .int .i64 x.a, .int .i64 x.b, .int .i32 x.m, .int .i64 x.form, .slice va x.e.terms.length vc, .int .u32 x.e.const, .int .i64 x.n] 86)) r (acc ++ (O.leB ((l.length : Int) % 4294967296) 2 ++ (l.take i).flatMap sItem)) 0 → Calls Tryz.prog 69 #[.pointer (some ⟨r, 0, none⟩), .agg #[.int .i64 x.kind, .string (str x.name), .int .i64 x.op, .int .i64 x.a, .int .i64 x.b, .int .i32 x.m, .int .i64 x.form, .slice va x.e.terms.length vc, .int .u32 x.e.const, .int .i64 x.n]] (wr.alloc (.cells #[.int .i64 x.kind, .string (str x.name), .int .i64 x.op, .int .i64 x.a, .int .i64 x.b, .int .i32 x.m, .int .i64 x.form, .slice va x.e.terms.length vc, .int .u32 x.e.const, .int .i64 x.n] 86)) fun e w' => e = .returned (.tuple #[]) ∧ WL w r acc (k + 300) sItem l (i + 1) w') := fun wr i x (va : Option Addr) (vc : Nat) hL hx hTm hX => by
    have ht := hok x (List.mem_of_getElem? hx)
    have hBW := (hB.trans (hL.g.below.mono hr)).trans ((below_alloc wr (.cells #[.int .i64 x.kind, .string (str x.name), .int .i64 x.op, .int .i64 x.a, .int .i64 x.b, .int .i32 x.m, .int .i64 x.form, .slice va x.e.terms.length vc, .int .u32 x.e.const, .int .i64 x.n] 86)).mono (Nat.le_trans hB.size hL.g.size))
    refine (witem_is hX (by omega) hr hBW hT x ht hTm).mono ?_
    rintro e w1 ⟨rfl, g1, x1⟩
    exact ⟨rfl, hL.next (below_alloc wr _) hx (by omega) g1 x1⟩
  have hfull : Hid (∀ wr i (x : Itm) (va : Option Addr) (vc : Nat) az cz zs, WL w r acc (k + 300) sItem l i wr → WS (wr.alloc (.cells #[.int .i64 x.kind, .string (str x.name), .int .i64 x.op, .int .i64 x.a, .int .i64 x.b, .int .i32 x.m, .int .i64 x.form, .slice va x.e.terms.length vc, .int .u32 x.e.const, .int .i64 x.n] 86)) r (acc ++ (O.leB ((l.length : Int) % 4294967296) 2 ++ (l.take i).flatMap sItem)) (k + 300) az cz zs → 1048576 < zs.length → WG w (wr.alloc (.cells #[.int .i64 x.kind, .string (str x.name), .int .i64 x.op, .int .i64 x.a, .int .i64 x.b, .int .i32 x.m, .int .i64 x.form, .slice va x.e.terms.length vc, .int .u32 x.e.const, .int .i64 x.n] 86)) r ∧ WX (wr.alloc (.cells #[.int .i64 x.kind, .string (str x.name), .int .i64 x.op, .int .i64 x.a, .int .i64 x.b, .int .i32 x.m, .int .i64 x.form, .slice va x.e.terms.length vc, .int .u32 x.e.const, .int .i64 x.n] 86)) r (acc ++ (O.leB ((l.length : Int) % 4294967296) 2 ++ l.flatMap sItem)) (k + 300)) := fun wr i x (va : Option Addr) (vc : Nat) az cz zs hL hS hz => ⟨hL.g.trans (WG.of_below (below_alloc wr _) hL.x.lt), WL.full hS hz⟩
  have hend : Hid (∀ wr, WL w r acc (k + 300) sItem l l.length wr → WG w wr r ∧ WX wr r (acc ++ (O.leB ((l.length : Int) % 4294967296) 2 ++ l.flatMap sItem)) (k + 300)) := fun wr hL => ⟨hL.g, hL.end⟩
  have hsome : Hid (∀ i, i < l.length → ∃ x, l[i]? = some x) := fun i hi => ⟨_, List.getElem?_eq_getElem hi⟩
  obtain ⟨n0, hn0⟩ : ∃ n0, n0 = l.length := ⟨_, rfl⟩
  have hmod : Hid ((n0 : Int) % 4294967296 = n0) := by show _ = _; omega
  rw [← hn0] at h109 hend hl hsome ⊢
  rw [hmod.out] at h109
  replace hn0 := Hid.intro hn0
  clear h hB hI hok hmod hr
  go_enter Tryz.func68, Tryz.ntmps68
  go_wp2_with (go_at_call 109; (with_reducible refine (h109.out).mono ?_); rintro e w1 ⟨rfl, hL1⟩; replace hL1 := Hid.intro hL1)
  all_goals first | omega | skip
  clear h109
  go_loopw [15] (fun v15 wr => ∃ (i : Nat), i ≤ n0 ∧ v15 = .int .i64 (i : Int) ∧ Hid (WL w r acc (k + 300) sItem l i wr)) (fun v15 _ => n0 - (intOf v15).toNat)
  case atStart => exact ⟨0, by omega, rfl, hL1⟩
  case round =>
    obtain ⟨i, hi, rfl, hL⟩ := hrel
    clear hL1
    by_cases hin : i < n0
    · obtain ⟨x, hx⟩ := hsome.out i hin
      replace hx := Hid.intro hx
      obtain ⟨g, o, va, vc, ha, hTm, ⟨d0, d1, d2, d3, d4, d5, d6, d7, d8, d9⟩⟩ := hget.out wr i x hL.out hx.out
      subst ha
      obtain ⟨az, cz, zs, hS⟩ := hL.out.x.below (below_alloc wr (.cells #[.int .i64 x.kind, .string (str x.name), .int .i64 x.op, .int .i64 x.a, .int .i64 x.b, .int .i32 x.m, .int .i64 x.form, .slice va x.e.terms.length vc, .int .u32 x.e.const, .int .i64 x.n] 86))
      have h30 := Hid.intro (isFull_is hS (by omega))
      by_cases hz : 1048576 < zs.length
      · rw [decide_eq_true hz] at h30
        have hf := Hid.intro (hfull.out wr i x va vc az cz zs hL.out hS hz)
        rw [← hn0.out] at hf
        clear hS hz hone hend hget hsome
        go_wp2_with (go_at_call 30; (with_reducible refine (h30.out).mono ?_); rintro e w2 ⟨rfl, hw2⟩; subst w2)
        all_goals first | omega | skip
        refine bodyPost_ret (results_none rfl _ _ _) rfl ?_
        exact ⟨rfl, hf.out⟩
      · rw [decide_eq_false hz] at h30
        have ho := Hid.intro (hone.out wr i x va vc hL.out hx.out hTm (hS.room hz))
        clear hS hz hone hend hget hsome hfull hL
        go_wp2_with (first
          | (go_at_call 30; (with_reducible refine (h30.out).mono ?_); rintro e w2 ⟨rfl, hw2⟩; subst w2)
          | (go_at_call 69; (with_reducible refine (ho.out).mono ?_); rintro e w3 ⟨rfl, hL3⟩; replace hL3 := Hid.intro hL3))
        all_goals first | omega | skip
        go_roundw
        case rel => exact ⟨i + 1, by omega, by go_num, hL3⟩
        case measure => simp [intOf]; omega
    · obtain rfl : i = n0 := by omega
      have he := Hid.intro (hend.out wr hL.out)
      clear hend hone hfull hget hsome hL
      go_wp2_with fail
      all_goals first | omega | skip
      go_end0
      exact ⟨rfl, he.out⟩
structure okQ (q : Eqv) : Prop where
  name : q.1.length ≤ 32
  lin : okN q.2
theorem three_rd {T : TypeId} {g : Nat} {v0 v1 v2 : Value} (h : w.heap[g]? = some (.cells #[v0, v1, v2] T (0, 0))) : w.cell? ⟨g, 0, none⟩ = some v0 ∧ w.cell? ⟨g, 1, none⟩ = some v1 ∧ w.cell? ⟨g, 2, none⟩ = some v2 := ⟨(cell_blockT h 0).trans rfl, (cell_blockT h 1).trans rfl, (cell_blockT h 2).trans rfl⟩
set_option maxHeartbeats 4000000 in
theorem wequ_is (h : WX w r acc k) (hk : k ≤ 8000) (hr : w0.heap.size ≤ r) (hB : Below w0.heap.size w0 w) (x : Eqv) (hx : okQ x) (hI : TmLies w0 a x.2.terms) : Calls Tryz.prog 71 #[.pointer (some ⟨r, 0, none⟩), .agg #[.string (str x.1), .slice a x.2.terms.length c, .int .u32 x.2.const]] w fun e w' => e = .returned (.tuple #[]) ∧ WG w w' r ∧ WX w' r (acc ++ sEqu x) (k + 244) := by
  have hrl := h.lt
  obtain ⟨n0, hn0⟩ : ∃ n0, n0 = x.2.terms.length := ⟨_, rfl⟩
  have hb := below_alloc w (.cells #[.string (str x.1), .slice a n0 c, .int .u32 x.2.const] 90)
  have e1 := heap_alloc_new w (.cells #[.string (str x.1), .slice a n0 c, .int .u32 x.2.const] 90)
  have hsz : w0.heap.size ≤ w.heap.size := hB.size
  have hg0 : WG w (w.alloc (.cells #[.string (str x.1), .slice a n0 c, .int .u32 x.2.const] 90)) r := WG.of_below hb hrl
  have hA := Hid.intro (wtx (WG.refl _ r) (h.below hb) (by omega) x.1 hx.name)
  have hF : Hid (∀ w1, WG (w.alloc (.cells #[.string (str x.1), .slice a n0 c, .int .u32 x.2.const] 90)) w1 r → WX w1 r (acc ++ sTx x.1) (k + 40) → Calls Tryz.prog 111 #[.pointer (some ⟨r, 0, none⟩), .agg #[.slice a n0 c, .int .u32 x.2.const]] w1 fun e w' => e = .returned (.tuple #[]) ∧ WG w w' r ∧ WX w' r (acc ++ sEqu x) (k + 244)) := fun w1 g1 x1 => by
    subst hn0
    refine (wli hr (hB.trans (hb.mono hsz)) g1 x1 (by omega) x.2 hx.lin hI).mono ?_
    rintro e w2 ⟨rfl, g2, x2⟩
    refine ⟨rfl, hg0.trans g2, ?_⟩
    rw [List.append_assoc] at x2
    exact x2.more (by omega)
  have hcell : Hid (∀ w1, WG (w.alloc (.cells #[.string (str x.1), .slice a n0 c, .int .u32 x.2.const] 90)) w1 r → w1.cell? ⟨w.heap.size, 1, none⟩ = some (.slice a n0 c) ∧ w1.cell? ⟨w.heap.size, 2, none⟩ = some (.int .u32 x.2.const)) := fun w1 g1 => (three_rd (g1.blk e1 (by omega) (by decide))).2
  rw [← hn0]
  clear hn0 h hb e1 hB hI hx hg0 hrl hsz
  go_enter Tryz.func71, Tryz.ntmps71
  go_wp2_with (first
    | (go_at_call 73; (with_reducible refine (hA.out).mono ?_); rintro e w1 ⟨rfl, g1, x1⟩; obtain ⟨d1, d2⟩ := hcell.out w1 g1; replace g1 := Hid.intro g1; replace x1 := Hid.intro x1; clear hA)
    | (go_at_call 111; (with_reducible refine (hF.out w1 g1.out x1.out).mono ?_); rintro e w2 ⟨rfl, g2, x2⟩; replace g2 := Hid.intro g2; replace x2 := Hid.intro x2; clear g1 x1))
  all_goals first | omega | skip
  go_end0
  exact ⟨rfl, g2.out, x2.out⟩
set_option maxHeartbeats 8000000 in
theorem wequs_is (h : WX w r acc k) (hk : k ≤ 40000) (hr : w0.heap.size ≤ r) (hB : Below w0.heap.size w0 w) (l : List Eqv) (hl : l.length ≤ 9000000) (hok : ∀ x ∈ l, okQ x) (hI : EqIn w0 a l) : Calls Tryz.prog 70 #[.pointer (some ⟨r, 0, none⟩), .slice a l.length c, .func (.func 71) #[.pointer (some ⟨r, 0, none⟩)] #[]] w fun e w' => e = .returned (.tuple #[]) ∧ WG w w' r ∧ WX w' r (acc ++ (O.leB ((l.length : Int) % 4294967296) 2 ++ l.flatMap sEqu)) (k + 300) := by
  have h109 : Hid (Calls Tryz.prog 109 #[.pointer (some ⟨r, 0, none⟩), .int .u32 ((l.length : Int) % 4294967296), .int .i64 2] w fun e w' => e = .returned (.tuple #[]) ∧ WL w r acc (k + 300) sEqu l 0 w') := by
    refine (wnum_is h (by omega) ((l.length : Int) % 4294967296) (by omega) 2 (.inr (.inl rfl))).mono ?_
    rintro e w1 ⟨rfl, g1, x1⟩
    exact ⟨rfl, g1, by simpa using x1.more (by omega)⟩
  have hget : Hid (∀ wr i x, WL w r acc (k + 300) sEqu l i wr → l[i]? = some x → ∃ g o va vc, a = some ⟨g, o, none⟩ ∧ TmLies w0 va x.2.terms ∧ wr.cell? ⟨g, o + i * 3, none⟩ = some (.string (str x.1)) ∧ wr.cell? ⟨g, o + i * 3 + 1, none⟩ = some (.slice va x.2.terms.length vc) ∧ wr.cell? ⟨g, o + i * 3 + 2, none⟩ = some (.int .u32 x.2.const)) := fun wr i x hL hx => by
    have hb := hB.trans (hL.g.below.mono hr)
    rcases hI with rfl | ⟨g, o, ha, hg, hI⟩
    · cases hx
    · obtain ⟨va, vc, h1, h2, h3, h4⟩ := hI i x hx
      exact ⟨g, o, va, vc, ha, h4, (hb.cell (p := ⟨g, _, none⟩) hg).trans h1, (hb.cell (p := ⟨g, _, none⟩) hg).trans h2, (hb.cell (p := ⟨g, _, none⟩) hg).trans h3⟩
  have hone : Hid (∀ wr i x (va : Option Addr) (vc : Nat), WL w r acc (k + 300) sEqu l i wr → l[i]? = some x → TmLies w0 va x.2.terms → WX (wr.alloc (.cells #[.string (str x.1), .slice va x.2.terms.length vc, .int .u32 x.2.const] 90)) r (acc ++ (O.leB ((l.length : Int) % 4294967296) 2 ++ (l.take i).flatMap sEqu)) 0 → Calls Tryz.prog 71 #[.pointer (some ⟨r, 0, none⟩), .agg #[.string (str x.1), .slice va x.2.terms.length vc, .int .u32 x.2.const]] (wr.alloc (.cells #[.string (str x.1), .slice va x.2.terms.length vc, .int .u32 x.2.const] 90)) fun e w' => e = .returned (.tuple #[]) ∧ WL w r acc (k + 300) sEqu l (i + 1) w') := fun wr i x (va : Option Addr) (vc : Nat) hL hx hTm hX => by
    have ht := hok x (List.mem_of_getElem? hx)
    have hBW := (hB.trans (hL.g.below.mono hr)).trans ((below_alloc wr (.cells #[.string (str x.1), .slice va x.2.terms.length vc, .int .u32 x.2.const] 90)).mono (Nat.le_trans hB.size hL.g.size))
    refine (wequ_is hX (by omega) hr hBW x ht hTm).mono ?_
    rintro e w1 ⟨rfl, g1, x1⟩
    exact ⟨rfl, hL.next (below_alloc wr _) hx (by omega) g1 x1⟩
  have hfull : Hid (∀ wr i (x : Eqv) (va : Option Addr) (vc : Nat) az cz zs, WL w r acc (k + 300) sEqu l i wr → WS (wr.alloc (.cells #[.string (str x.1), .slice va x.2.terms.length vc, .int .u32 x.2.const] 90)) r (acc ++ (O.leB ((l.length : Int) % 4294967296) 2 ++ (l.take i).flatMap sEqu)) (k + 300) az cz zs → 1048576 < zs.length → WG w (wr.alloc (.cells #[.string (str x.1), .slice va x.2.terms.length vc, .int .u32 x.2.const] 90)) r ∧ WX (wr.alloc (.cells #[.string (str x.1), .slice va x.2.terms.length vc, .int .u32 x.2.const] 90)) r (acc ++ (O.leB ((l.length : Int) % 4294967296) 2 ++ l.flatMap sEqu)) (k + 300)) := fun wr i x (va : Option Addr) (vc : Nat) az cz zs hL hS hz => ⟨hL.g.trans (WG.of_below (below_alloc wr _) hL.x.lt), WL.full hS hz⟩
  have hend : Hid (∀ wr, WL w r acc (k + 300) sEqu l l.length wr → WG w wr r ∧ WX wr r (acc ++ (O.leB ((l.length : Int) % 4294967296) 2 ++ l.flatMap sEqu)) (k + 300)) := fun wr hL => ⟨hL.g, hL.end⟩
  have hsome : Hid (∀ i, i < l.length → ∃ x, l[i]? = some x) := fun i hi => ⟨_, List.getElem?_eq_getElem hi⟩
  obtain ⟨n0, hn0⟩ : ∃ n0, n0 = l.length := ⟨_, rfl⟩
  have hmod : Hid ((n0 : Int) % 4294967296 = n0) := by show _ = _; omega
  rw [← hn0] at h109 hend hl hsome ⊢
  rw [hmod.out] at h109
  replace hn0 := Hid.intro hn0
  clear h hB hI hok hmod hr
  go_enter Tryz.func70, Tryz.ntmps70
  go_wp2_with (go_at_call 109; (with_reducible refine (h109.out).mono ?_); rintro e w1 ⟨rfl, hL1⟩; replace hL1 := Hid.intro hL1)
  all_goals first | omega | skip
  clear h109
  go_loopw [15] (fun v15 wr => ∃ (i : Nat), i ≤ n0 ∧ v15 = .int .i64 (i : Int) ∧ Hid (WL w r acc (k + 300) sEqu l i wr)) (fun v15 _ => n0 - (intOf v15).toNat)
  case atStart => exact ⟨0, by omega, rfl, hL1⟩
  case round =>
    obtain ⟨i, hi, rfl, hL⟩ := hrel
    clear hL1
    by_cases hin : i < n0
    · obtain ⟨x, hx⟩ := hsome.out i hin
      replace hx := Hid.intro hx
      obtain ⟨g, o, va, vc, ha, hTm, d0, d1, d2⟩ := hget.out wr i x hL.out hx.out
      subst ha
      obtain ⟨az, cz, zs, hS⟩ := hL.out.x.below (below_alloc wr (.cells #[.string (str x.1), .slice va x.2.terms.length vc, .int .u32 x.2.const] 90))
      have h30 := Hid.intro (isFull_is hS (by omega))
      by_cases hz : 1048576 < zs.length
      · rw [decide_eq_true hz] at h30
        have hf := Hid.intro (hfull.out wr i x va vc az cz zs hL.out hS hz)
        rw [← hn0.out] at hf
        clear hS hz hone hend hget hsome
        go_wp2_with (go_at_call 30; (with_reducible refine (h30.out).mono ?_); rintro e w2 ⟨rfl, hw2⟩; subst w2)
        all_goals first | omega | skip
        refine bodyPost_ret (results_none rfl _ _ _) rfl ?_
        exact ⟨rfl, hf.out⟩
      · rw [decide_eq_false hz] at h30
        have ho := Hid.intro (hone.out wr i x va vc hL.out hx.out hTm (hS.room hz))
        clear hS hz hone hend hget hsome hfull hL
        go_wp2_with (first
          | (go_at_call 30; (with_reducible refine (h30.out).mono ?_); rintro e w2 ⟨rfl, hw2⟩; subst w2)
          | (go_at_call 71; (with_reducible refine (ho.out).mono ?_); rintro e w3 ⟨rfl, hL3⟩; replace hL3 := Hid.intro hL3))
        all_goals first | omega | skip
        go_roundw
        case rel => exact ⟨i + 1, by omega, by go_num, hL3⟩
        case measure => simp [intOf]; omega
    · obtain rfl : i = n0 := by omega
      have he := Hid.intro (hend.out wr hL.out)
      clear hend hone hfull hget hsome hL
      go_wp2_with fail
      all_goals first | omega | skip
      go_end0
      exact ⟨rfl, he.out⟩
set_option maxHeartbeats 8000000 in
theorem wglobs_is (h : WX w r acc k) (hk : k ≤ 40000) (hr : w0.heap.size ≤ r) (hB : Below w0.heap.size w0 w) (l : List (List UInt8)) (hl : l.length ≤ 9000000) (hok : ∀ x ∈ l, x.length ≤ 32) (hI : StIn w0 a l) : Calls Tryz.prog 72 #[.pointer (some ⟨r, 0, none⟩), .slice a l.length c, .func (.func 73) #[.pointer (some ⟨r, 0, none⟩)] #[]] w fun e w' => e = .returned (.tuple #[]) ∧ WG w w' r ∧ WX w' r (acc ++ (O.leB ((l.length : Int) % 4294967296) 2 ++ l.flatMap sTx)) (k + 300) := by
  have h109 : Hid (Calls Tryz.prog 109 #[.pointer (some ⟨r, 0, none⟩), .int .u32 ((l.length : Int) % 4294967296), .int .i64 2] w fun e w' => e = .returned (.tuple #[]) ∧ WL w r acc (k + 300) sTx l 0 w') := by
    refine (wnum_is h (by omega) ((l.length : Int) % 4294967296) (by omega) 2 (.inr (.inl rfl))).mono ?_
    rintro e w1 ⟨rfl, g1, x1⟩
    exact ⟨rfl, g1, by simpa using x1.more (by omega)⟩
  have hget : Hid (∀ wr i x, WL w r acc (k + 300) sTx l i wr → l[i]? = some x → ∃ g o, a = some ⟨g, o, none⟩ ∧ wr.cell? ⟨g, o + i, none⟩ = some (.string (str x))) := fun wr i x hL hx => by
    have hb := hB.trans (hL.g.below.mono hr)
    rcases hI with rfl | ⟨g, o, ha, hg, hI⟩
    · cases hx
    · exact ⟨g, o, ha, (hb.cell (p := ⟨g, _, none⟩) hg).trans (hI i x hx)⟩
  have hone : Hid (∀ wr i x, WL w r acc (k + 300) sTx l i wr → l[i]? = some x → WX wr r (acc ++ (O.leB ((l.length : Int) % 4294967296) 2 ++ (l.take i).flatMap sTx)) 0 → Calls Tryz.prog 73 #[.pointer (some ⟨r, 0, none⟩), .string (str x)] wr fun e w' => e = .returned (.tuple #[]) ∧ WL w r acc (k + 300) sTx l (i + 1) w') := fun wr i x hL hx hX => by
    have ht := hok x (List.mem_of_getElem? hx)
    refine (wtx (WG.refl _ r) hX (by omega) x ht).mono ?_
    rintro e w1 ⟨rfl, g1, x1⟩
    exact ⟨rfl, hL.next (Below.refl _ wr) hx (by omega) g1 x1⟩
  have hfull : Hid (∀ wr i (x : (List UInt8)) az cz zs, WL w r acc (k + 300) sTx l i wr → WS wr r (acc ++ (O.leB ((l.length : Int) % 4294967296) 2 ++ (l.take i).flatMap sTx)) (k + 300) az cz zs → 1048576 < zs.length → WG w wr r ∧ WX wr r (acc ++ (O.leB ((l.length : Int) % 4294967296) 2 ++ l.flatMap sTx)) (k + 300)) := fun wr i x az cz zs hL hS hz => ⟨hL.g.trans (WG.of_below (Below.refl _ wr) hL.x.lt), WL.full hS hz⟩
  have hend : Hid (∀ wr, WL w r acc (k + 300) sTx l l.length wr → WG w wr r ∧ WX wr r (acc ++ (O.leB ((l.length : Int) % 4294967296) 2 ++ l.flatMap sTx)) (k + 300)) := fun wr hL => ⟨hL.g, hL.end⟩
  have hsome : Hid (∀ i, i < l.length → ∃ x, l[i]? = some x) := fun i hi => ⟨_, List.getElem?_eq_getElem hi⟩
  obtain ⟨n0, hn0⟩ : ∃ n0, n0 = l.length := ⟨_, rfl⟩
  have hmod : Hid ((n0 : Int) % 4294967296 = n0) := by show _ = _; omega
  rw [← hn0] at h109 hend hl hsome ⊢
  rw [hmod.out] at h109
  replace hn0 := Hid.intro hn0
  clear h hB hI hok hmod hr
  go_enter Tryz.func72, Tryz.ntmps72
  go_wp2_with (go_at_call 109; (with_reducible refine (h109.out).mono ?_); rintro e w1 ⟨rfl, hL1⟩; replace hL1 := Hid.intro hL1)
  all_goals first | omega | skip
  clear h109
  go_loopw [15] (fun v15 wr => ∃ (i : Nat), i ≤ n0 ∧ v15 = .int .i64 (i : Int) ∧ Hid (WL w r acc (k + 300) sTx l i wr)) (fun v15 _ => n0 - (intOf v15).toNat)
  case atStart => exact ⟨0, by omega, rfl, hL1⟩
  case round =>
    obtain ⟨i, hi, rfl, hL⟩ := hrel
    clear hL1
    by_cases hin : i < n0
    · obtain ⟨x, hx⟩ := hsome.out i hin
      replace hx := Hid.intro hx
      obtain ⟨g, o, ha, d0⟩ := hget.out wr i x hL.out hx.out
      subst ha
      obtain ⟨az, cz, zs, hS⟩ := hL.out.x.below (Below.refl _ wr)
      have h30 := Hid.intro (isFull_is hS (by omega))
      by_cases hz : 1048576 < zs.length
      · rw [decide_eq_true hz] at h30
        have hf := Hid.intro (hfull.out wr i x az cz zs hL.out hS hz)
        rw [← hn0.out] at hf
        clear hS hz hone hend hget hsome
        go_wp2_with (go_at_call 30; (with_reducible refine (h30.out).mono ?_); rintro e w2 ⟨rfl, hw2⟩; subst w2)
        all_goals first | omega | skip
        refine bodyPost_ret (results_none rfl _ _ _) rfl ?_
        exact ⟨rfl, hf.out⟩
      · rw [decide_eq_false hz] at h30
        have ho := Hid.intro (hone.out wr i x hL.out hx.out (hS.room hz))
        clear hS hz hone hend hget hsome hfull hL
        go_wp2_with (first
          | (go_at_call 30; (with_reducible refine (h30.out).mono ?_); rintro e w2 ⟨rfl, hw2⟩; subst w2)
          | (go_at_call 73; (with_reducible refine (ho.out).mono ?_); rintro e w3 ⟨rfl, hL3⟩; replace hL3 := Hid.intro hL3))
        all_goals first | omega | skip
        go_roundw
        case rel => exact ⟨i + 1, by omega, by go_num, hL3⟩
        case measure => simp [intOf]; omega
    · obtain rfl : i = n0 := by omega
      have he := Hid.intro (hend.out wr hL.out)
      clear hend hone hfull hget hsome hL
      go_wp2_with fail
      all_goals first | omega | skip
      go_end0
      exact ⟨rfl, he.out⟩
end
end Go.Proofs.YtmndccbeddaphaaGreatDoor
namespace Go.Proofs.YtmndccbeddaphaaGreatDoor
open Go.ChangeShapes Go.WideShapes Go.ChangeAt Go.RowKit Go.Sort
set_option linter.unusedVariables false
set_option linter.unusedSimpArgs false
set_option maxRecDepth 100000
def NumL (x : Lin) : Prop := (0 ≤ x.const ∧ x.const ≤ 4294967295) ∧ ∀ t ∈ x.terms, 0 ≤ t.coef ∧ t.coef ≤ 4294967295
structure NumU (u : UVal) : Prop where
  text : ∀ x ∈ u.text, NumL x.e
  data : ∀ x ∈ u.data, NumL x.e
  equs : ∀ q ∈ u.equs, NumL q.2
structure okU (u : UVal) : Prop where
  text : u.text.length ≤ 9000000 ∧ ∀ x ∈ u.text, okJ x
  data : u.data.length ≤ 9000000 ∧ ∀ x ∈ u.data, okJ x
  equs : u.equs.length ≤ 9000000 ∧ ∀ q ∈ u.equs, okQ q
  globs : u.globs.length ≤ 9000000 ∧ ∀ s ∈ u.globs, s.length ≤ 32
theorem leg_len {s : List UInt8} (h : legB (str s) = true) : s.length ≤ 32 := by
  unfold legB at h
  rw [Bool.and_eq_true] at h
  have h1 := h.1
  simp only [nameOK, decide_eq_true_eq] at h1
  exact h1.2.2
theorem rightF_leg : ∀ {p : Option (List UInt8)} {ts : List Tm}, rightF p ts = true → ∀ t ∈ ts, t.name.length ≤ 32
  | p, [], _, t, ht => by cases ht
  | p, x :: r, h, t, ht => by
    rw [rightF, Bool.and_eq_true] at h
    rcases List.mem_cons.1 ht with rfl | ht
    · have h1 := h.1
      unfold okT at h1
      rw [Bool.and_eq_true, Bool.and_eq_true] at h1
      exact leg_len h1.2.1
    · exact rightF_leg h.2 t ht
theorem okI_okJ {x : Itm} {sec : Int} (h : okI x sec = true) (hN : NumL x.e) (hf : x.e.terms.length ≤ 9000000) : okJ x := by
  unfold okI okB at h
  simp only [Bool.and_eq_true] at h
  obtain ⟨_, h1, _, h2, _⟩ := h
  refine ⟨?_, hf, ?_, hN.1⟩
  · unfold nameB at h1
    split at h1
    · exact leg_len h1
    · have h3 := of_decide_eq_true h1
      have : x.name = [] := by simpa [str] using h3
      rw [this]
      exact Nat.zero_le _
  · intro t ht
    unfold exprB at h2
    split at h2
    · exact ⟨rightF_leg h2 t ht, hN.2 t ht⟩
    · rw [Bool.and_eq_true] at h2
      have := of_decide_eq_true h2.1
      rw [List.length_eq_zero_iff] at this
      rw [this] at ht
      cases ht
theorem okE_okQ {q : Eqv} (h : okE q = true) (hN : NumL q.2) (hf : q.2.terms.length ≤ 9000000) : okQ q := by
  unfold okE at h
  rw [Bool.and_eq_true] at h
  exact ⟨leg_len h.1, hf, fun t ht => ⟨rightF_leg h.2 t ht, hN.2 t ht⟩, hN.1⟩
section
variable {w w' w0 wA : World} {r : Nat} {acc zs : List Int} {k : Nat} {a : Option Addr} {c : Nat}
def manyT (x : Itm) : Bool := decide (65535 < x.e.terms.length)
def manyQ (q : Eqv) : Bool := decide (65535 < q.2.terms.length)
def manyU (u : UVal) : Bool := u.text.any manyT || (u.data.any manyT || u.equs.any manyQ)
theorem many64 (x : Itm) (va : Option Addr) (vc n : Nat) (hn : n ≤ 9000000) (w : World) : Calls Tryz.prog 64 #[.agg (itmCells x (.slice va n vc))] w fun e w' => e = .returned (.bool (decide (65535 < n))) ∧ Below w.heap.size w w' := by
  have hb := below_alloc w (.cells (itmCells x (.slice va n vc)) 86)
  go_enter Tryz.func64, Tryz.ntmps64
  go_wp2
  all_goals first | omega | skip
  go_ret
  refine ⟨?_, hb⟩
  by_cases hq : 65535 < n
  · simp [hq]; omega
  · simp [hq]; omega
theorem many65 (x : Eqv) (va : Option Addr) (vc n : Nat) (hn : n ≤ 9000000) (w : World) : Calls Tryz.prog 65 #[.agg #[.string (str x.1), .slice va n vc, .int .u32 x.2.const]] w fun e w' => e = .returned (.bool (decide (65535 < n))) ∧ Below w.heap.size w w' := by
  have hb := below_alloc w (.cells #[.string (str x.1), .slice va n vc, .int .u32 x.2.const] 90)
  go_enter Tryz.func65, Tryz.ntmps65
  go_wp2
  all_goals first | omega | skip
  go_ret
  refine ⟨?_, hb⟩
  by_cases hq : 65535 < n
  · simp [hq]; omega
  · simp [hq]; omega
theorem any_take_succ107 (l : List Itm) (i : Nat) (x : _) (hx : l[i]? = some x) : (l.take (i + 1)).any manyT = ((l.take i).any manyT || manyT x) := by
  rw [List.take_add_one, hx]
  simp
set_option maxHeartbeats 4000000 in
theorem idxI (l : List Itm) (hl : l.length ≤ 1100000) (hf : ∀ x ∈ l, x.e.terms.length ≤ 9000000) (w : World) (hI : ItIn w a l) : Calls Tryz.prog 107 #[.slice a l.length c, .func (.func 64) #[] #[]] w fun e w' => (∃ j : Int, e = .returned (.int .i64 j) ∧ decide (0 ≤ j) = l.any manyT) ∧ Below w.heap.size w w' := by
  have hget : Hid (∀ wr i, Below w.heap.size w wr → i < l.length → ∃ x, l[i]? = some x ∧ ∃ g o va vc, a = some ⟨g, o, none⟩ ∧ ItAt wr g (o + i * 10) x va x.e.terms.length vc) := fun wr i hb hi => by
    obtain ⟨x, hx⟩ : ∃ x, l[i]? = some x := ⟨_, List.getElem?_eq_getElem hi⟩
    refine ⟨x, hx, ?_⟩
    rcases hI with rfl | ⟨g, o, ha, hg, hI⟩
    · cases hx
    · obtain ⟨va, vc, h1, h2⟩ := hI i x hx
      exact ⟨g, o, va, vc, ha, h1.below hb hg⟩
  have hnx : Hid (∀ i x, l[i]? = some x → (l.take i).any manyT = false → manyT x = false → (l.take (i + 1)).any manyT = false) := fun i x hx h1 h2 => by rw [any_take_succ107 l i x hx, h1, h2]; rfl
  have hyes : Hid (∀ i x, l[i]? = some x → manyT x = true → l.any manyT = true) := fun i x hx h1 => List.any_eq_true.2 ⟨x, List.mem_of_getElem? hx, h1⟩
  have hfew : Hid (∀ (i : Nat) (x : Itm), l[i]? = some x → x.e.terms.length ≤ 9000000) := fun i x hx => hf x (List.mem_of_getElem? hx)
  have hno : Hid (∀ i, i = l.length → (l.take i).any manyT = false → l.any manyT = false) := fun i hi h1 => by rw [hi, List.take_length] at h1; exact h1
  generalize hA : l.any manyT = AA at *
  obtain ⟨n0, hn0⟩ : ∃ n0, n0 = l.length := ⟨_, rfl⟩
  rw [← hn0] at hl hget hno ⊢
  clear hn0 hI hf hA
  go_enter Tryz.func107, Tryz.ntmps107
  go_wp2
  all_goals first | omega | skip
  go_loopw [8] (fun v8 wr => ∃ (i : Nat), i ≤ n0 ∧ v8 = .int .i64 (i : Int) ∧ Hid (Below w.heap.size w wr) ∧ Hid ((l.take i).any manyT = false)) (fun v8 _ => n0 - (intOf v8).toNat)
  case atStart => exact ⟨0, by omega, rfl, Below.refl _ _, rfl⟩
  case round =>
    obtain ⟨i, hi, rfl, hb, hn⟩ := hrel
    by_cases hin : i < n0
    · obtain ⟨x, hx, g, o, va, vc, ha, ⟨d0, d1, d2, d3, d4, d5, d6, d7, d8, d9⟩⟩ := hget.out wr i hb.out hin
      have hx2 := Hid.intro hx
      have hm := Hid.intro (many64 x va vc x.e.terms.length (hfew.out i x hx) wr)
      clear hx
      subst ha
      cases hq : manyT x
      · have hq2 : decide (65535 < x.e.terms.length) = false := hq
        rw [hq2] at hm
        have hnn := Hid.intro (hnx.out i x hx2.out hn.out hq)
        clear hq hq2
        go_wp2_with (go_at_call 64; (with_reducible refine (hm.out).mono ?_); rintro e w2 ⟨rfl, hb2⟩; have hb3 := Hid.intro (hb.out.trans (hb2.mono hb.out.size)); clear hb2)
        all_goals first | omega | skip
        go_roundw
        case rel => exact ⟨i + 1, by omega, by go_num, hb3, hnn⟩
        case measure => simp [intOf]; omega
      · have hq2 : decide (65535 < x.e.terms.length) = true := hq
        rw [hq2] at hm
        have hyy := Hid.intro (hyes.out i x hx2.out hq)
        clear hq hq2
        go_wp2_with (go_at_call 64; (with_reducible refine (hm.out).mono ?_); rintro e w2 ⟨rfl, hb2⟩; have hb3 := Hid.intro (hb.out.trans (hb2.mono hb.out.size)); clear hb2)
        all_goals first | omega | skip
        go_ret
        exact ⟨⟨_, rfl, by rw [hyy.out]; simp⟩, hb3.out⟩
    · obtain rfl : i = n0 := by omega
      have hnn := Hid.intro (hno.out i rfl hn.out)
      go_wp2_with fail
      all_goals first | omega | skip
      go_ret
      exact ⟨⟨_, rfl, by rw [hnn.out]; simp⟩, hb.out⟩
set_option maxHeartbeats 4000000 in
theorem idxIC (l : List Itm) (hl : l.length ≤ 1100000) (hf : ∀ x ∈ l, x.e.terms.length ≤ 9000000) (w : World) (hI : ItIn w a l) : Calls Tryz.prog 66 #[.slice a l.length c, .func (.func 64) #[] #[]] w fun e w' => e = .returned (.bool (l.any manyT)) ∧ Below w.heap.size w w' := by
  have hh := Hid.intro (idxI (c := c) l hl hf w hI)
  generalize l.any manyT = AA at *
  generalize l.length = n0 at *
  clear hI hf
  go_enter Tryz.func66, Tryz.ntmps66
  go_wp2_with (go_at_call 107; (with_reducible refine (hh.out).mono ?_); rintro e w2 ⟨⟨j, rfl, hj⟩, hb2⟩; replace hj := Hid.intro hj; replace hb2 := Hid.intro hb2)
  all_goals first | omega | skip
  go_ret
  refine ⟨?_, hb2.out⟩
  rw [← hj.out]
  rfl
theorem any_take_succ108 (l : List Eqv) (i : Nat) (x : _) (hx : l[i]? = some x) : (l.take (i + 1)).any manyQ = ((l.take i).any manyQ || manyQ x) := by
  rw [List.take_add_one, hx]
  simp
set_option maxHeartbeats 4000000 in
theorem idxE (l : List Eqv) (hl : l.length ≤ 1100000) (hf : ∀ x ∈ l, x.2.terms.length ≤ 9000000) (w : World) (hI : EqIn w a l) : Calls Tryz.prog 108 #[.slice a l.length c, .func (.func 65) #[] #[]] w fun e w' => (∃ j : Int, e = .returned (.int .i64 j) ∧ decide (0 ≤ j) = l.any manyQ) ∧ Below w.heap.size w w' := by
  have hget : Hid (∀ wr i, Below w.heap.size w wr → i < l.length → ∃ x, l[i]? = some x ∧ ∃ g o va vc, a = some ⟨g, o, none⟩ ∧ wr.cell? ⟨g, o + i * 3, none⟩ = some (.string (str x.1)) ∧ wr.cell? ⟨g, o + i * 3 + 1, none⟩ = some (.slice va x.2.terms.length vc) ∧ wr.cell? ⟨g, o + i * 3 + 2, none⟩ = some (.int .u32 x.2.const)) := fun wr i hb hi => by
    obtain ⟨x, hx⟩ : ∃ x, l[i]? = some x := ⟨_, List.getElem?_eq_getElem hi⟩
    refine ⟨x, hx, ?_⟩
    rcases hI with rfl | ⟨g, o, ha, hg, hI⟩
    · cases hx
    · obtain ⟨va, vc, h1, h2, h3, h4⟩ := hI i x hx
      exact ⟨g, o, va, vc, ha, (hb.cell (p := ⟨g, _, none⟩) hg).trans h1, (hb.cell (p := ⟨g, _, none⟩) hg).trans h2, (hb.cell (p := ⟨g, _, none⟩) hg).trans h3⟩
  have hnx : Hid (∀ i x, l[i]? = some x → (l.take i).any manyQ = false → manyQ x = false → (l.take (i + 1)).any manyQ = false) := fun i x hx h1 h2 => by rw [any_take_succ108 l i x hx, h1, h2]; rfl
  have hyes : Hid (∀ i x, l[i]? = some x → manyQ x = true → l.any manyQ = true) := fun i x hx h1 => List.any_eq_true.2 ⟨x, List.mem_of_getElem? hx, h1⟩
  have hfew : Hid (∀ (i : Nat) (x : Eqv), l[i]? = some x → x.2.terms.length ≤ 9000000) := fun i x hx => hf x (List.mem_of_getElem? hx)
  have hno : Hid (∀ i, i = l.length → (l.take i).any manyQ = false → l.any manyQ = false) := fun i hi h1 => by rw [hi, List.take_length] at h1; exact h1
  generalize hA : l.any manyQ = AA at *
  obtain ⟨n0, hn0⟩ : ∃ n0, n0 = l.length := ⟨_, rfl⟩
  rw [← hn0] at hl hget hno ⊢
  clear hn0 hI hf hA
  go_enter Tryz.func108, Tryz.ntmps108
  go_wp2
  all_goals first | omega | skip
  go_loopw [8] (fun v8 wr => ∃ (i : Nat), i ≤ n0 ∧ v8 = .int .i64 (i : Int) ∧ Hid (Below w.heap.size w wr) ∧ Hid ((l.take i).any manyQ = false)) (fun v8 _ => n0 - (intOf v8).toNat)
  case atStart => exact ⟨0, by omega, rfl, Below.refl _ _, rfl⟩
  case round =>
    obtain ⟨i, hi, rfl, hb, hn⟩ := hrel
    by_cases hin : i < n0
    · obtain ⟨x, hx, g, o, va, vc, ha, d0, d1, d2⟩ := hget.out wr i hb.out hin
      have hx2 := Hid.intro hx
      have hm := Hid.intro (many65 x va vc x.2.terms.length (hfew.out i x hx) wr)
      clear hx
      subst ha
      cases hq : manyQ x
      · have hq2 : decide (65535 < x.2.terms.length) = false := hq
        rw [hq2] at hm
        have hnn := Hid.intro (hnx.out i x hx2.out hn.out hq)
        clear hq hq2
        go_wp2_with (go_at_call 65; (with_reducible refine (hm.out).mono ?_); rintro e w2 ⟨rfl, hb2⟩; have hb3 := Hid.intro (hb.out.trans (hb2.mono hb.out.size)); clear hb2)
        all_goals first | omega | skip
        go_roundw
        case rel => exact ⟨i + 1, by omega, by go_num, hb3, hnn⟩
        case measure => simp [intOf]; omega
      · have hq2 : decide (65535 < x.2.terms.length) = true := hq
        rw [hq2] at hm
        have hyy := Hid.intro (hyes.out i x hx2.out hq)
        clear hq hq2
        go_wp2_with (go_at_call 65; (with_reducible refine (hm.out).mono ?_); rintro e w2 ⟨rfl, hb2⟩; have hb3 := Hid.intro (hb.out.trans (hb2.mono hb.out.size)); clear hb2)
        all_goals first | omega | skip
        go_ret
        exact ⟨⟨_, rfl, by rw [hyy.out]; simp⟩, hb3.out⟩
    · obtain rfl : i = n0 := by omega
      have hnn := Hid.intro (hno.out i rfl hn.out)
      go_wp2_with fail
      all_goals first | omega | skip
      go_ret
      exact ⟨⟨_, rfl, by rw [hnn.out]; simp⟩, hb.out⟩
set_option maxHeartbeats 4000000 in
theorem idxEC (l : List Eqv) (hl : l.length ≤ 1100000) (hf : ∀ x ∈ l, x.2.terms.length ≤ 9000000) (w : World) (hI : EqIn w a l) : Calls Tryz.prog 67 #[.slice a l.length c, .func (.func 65) #[] #[]] w fun e w' => e = .returned (.bool (l.any manyQ)) ∧ Below w.heap.size w w' := by
  have hh := Hid.intro (idxE (c := c) l hl hf w hI)
  generalize l.any manyQ = AA at *
  generalize l.length = n0 at *
  clear hI hf
  go_enter Tryz.func67, Tryz.ntmps67
  go_wp2_with (go_at_call 108; (with_reducible refine (hh.out).mono ?_); rintro e w2 ⟨⟨j, rfl, hj⟩, hb2⟩; replace hj := Hid.intro hj; replace hb2 := Hid.intro hb2)
  all_goals first | omega | skip
  go_ret
  refine ⟨?_, hb2.out⟩
  rw [← hj.out]
  rfl
set_option maxHeartbeats 8000000 in
theorem many_is (ta : Option Addr) (tc : Nat) (da : Option Addr) (dc : Nat) (ea : Option Addr) (ec : Nat) (ga : Option Addr) (gc : Nat) (u : UVal) (hu : HeldU u) (w : World) (hI : UnitIn w ta da ea ga u) : Calls Tryz.prog 28 #[.agg (unitV ta tc da dc ea ec ga gc u)] w fun e w' => e = .returned (.bool (manyU u)) ∧ Below w.heap.size w w' := by
  have hb := below_alloc w (.cells (unitV ta tc da dc ea ec ga gc u) 30)
  have e1 := heap_alloc_new w (.cells (unitV ta tc da dc ea ec ga gc u) 30)
  have hT : Hid (∀ w1, Below w.heap.size w w1 → Calls Tryz.prog 66 #[.slice ta u.text.length tc, .func (.func 64) #[] #[]] w1 fun e w' => e = .returned (.bool (u.text.any manyT)) ∧ Below w1.heap.size w1 w') := fun w1 h1 => idxIC u.text hu.text.1 (fun x hx => (hu.text.2 x hx).few) w1 (hI.text.below h1)
  have hD : Hid (∀ w1, Below w.heap.size w w1 → Calls Tryz.prog 66 #[.slice da u.data.length dc, .func (.func 64) #[] #[]] w1 fun e w' => e = .returned (.bool (u.data.any manyT)) ∧ Below w1.heap.size w1 w') := fun w1 h1 => idxIC u.data hu.data.1 (fun x hx => (hu.data.2 x hx).few) w1 (hI.data.below h1)
  have hE : Hid (∀ w1, Below w.heap.size w w1 → Calls Tryz.prog 67 #[.slice ea u.equs.length ec, .func (.func 65) #[] #[]] w1 fun e w' => e = .returned (.bool (u.equs.any manyQ)) ∧ Below w1.heap.size w1 w') := fun w1 h1 => idxEC u.equs hu.equs.1 (fun x hx => (hu.equs.2 x hx).few) w1 (hI.equs.below h1)
  have hc : Hid (∀ w1, Below (w.alloc (.cells (unitV ta tc da dc ea ec ga gc u) 30)).heap.size (w.alloc (.cells (unitV ta tc da dc ea ec ga gc u) 30)) w1 → _) := fun w1 h1 => four_read ((h1.block w.heap.size (by simp)).trans e1)
  have hB1 : Hid (∀ w1, Below (w.alloc (.cells (unitV ta tc da dc ea ec ga gc u) 30)).heap.size (w.alloc (.cells (unitV ta tc da dc ea ec ga gc u) 30)) w1 → Below w.heap.size w w1) := fun w1 h1 => hb.trans (h1.mono hb.size)
  have hM : manyU u = (u.text.any manyT || (u.data.any manyT || u.equs.any manyQ)) := rfl
  rw [hM]
  replace hb := Hid.intro hb
  clear hM hu hI e1
  generalize u.text.any manyT = B1 at *
  generalize u.data.any manyT = B2 at *
  generalize u.equs.any manyQ = B3 at *
  cases B1 <;> cases B2 <;> cases B3
  all_goals
    go_enter Tryz.func28, Tryz.ntmps28
    go_wp2_with (first
      | (go_at_call 66; (with_reducible refine (hT.out _ hb.out).mono ?_); rintro e w1 ⟨rfl, b1⟩; obtain ⟨_, d1, d2, _⟩ := hc.out w1 b1; replace b1 := Hid.intro b1; clear hT)
      | (go_at_call 66; (with_reducible refine (hD.out _ (hB1.out _ b1.out)).mono ?_); rintro e w2 ⟨rfl, b2⟩; replace b2 := Hid.intro (b1.out.trans (b2.mono b1.out.size)); obtain ⟨_, _, d3, _⟩ := hc.out w2 b2.out; clear hD)
      | (go_at_call 67; (with_reducible refine (hE.out _ (hB1.out _ b2.out)).mono ?_); rintro e w3 ⟨rfl, b3⟩; replace b3 := Hid.intro (b2.out.trans (b3.mono b2.out.size)); clear hE))
    all_goals first | omega | skip
    go_ret
    first
      | exact ⟨rfl, hB1.out _ b3.out⟩
      | exact ⟨rfl, hB1.out _ b2.out⟩
      | exact ⟨rfl, hB1.out _ b1.out⟩
end
end Go.Proofs.YtmndccbeddaphaaGreatDoor

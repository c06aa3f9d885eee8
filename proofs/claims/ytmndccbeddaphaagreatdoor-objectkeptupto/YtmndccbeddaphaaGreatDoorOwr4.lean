/- object's writer: lists of items, equs, globals. -/
import Derived.Test.YtmndccbeddaphaaGreatDoorOwr3
import Derived.Test.YtmndccbeddaphaaGreatDoorOcMath
namespace Go.Proofs.YtmndccbeddaphaaGreatDoor
open Go.ChangeShapes Go.WideShapes Go.ChangeAt Go.RowKit Go.Sort
set_option linter.unusedVariables false
set_option linter.unusedSimpArgs false
set_option maxRecDepth 100000
section
variable {w w' w0 wA : World} {r : Nat} {acc zs : List Int} {k : Nat} {a : Option Addr} {c : Nat}
set_option maxHeartbeats 8000000 in
theorem witems_is (h : WX w r acc k) (hk : k ≤ 40000) (hr : w0.heap.size ≤ r) (hB : Below w0.heap.size w0 w) (hT : Tab w0) (l : List Itm) (hl : l.length ≤ 9000000) (hok : ∀ x ∈ l, okJ x) (hI : ItIn w0 a l) : Calls Tryz.prog 68 #[.pointer (some ⟨r, 0, none⟩), .slice a l.length c, .func (.func 69) #[.pointer (some ⟨r, 0, none⟩)] #[]] w fun e w' => e = .returned (.tuple #[]) ∧ WG w w' r ∧ WX w' r (acc ++ (O.leB ((l.length : Int) % 4294967296) 2 ++ l.flatMap sItem)) (k + 300) := by
  have h109 : Hid (Calls Tryz.prog 109 #[.pointer (some ⟨r, 0, none⟩), .int .u32 ((l.length : Int) % 4294967296), .int .i64 2] w fun e w' => e = .returned (.tuple #[]) ∧ WL w r acc (k + 300) sItem l 0 w') := by
    refine (wnum_is h (by omega) ((l.length : Int) % 4294967296) (by omega) 2 (.inr (.inl rfl))).mono ?_
    rintro e w1 ⟨rfl, g1, x1⟩
    exact ⟨rfl, g1, by simpa using x1.more (by omega)⟩
  have hget : Hid (∀ wr i x, WL w r acc (k + 300) sItem l i wr → l[i]? = some x → ∃ g o va vc, a = some ⟨g, o, none⟩ ∧ TmLies w0 va x.e.terms ∧ ItAt wr g (o + i * 10) x va x.e.terms.length vc) := fun wr i x hL hx => by
    have hb := hB.trans (hL.g.below.mono hr)
    rcases hI with rfl | ⟨g, o, ha, hg, hI⟩
    · cases hx
    · obtain ⟨va, vc, h1, h2⟩ := hI i x hx
      exact ⟨g, o, va, vc, ha, h2, h1.below hb hg⟩
  have hone : Hid (∀ wr i x (va : Option Addr) (vc : Nat), WL w r acc (k + 300) sItem l i wr → l[i]? = some x → TmLies w0 va x.e.terms → WX (wr.alloc (.cells #[.int .i64 x.kind, .string (str x.name), .int .i64 x.op, .int .i64 x.a, .int .i64 x.b, .int .i32 x.m, .int .i64 x.form, .slice va x.e.terms.length vc, .int .u32 x.e.const, .int .i64 x.n] 86)) r (acc ++ (O.leB ((l.length : Int) % 4294967296) 2 ++ (l.take i).flatMap sItem)) 0 → Calls Tryz.prog 69 #[.pointer (some ⟨r, 0, none⟩), .agg #[.int .i64 x.kind, .string (str x.name), .int .i64 x.op, .int .i64 x.a, .int .i64 x.b, .int .i32 x.m, .int .i64 x.form, .slice va x.e.terms.length vc, .int .u32 x.e.const, .int .i64 x.n]] (wr.alloc (.cells #[.int .i64 x.kind, .string (str x.name), .int .i64 x.op, .int .i64 x.a, .int .i64 x.b, .int .i32 x.m, .int .i64 x.form, .slice va x.e.terms.length vc, .int .u32 x.e.const, .int .i64 x.n] 86)) fun e w' => e = .returned (.tuple #[]) ∧ WL w r acc (k + 300) sItem l (i + 1) w') := fun wr i x (va : Option Addr) (vc : Nat) hL hx hTm hX => by
    have ht := hok x (List.mem_of_getElem? hx)
    have hBW := (hB.trans (hL.g.below.mono hr)).trans ((below_alloc wr (.cells #[.int .i64 x.kind, .string (str x.name), .int .i64 x.op, .int .i64 x.a, .int .i64 x.b, .int .i32 x.m, .int .i64 x.form, .slice va x.e.terms.length vc, .int .u32 x.e.const, .int .i64 x.n] 86)).mono (Nat.le_trans hB.size hL.g.size))
    refine (witem_is hX (by omega) hr hBW hT x ht hTm).mono ?_
    rintro e w1 ⟨rfl, g1, x1⟩
    exact ⟨rfl, hL.next (below_alloc wr _) hx (by omega) g1 x1⟩
  have hfull : Hid (∀ wr i (x : Itm) (va : Option Addr) (vc : Nat) az cz zs, WL w r acc (k + 300) sItem l i wr → WS (wr.alloc (.cells #[.int .i64 x.kind, .string (str x.name), .int .i64 x.op, .int .i64 x.a, .int .i64 x.b, .int .i32 x.m, .int .i64 x.form, .slice va x.e.terms.length vc, .int .u32 x.e.const, .int .i64 x.n] 86)) r (acc ++ (O.leB ((l.length : Int) % 4294967296) 2 ++ (l.take i).flatMap sItem)) (k + 300) az cz zs → 1048576 < zs.length → WG w (wr.alloc (.cells #[.int .i64 x.kind, .string (str x.name), .int .i64 x.op, .int .i64 x.a, .int .i64 x.b, .int .i32 x.m, .int .i64 x.form, .slice va x.e.terms.length vc, .int .u32 x.e.const, .int .i64 x.n] 86)) r ∧ WX (wr.alloc (.cells #[.int .i64 x.kind, .string (str x.name), .int .i64 x.op, .int .i64 x.a, .int .i64 x.b, .int .i32 x.m, .int .i64 x.form, .slice va x.e.terms.length vc, .int .u32 x.e.const, .int .i64 x.n] 86)) r (acc ++ (O.leB ((l.length : Int) % 4294967296) 2 ++ l.flatMap sItem)) (k + 300)) := fun wr i x (va : Option Addr) (vc : Nat) az cz zs hL hS hz => ⟨hL.g.trans (WG.of_below (below_alloc wr _) hL.x.lt), WL.full hS hz⟩
  have hend : Hid (∀ wr, WL w r acc (k + 300) sItem l l.length wr → WG w wr r ∧ WX wr r (acc ++ (O.leB ((l.length : Int) % 4294967296) 2 ++ l.flatMap sItem)) (k + 300)) := fun wr hL => ⟨hL.g, hL.end⟩
  have hsome : Hid (∀ i, i < l.length → ∃ x, l[i]? = some x) := fun i hi => ⟨_, List.getElem?_eq_getElem hi⟩
  obtain ⟨n0, hn0⟩ : ∃ n0, n0 = l.length := ⟨_, rfl⟩
  have hmod : Hid ((n0 : Int) % 4294967296 = n0) := by show _ = _; omega
  rw [← hn0] at h109 hend hl hsome ⊢
  rw [hmod.out] at h109
  replace hn0 := Hid.intro hn0
  clear h hB hI hok hmod hr
  go_enter Tryz.func68, Tryz.ntmps68
  go_wp2_with (go_at_call 109; (with_reducible refine (h109.out).mono ?_); rintro e w1 ⟨rfl, hL1⟩; replace hL1 := Hid.intro hL1)
  all_goals first | omega | skip
  clear h109
  go_loopw [15] (fun v15 wr => ∃ (i : Nat), i ≤ n0 ∧ v15 = .int .i64 (i : Int) ∧ Hid (WL w r acc (k + 300) sItem l i wr)) (fun v15 _ => n0 - (intOf v15).toNat)
  case atStart => exact ⟨0, by omega, rfl, hL1⟩
  case round =>
    obtain ⟨i, hi, rfl, hL⟩ := hrel
    clear hL1
    by_cases hin : i < n0
    · obtain ⟨x, hx⟩ := hsome.out i hin
      replace hx := Hid.intro hx
      obtain ⟨g, o, va, vc, ha, hTm, ⟨d0, d1, d2, d3, d4, d5, d6, d7, d8, d9⟩⟩ := hget.out wr i x hL.out hx.out
      subst ha
      obtain ⟨az, cz, zs, hS⟩ := hL.out.x.below (below_alloc wr (.cells #[.int .i64 x.kind, .string (str x.name), .int .i64 x.op, .int .i64 x.a, .int .i64 x.b, .int .i32 x.m, .int .i64 x.form, .slice va x.e.terms.length vc, .int .u32 x.e.const, .int .i64 x.n] 86))
      have h30 := Hid.intro (isFull_is hS (by omega))
      by_cases hz : 1048576 < zs.length
      · rw [decide_eq_true hz] at h30
        have hf := Hid.intro (hfull.out wr i x va vc az cz zs hL.out hS hz)
        rw [← hn0.out] at hf
        clear hS hz hone hend hget hsome
        go_wp2_with (go_at_call 30; (with_reducible refine (h30.out).mono ?_); rintro e w2 ⟨rfl, hw2⟩; subst w2)
        all_goals first | omega | skip
        refine bodyPost_ret (results_none rfl _ _ _) rfl ?_
        exact ⟨rfl, hf.out⟩
      · rw [decide_eq_false hz] at h30
        have ho := Hid.intro (hone.out wr i x va vc hL.out hx.out hTm (hS.room hz))
        clear hS hz hone hend hget hsome hfull hL
        go_wp2_with (first
          | (go_at_call 30; (with_reducible refine (h30.out).mono ?_); rintro e w2 ⟨rfl, hw2⟩; subst w2)
          | (go_at_call 69; (with_reducible refine (ho.out).mono ?_); rintro e w3 ⟨rfl, hL3⟩; replace hL3 := Hid.intro hL3))
        all_goals first | omega | skip
        go_roundw
        case rel => exact ⟨i + 1, by omega, by go_num, hL3⟩
        case measure => simp [intOf]; omega
    · obtain rfl : i = n0 := by omega
      have he := Hid.intro (hend.out wr hL.out)
      clear hend hone hfull hget hsome hL
      go_wp2_with fail
      all_goals first | omega | skip
      go_end0
      exact ⟨rfl, he.out⟩
structure okQ (q : Eqv) : Prop where
  name : q.1.length ≤ 32
  lin : okN q.2
theorem three_rd {T : TypeId} {g : Nat} {v0 v1 v2 : Value} (h : w.heap[g]? = some (.cells #[v0, v1, v2] T (0, 0))) : w.cell? ⟨g, 0, none⟩ = some v0 ∧ w.cell? ⟨g, 1, none⟩ = some v1 ∧ w.cell? ⟨g, 2, none⟩ = some v2 := ⟨(cell_blockT h 0).trans rfl, (cell_blockT h 1).trans rfl, (cell_blockT h 2).trans rfl⟩
set_option maxHeartbeats 4000000 in
theorem wequ_is (h : WX w r acc k) (hk : k ≤ 8000) (hr : w0.heap.size ≤ r) (hB : Below w0.heap.size w0 w) (x : Eqv) (hx : okQ x) (hI : TmLies w0 a x.2.terms) : Calls Tryz.prog 71 #[.pointer (some ⟨r, 0, none⟩), .agg #[.string (str x.1), .slice a x.2.terms.length c, .int .u32 x.2.const]] w fun e w' => e = .returned (.tuple #[]) ∧ WG w w' r ∧ WX w' r (acc ++ sEqu x) (k + 244) := by
  have hrl := h.lt
  obtain ⟨n0, hn0⟩ : ∃ n0, n0 = x.2.terms.length := ⟨_, rfl⟩
  have hb := below_alloc w (.cells #[.string (str x.1), .slice a n0 c, .int .u32 x.2.const] 90)
  have e1 := heap_alloc_new w (.cells #[.string (str x.1), .slice a n0 c, .int .u32 x.2.const] 90)
  have hsz : w0.heap.size ≤ w.heap.size := hB.size
  have hg0 : WG w (w.alloc (.cells #[.string (str x.1), .slice a n0 c, .int .u32 x.2.const] 90)) r := WG.of_below hb hrl
  have hA := Hid.intro (wtx (WG.refl _ r) (h.below hb) (by omega) x.1 hx.name)
  have hF : Hid (∀ w1, WG (w.alloc (.cells #[.string (str x.1), .slice a n0 c, .int .u32 x.2.const] 90)) w1 r → WX w1 r (acc ++ sTx x.1) (k + 40) → Calls Tryz.prog 111 #[.pointer (some ⟨r, 0, none⟩), .agg #[.slice a n0 c, .int .u32 x.2.const]] w1 fun e w' => e = .returned (.tuple #[]) ∧ WG w w' r ∧ WX w' r (acc ++ sEqu x) (k + 244)) := fun w1 g1 x1 => by
    subst hn0
    refine (wli hr (hB.trans (hb.mono hsz)) g1 x1 (by omega) x.2 hx.lin hI).mono ?_
    rintro e w2 ⟨rfl, g2, x2⟩
    refine ⟨rfl, hg0.trans g2, ?_⟩
    rw [List.append_assoc] at x2
    exact x2.more (by omega)
  have hcell : Hid (∀ w1, WG (w.alloc (.cells #[.string (str x.1), .slice a n0 c, .int .u32 x.2.const] 90)) w1 r → w1.cell? ⟨w.heap.size, 1, none⟩ = some (.slice a n0 c) ∧ w1.cell? ⟨w.heap.size, 2, none⟩ = some (.int .u32 x.2.const)) := fun w1 g1 => (three_rd (g1.blk e1 (by omega) (by decide))).2
  rw [← hn0]
  clear hn0 h hb e1 hB hI hx hg0 hrl hsz
  go_enter Tryz.func71, Tryz.ntmps71
  go_wp2_with (first
    | (go_at_call 73; (with_reducible refine (hA.out).mono ?_); rintro e w1 ⟨rfl, g1, x1⟩; obtain ⟨d1, d2⟩ := hcell.out w1 g1; replace g1 := Hid.intro g1; replace x1 := Hid.intro x1; clear hA)
    | (go_at_call 111; (with_reducible refine (hF.out w1 g1.out x1.out).mono ?_); rintro e w2 ⟨rfl, g2, x2⟩; replace g2 := Hid.intro g2; replace x2 := Hid.intro x2; clear g1 x1))
  all_goals first | omega | skip
  go_end0
  exact ⟨rfl, g2.out, x2.out⟩
set_option maxHeartbeats 8000000 in
theorem wequs_is (h : WX w r acc k) (hk : k ≤ 40000) (hr : w0.heap.size ≤ r) (hB : Below w0.heap.size w0 w) (l : List Eqv) (hl : l.length ≤ 9000000) (hok : ∀ x ∈ l, okQ x) (hI : EqIn w0 a l) : Calls Tryz.prog 70 #[.pointer (some ⟨r, 0, none⟩), .slice a l.length c, .func (.func 71) #[.pointer (some ⟨r, 0, none⟩)] #[]] w fun e w' => e = .returned (.tuple #[]) ∧ WG w w' r ∧ WX w' r (acc ++ (O.leB ((l.length : Int) % 4294967296) 2 ++ l.flatMap sEqu)) (k + 300) := by
  have h109 : Hid (Calls Tryz.prog 109 #[.pointer (some ⟨r, 0, none⟩), .int .u32 ((l.length : Int) % 4294967296), .int .i64 2] w fun e w' => e = .returned (.tuple #[]) ∧ WL w r acc (k + 300) sEqu l 0 w') := by
    refine (wnum_is h (by omega) ((l.length : Int) % 4294967296) (by omega) 2 (.inr (.inl rfl))).mono ?_
    rintro e w1 ⟨rfl, g1, x1⟩
    exact ⟨rfl, g1, by simpa using x1.more (by omega)⟩
  have hget : Hid (∀ wr i x, WL w r acc (k + 300) sEqu l i wr → l[i]? = some x → ∃ g o va vc, a = some ⟨g, o, none⟩ ∧ TmLies w0 va x.2.terms ∧ wr.cell? ⟨g, o + i * 3, none⟩ = some (.string (str x.1)) ∧ wr.cell? ⟨g, o + i * 3 + 1, none⟩ = some (.slice va x.2.terms.length vc) ∧ wr.cell? ⟨g, o + i * 3 + 2, none⟩ = some (.int .u32 x.2.const)) := fun wr i x hL hx => by
    have hb := hB.trans (hL.g.below.mono hr)
    rcases hI with rfl | ⟨g, o, ha, hg, hI⟩
    · cases hx
    · obtain ⟨va, vc, h1, h2, h3, h4⟩ := hI i x hx
      exact ⟨g, o, va, vc, ha, h4, (hb.cell (p := ⟨g, _, none⟩) hg).trans h1, (hb.cell (p := ⟨g, _, none⟩) hg).trans h2, (hb.cell (p := ⟨g, _, none⟩) hg).trans h3⟩
  have hone : Hid (∀ wr i x (va : Option Addr) (vc : Nat), WL w r acc (k + 300) sEqu l i wr → l[i]? = some x → TmLies w0 va x.2.terms → WX (wr.alloc (.cells #[.string (str x.1), .slice va x.2.terms.length vc, .int .u32 x.2.const] 90)) r (acc ++ (O.leB ((l.length : Int) % 4294967296) 2 ++ (l.take i).flatMap sEqu)) 0 → Calls Tryz.prog 71 #[.pointer (some ⟨r, 0, none⟩), .agg #[.string (str x.1), .slice va x.2.terms.length vc, .int .u32 x.2.const]] (wr.alloc (.cells #[.string (str x.1), .slice va x.2.terms.length vc, .int .u32 x.2.const] 90)) fun e w' => e = .returned (.tuple #[]) ∧ WL w r acc (k + 300) sEqu l (i + 1) w') := fun wr i x (va : Option Addr) (vc : Nat) hL hx hTm hX => by
    have ht := hok x (List.mem_of_getElem? hx)
    have hBW := (hB.trans (hL.g.below.mono hr)).trans ((below_alloc wr (.cells #[.string (str x.1), .slice va x.2.terms.length vc, .int .u32 x.2.const] 90)).mono (Nat.le_trans hB.size hL.g.size))
    refine (wequ_is hX (by omega) hr hBW x ht hTm).mono ?_
    rintro e w1 ⟨rfl, g1, x1⟩
    exact ⟨rfl, hL.next (below_alloc wr _) hx (by omega) g1 x1⟩
  have hfull : Hid (∀ wr i (x : Eqv) (va : Option Addr) (vc : Nat) az cz zs, WL w r acc (k + 300) sEqu l i wr → WS (wr.alloc (.cells #[.string (str x.1), .slice va x.2.terms.length vc, .int .u32 x.2.const] 90)) r (acc ++ (O.leB ((l.length : Int) % 4294967296) 2 ++ (l.take i).flatMap sEqu)) (k + 300) az cz zs → 1048576 < zs.length → WG w (wr.alloc (.cells #[.string (str x.1), .slice va x.2.terms.length vc, .int .u32 x.2.const] 90)) r ∧ WX (wr.alloc (.cells #[.string (str x.1), .slice va x.2.terms.length vc, .int .u32 x.2.const] 90)) r (acc ++ (O.leB ((l.length : Int) % 4294967296) 2 ++ l.flatMap sEqu)) (k + 300)) := fun wr i x (va : Option Addr) (vc : Nat) az cz zs hL hS hz => ⟨hL.g.trans (WG.of_below (below_alloc wr _) hL.x.lt), WL.full hS hz⟩
  have hend : Hid (∀ wr, WL w r acc (k + 300) sEqu l l.length wr → WG w wr r ∧ WX wr r (acc ++ (O.leB ((l.length : Int) % 4294967296) 2 ++ l.flatMap sEqu)) (k + 300)) := fun wr hL => ⟨hL.g, hL.end⟩
  have hsome : Hid (∀ i, i < l.length → ∃ x, l[i]? = some x) := fun i hi => ⟨_, List.getElem?_eq_getElem hi⟩
  obtain ⟨n0, hn0⟩ : ∃ n0, n0 = l.length := ⟨_, rfl⟩
  have hmod : Hid ((n0 : Int) % 4294967296 = n0) := by show _ = _; omega
  rw [← hn0] at h109 hend hl hsome ⊢
  rw [hmod.out] at h109
  replace hn0 := Hid.intro hn0
  clear h hB hI hok hmod hr
  go_enter Tryz.func70, Tryz.ntmps70
  go_wp2_with (go_at_call 109; (with_reducible refine (h109.out).mono ?_); rintro e w1 ⟨rfl, hL1⟩; replace hL1 := Hid.intro hL1)
  all_goals first | omega | skip
  clear h109
  go_loopw [15] (fun v15 wr => ∃ (i : Nat), i ≤ n0 ∧ v15 = .int .i64 (i : Int) ∧ Hid (WL w r acc (k + 300) sEqu l i wr)) (fun v15 _ => n0 - (intOf v15).toNat)
  case atStart => exact ⟨0, by omega, rfl, hL1⟩
  case round =>
    obtain ⟨i, hi, rfl, hL⟩ := hrel
    clear hL1
    by_cases hin : i < n0
    · obtain ⟨x, hx⟩ := hsome.out i hin
      replace hx := Hid.intro hx
      obtain ⟨g, o, va, vc, ha, hTm, d0, d1, d2⟩ := hget.out wr i x hL.out hx.out
      subst ha
      obtain ⟨az, cz, zs, hS⟩ := hL.out.x.below (below_alloc wr (.cells #[.string (str x.1), .slice va x.2.terms.length vc, .int .u32 x.2.const] 90))
      have h30 := Hid.intro (isFull_is hS (by omega))
      by_cases hz : 1048576 < zs.length
      · rw [decide_eq_true hz] at h30
        have hf := Hid.intro (hfull.out wr i x va vc az cz zs hL.out hS hz)
        rw [← hn0.out] at hf
        clear hS hz hone hend hget hsome
        go_wp2_with (go_at_call 30; (with_reducible refine (h30.out).mono ?_); rintro e w2 ⟨rfl, hw2⟩; subst w2)
        all_goals first | omega | skip
        refine bodyPost_ret (results_none rfl _ _ _) rfl ?_
        exact ⟨rfl, hf.out⟩
      · rw [decide_eq_false hz] at h30
        have ho := Hid.intro (hone.out wr i x va vc hL.out hx.out hTm (hS.room hz))
        clear hS hz hone hend hget hsome hfull hL
        go_wp2_with (first
          | (go_at_call 30; (with_reducible refine (h30.out).mono ?_); rintro e w2 ⟨rfl, hw2⟩; subst w2)
          | (go_at_call 71; (with_reducible refine (ho.out).mono ?_); rintro e w3 ⟨rfl, hL3⟩; replace hL3 := Hid.intro hL3))
        all_goals first | omega | skip
        go_roundw
        case rel => exact ⟨i + 1, by omega, by go_num, hL3⟩
        case measure => simp [intOf]; omega
    · obtain rfl : i = n0 := by omega
      have he := Hid.intro (hend.out wr hL.out)
      clear hend hone hfull hget hsome hL
      go_wp2_with fail
      all_goals first | omega | skip
      go_end0
      exact ⟨rfl, he.out⟩
set_option maxHeartbeats 8000000 in
theorem wglobs_is (h : WX w r acc k) (hk : k ≤ 40000) (hr : w0.heap.size ≤ r) (hB : Below w0.heap.size w0 w) (l : List (List UInt8)) (hl : l.length ≤ 9000000) (hok : ∀ x ∈ l, x.length ≤ 32) (hI : StIn w0 a l) : Calls Tryz.prog 72 #[.pointer (some ⟨r, 0, none⟩), .slice a l.length c, .func (.func 73) #[.pointer (some ⟨r, 0, none⟩)] #[]] w fun e w' => e = .returned (.tuple #[]) ∧ WG w w' r ∧ WX w' r (acc ++ (O.leB ((l.length : Int) % 4294967296) 2 ++ l.flatMap sTx)) (k + 300) := by
  have h109 : Hid (Calls Tryz.prog 109 #[.pointer (some ⟨r, 0, none⟩), .int .u32 ((l.length : Int) % 4294967296), .int .i64 2] w fun e w' => e = .returned (.tuple #[]) ∧ WL w r acc (k + 300) sTx l 0 w') := by
    refine (wnum_is h (by omega) ((l.length : Int) % 4294967296) (by omega) 2 (.inr (.inl rfl))).mono ?_
    rintro e w1 ⟨rfl, g1, x1⟩
    exact ⟨rfl, g1, by simpa using x1.more (by omega)⟩
  have hget : Hid (∀ wr i x, WL w r acc (k + 300) sTx l i wr → l[i]? = some x → ∃ g o, a = some ⟨g, o, none⟩ ∧ wr.cell? ⟨g, o + i, none⟩ = some (.string (str x))) := fun wr i x hL hx => by
    have hb := hB.trans (hL.g.below.mono hr)
    rcases hI with rfl | ⟨g, o, ha, hg, hI⟩
    · cases hx
    · exact ⟨g, o, ha, (hb.cell (p := ⟨g, _, none⟩) hg).trans (hI i x hx)⟩
  have hone : Hid (∀ wr i x, WL w r acc (k + 300) sTx l i wr → l[i]? = some x → WX wr r (acc ++ (O.leB ((l.length : Int) % 4294967296) 2 ++ (l.take i).flatMap sTx)) 0 → Calls Tryz.prog 73 #[.pointer (some ⟨r, 0, none⟩), .string (str x)] wr fun e w' => e = .returned (.tuple #[]) ∧ WL w r acc (k + 300) sTx l (i + 1) w') := fun wr i x hL hx hX => by
    have ht := hok x (List.mem_of_getElem? hx)
    refine (wtx (WG.refl _ r) hX (by omega) x ht).mono ?_
    rintro e w1 ⟨rfl, g1, x1⟩
    exact ⟨rfl, hL.next (Below.refl _ wr) hx (by omega) g1 x1⟩
  have hfull : Hid (∀ wr i (x : (List UInt8)) az cz zs, WL w r acc (k + 300) sTx l i wr → WS wr r (acc ++ (O.leB ((l.length : Int) % 4294967296) 2 ++ (l.take i).flatMap sTx)) (k + 300) az cz zs → 1048576 < zs.length → WG w wr r ∧ WX wr r (acc ++ (O.leB ((l.length : Int) % 4294967296) 2 ++ l.flatMap sTx)) (k + 300)) := fun wr i x az cz zs hL hS hz => ⟨hL.g.trans (WG.of_below (Below.refl _ wr) hL.x.lt), WL.full hS hz⟩
  have hend : Hid (∀ wr, WL w r acc (k + 300) sTx l l.length wr → WG w wr r ∧ WX wr r (acc ++ (O.leB ((l.length : Int) % 4294967296) 2 ++ l.flatMap sTx)) (k + 300)) := fun wr hL => ⟨hL.g, hL.end⟩
  have hsome : Hid (∀ i, i < l.length → ∃ x, l[i]? = some x) := fun i hi => ⟨_, List.getElem?_eq_getElem hi⟩
  obtain ⟨n0, hn0⟩ : ∃ n0, n0 = l.length := ⟨_, rfl⟩
  have hmod : Hid ((n0 : Int) % 4294967296 = n0) := by show _ = _; omega
  rw [← hn0] at h109 hend hl hsome ⊢
  rw [hmod.out] at h109
  replace hn0 := Hid.intro hn0
  clear h hB hI hok hmod hr
  go_enter Tryz.func72, Tryz.ntmps72
  go_wp2_with (go_at_call 109; (with_reducible refine (h109.out).mono ?_); rintro e w1 ⟨rfl, hL1⟩; replace hL1 := Hid.intro hL1)
  all_goals first | omega | skip
  clear h109
  go_loopw [15] (fun v15 wr => ∃ (i : Nat), i ≤ n0 ∧ v15 = .int .i64 (i : Int) ∧ Hid (WL w r acc (k + 300) sTx l i wr)) (fun v15 _ => n0 - (intOf v15).toNat)
  case atStart => exact ⟨0, by omega, rfl, hL1⟩
  case round =>
    obtain ⟨i, hi, rfl, hL⟩ := hrel
    clear hL1
    by_cases hin : i < n0
    · obtain ⟨x, hx⟩ := hsome.out i hin
      replace hx := Hid.intro hx
      obtain ⟨g, o, ha, d0⟩ := hget.out wr i x hL.out hx.out
      subst ha
      obtain ⟨az, cz, zs, hS⟩ := hL.out.x.below (Below.refl _ wr)
      have h30 := Hid.intro (isFull_is hS (by omega))
      by_cases hz : 1048576 < zs.length
      · rw [decide_eq_true hz] at h30
        have hf := Hid.intro (hfull.out wr i x az cz zs hL.out hS hz)
        rw [← hn0.out] at hf
        clear hS hz hone hend hget hsome
        go_wp2_with (go_at_call 30; (with_reducible refine (h30.out).mono ?_); rintro e w2 ⟨rfl, hw2⟩; subst w2)
        all_goals first | omega | skip
        refine bodyPost_ret (results_none rfl _ _ _) rfl ?_
        exact ⟨rfl, hf.out⟩
      · rw [decide_eq_false hz] at h30
        have ho := Hid.intro (hone.out wr i x hL.out hx.out (hS.room hz))
        clear hS hz hone hend hget hsome hfull hL
        go_wp2_with (first
          | (go_at_call 30; (with_reducible refine (h30.out).mono ?_); rintro e w2 ⟨rfl, hw2⟩; subst w2)
          | (go_at_call 73; (with_reducible refine (ho.out).mono ?_); rintro e w3 ⟨rfl, hL3⟩; replace hL3 := Hid.intro hL3))
        all_goals first | omega | skip
        go_roundw
        case rel => exact ⟨i + 1, by omega, by go_num, hL3⟩
        case measure => simp [intOf]; omega
    · obtain rfl : i = n0 := by omega
      have he := Hid.intro (hend.out wr hL.out)
      clear hend hone hfull hget hsome hL
      go_wp2_with fail
      all_goals first | omega | skip
      go_end0
      exact ⟨rfl, he.out⟩
end
end Go.Proofs.YtmndccbeddaphaaGreatDoor

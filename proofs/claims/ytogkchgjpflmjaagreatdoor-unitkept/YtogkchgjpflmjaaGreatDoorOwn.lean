/- Items that are owned, with their terms. -/
import Derived.Test.YtogkchgjpflmjaaGreatDoorIt7
/- item's readerOf, said, Read of an operation's line. -/
namespace Go.Proofs.YtogkchgjpflmjaaGreatDoor
open Go.ChangeShapes Go.WideShapes Go.ChangeAt Go.RowKit
set_option linter.unusedVariables false
set_option maxRecDepth 100000
def dirs : List (List UInt8) := [[97, 108, 105, 103, 110], [112, 111, 111, 108], [98, 121, 116, 101], [119, 111, 114, 100], [115, 112, 97, 99, 101], [101, 113, 117], [103, 108, 111, 98, 97, 108], [115, 101, 99, 116, 105, 111, 110]]
def opItm (n : Int) : Itm := { itmE with kind := 2, op := n }
theorem dirs_ne {s : List UInt8} (h : s ∉ dirs) : ((str s).toList == [97, 108, 105, 103, 110]) = false ∧ ((str s).toList == [112, 111, 111, 108]) = false ∧ ((str s).toList == [98, 121, 116, 101]) = false ∧ ((str s).toList == [119, 111, 114, 100]) = false ∧ ((str s).toList == [115, 112, 97, 99, 101]) = false ∧ ((str s).toList == [101, 113, 117]) = false ∧ ((str s).toList == [103, 108, 111, 98, 97, 108]) = false ∧ ((str s).toList == [115, 101, 99, 116, 105, 111, 110]) = false := by
  rw [str_toList]
  simp only [dirs, List.mem_cons, List.not_mem_nil, or_false, not_or] at h
  obtain ⟨h1, h2, h3, h4, h5, h6, h7, h8⟩ := h
  exact ⟨beq_false_of_ne h1, beq_false_of_ne h2, beq_false_of_ne h3, beq_false_of_ne h4, beq_false_of_ne h5, beq_false_of_ne h6, beq_false_of_ne h7, beq_false_of_ne h8⟩
theorem wants_len (s : Int) : (wantsF s).length ≤ 3 := by
  unfold wantsF
  (repeat' split) <;> simp
theorem readerOf_op (s : List UInt8) (hd : s ∉ dirs) (hf : 1 ≤ findN s) (hf2 : findN s ≤ 43) (w : World) (hT : Tab w) :
    Calls Tryz.prog 105 #[.string (str s)] w fun e w' => Below w.heap.size w w' ∧ ∃ b, w.heap.size ≤ b ∧ e = .returned (.tuple #[.iface 242 (.pointer (some ⟨b, 0, none⟩)), .int .i64 (wantsF (shapeN (findN s))).length, .int .i64 (wantsF (shapeN (findN s))).length]) ∧ OpB w' b (wantsF (shapeN (findN s))) (opItm (findN s)) none 0 0 := by
  obtain ⟨d1, d2, d3, d4, d5, d6, d7, d8⟩ := dirs_ne hd
  have hfind := find_any (str s) w hT
  have hnm : nm (str s) = s := by simp [nm, str]
  rw [hnm] at hfind
  generalize findN s = N at hf hf2 hfind ⊢
  rw [show decide (N > 0) = true from by simp; omega] at hfind
  replace hfind := Hid.intro hfind
  have hat := at_parts N w hT
  rw [show decide (1 ≤ N ∧ N ≤ 43) = true from by simp; omega] at hat
  replace hat := Hid.intro hat
  have hwant := Hid.intro (fun w1 => wanted_any (shapeN N) w1)
  have hwl := wants_len (shapeN N)
  generalize wantsF (shapeN N) = W at hwant hwl ⊢
  generalize shapeN N = S at hat hwant
  have hsz : (str W).size = W.length := rfl
  clear hnm hT
  go_enter Tryz.func105, Tryz.ntmps105
  go_wp2_with (first | (go_at_call 132; (with_reducible refine (hfind.out).mono ?_); rintro e w1 ⟨rfl, rfl⟩) | (go_at_call 95; (with_reducible refine (hat.out).mono ?_); rintro e w2 ⟨⟨s2, b2, rfl⟩, hb2⟩) | (go_at_call 133; (with_reducible refine (hwant.out _).mono ?_); rintro e w3 ⟨rfl, rfl⟩))
  all_goals first | omega | skip
  go_ret3
  have hs1 : (w2.alloc (Obj.cells #[Value.string (istr s2), Value.int IntKind.u8 b2, Value.int IntKind.i64 S] 166)).heap.size = w2.heap.size + 1 := by simp
  have hs2 := hb2.size
  refine ⟨(hb2.alloc (by omega) _).alloc (by omega) _, w2.heap.size + 1, by omega, rfl, ⟨?_, ⟨by simp [opItm, itmE, linE, rowT], .inl ⟨rfl, rfl⟩⟩⟩⟩
  rw [← hs1]
  exact heap_alloc_new _ _
structure ItAt (w : World) (g o : Nat) (x : Itm) (va : Option Addr) (n vc : Nat) : Prop where
  kind : w.cell? ⟨g, o, none⟩ = some (.int .i64 x.kind)
  name : w.cell? ⟨g, o + 1, none⟩ = some (.string (str x.name))
  op : w.cell? ⟨g, o + 2, none⟩ = some (.int .i64 x.op)
  a : w.cell? ⟨g, o + 3, none⟩ = some (.int .i64 x.a)
  b : w.cell? ⟨g, o + 4, none⟩ = some (.int .i64 x.b)
  m : w.cell? ⟨g, o + 5, none⟩ = some (.int .i32 x.m)
  form : w.cell? ⟨g, o + 6, none⟩ = some (.int .i64 x.form)
  terms : w.cell? ⟨g, o + 7, none⟩ = some (.slice va n vc)
  const : w.cell? ⟨g, o + 8, none⟩ = some (.int .u32 x.e.const)
  n : w.cell? ⟨g, o + 9, none⟩ = some (.int .i64 x.n)
abbrev itmCells (x : Itm) (v : Value) : Array Value := #[.int .i64 x.kind, .string (str x.name), .int .i64 x.op, .int .i64 x.a, .int .i64 x.b, .int .i32 x.m, .int .i64 x.form, v, .int .u32 x.e.const, .int .i64 x.n]
abbrev thgV (k : Int) (vi : Value) (nm : List UInt8) (ve : Value) (c sec : Int) : Value := .agg #[.int .i64 k, vi, .string (str nm), ve, .int .u32 c, .int .i64 sec]
theorem assert_op (a : Addr) (w : World) : (Instr.typeAssert (.iface 242 (.pointer (some a))) 192 242 true).run Tryz.prog w = .ok (.tuple #[.pointer (some a), .bool true]) w := by kernel_rfl
theorem said_op (b : Nat) (wants : List UInt8) (x : Itm) (va : Option Addr) (n vc : Nat) (w : World) (h : OpB w b wants x va n vc) :
    Calls Tryz.prog 106 #[.iface 242 (.pointer (some ⟨b, 0, none⟩))] w fun e w' => Below w.heap.size w w' ∧ ∃ q, w.heap.size < q ∧ e = .returned (thgV 1 (.slice (some ⟨q, 0, none⟩) 1 1) [] (.slice none 0 0) 0 0) ∧ w'.heap[q]? = some (.cells (itmCells x (.slice va n vc)) 91 (0, 0)) := by
  have hc := fun j => h.cell j
  have c1 := (hc 1).trans rfl
  have c2 := (hc 2).trans rfl
  have c3 := (hc 3).trans rfl
  have c4 := (hc 4).trans rfl
  have c5 := (hc 5).trans rfl
  have c6 := (hc 6).trans rfl
  have c7 := (hc 7).trans rfl
  have c8 := (hc 8).trans rfl
  have c9 := (hc 9).trans rfl
  have c10 := (hc 10).trans rfl
  have hlt := h.lt
  clear hc h
  have hta := fun a w => assert_op a w
  go_enter Tryz.func106, Tryz.ntmps106
  go_wp2
  all_goals first | omega | skip
  have hB : Below w.heap.size w ((w.alloc (.cells #[.int .i64 1, .slice (some ⟨w.heap.size + 1, 0, none⟩) 1 1, .string ⟨#[]⟩, .slice none 0 0, .int .u32 0, .int .i64 0] 137)).alloc (.cells (itmCells x (.slice va n vc)) 91)) := (below_alloc w _).alloc (by simp) _
  have hs1 : (w.alloc (.cells #[.int .i64 1, .slice (some ⟨w.heap.size + 1, 0, none⟩) 1 1, .string ⟨#[]⟩, .slice none 0 0, .int .u32 0, .int .i64 0] 137)).heap.size = w.heap.size + 1 := by simp
  have hq := heap_alloc_new (w.alloc (.cells #[.int .i64 1, .slice (some ⟨w.heap.size + 1, 0, none⟩) 1 1, .string ⟨#[]⟩, .slice none 0 0, .int .u32 0, .int .i64 0] 137)) (.cells (itmCells x (.slice va n vc)) 91)
  rw [hs1] at hq
  have hr : ((w.alloc (.cells #[.int .i64 1, .slice (some ⟨w.heap.size + 1, 0, none⟩) 1 1, .string ⟨#[]⟩, .slice none 0 0, .int .u32 0, .int .i64 0] 137)).alloc (.cells (itmCells x (.slice va n vc)) 91)).heap[w.heap.size]? = some (.cells #[.int .i64 1, .slice (some ⟨w.heap.size + 1, 0, none⟩) 1 1, .string ⟨#[]⟩, .slice none 0 0, .int .u32 0, .int .i64 0] 137 (0, 0)) := by
    rw [Below.heap_alloc _ _ _ (by omega)]
    exact heap_alloc_new w _
  generalize ((w.alloc (.cells #[.int .i64 1, .slice (some ⟨w.heap.size + 1, 0, none⟩) 1 1, .string ⟨#[]⟩, .slice none 0 0, .int .u32 0, .int .i64 0] 137)).alloc (.cells (itmCells x (.slice va n vc)) 91)) = w9 at hB hq hr ⊢
  have k0 := (cell_blockT hr 0).trans rfl
  have k1 := (cell_blockT hr 1).trans rfl
  have k2 := (cell_blockT hr 2).trans rfl
  have k3 := (cell_blockT hr 3).trans rfl
  have k4 := (cell_blockT hr 4).trans rfl
  have k5 := (cell_blockT hr 5).trans rfl
  refine bodyPost_ret (by simp [results, Tryz.results106, go_sem, k0, k1, k2, k3, k4, k5]; try rfl) rfl ?_
  exact ⟨hB, w.heap.size + 1, by omega, rfl, hq⟩
end Go.Proofs.YtogkchgjpflmjaaGreatDoor
namespace Go.Proofs.YtogkchgjpflmjaaGreatDoor
open Go.ChangeShapes Go.WideShapes Go.ChangeAt Go.RowKit
set_option linter.unusedVariables false
set_option maxRecDepth 100000
theorem own_keptB {w w' : World} {B : Nat} {e : TypeId} {size : Nat} {v : Value} {n : Nat} {xs : List Value} (h : w.ownsRow B e size v n xs) (hb : Below w.heap.size w w') : w'.ownsRow B e size v n xs :=
  h.kept (grown_of_below hb) (by cases v.ownBlock <;> simp)
def rowI (p : List (Itm × Value)) : List Value := p.flatMap fun q => (itmCells q.1 q.2).toList
theorem rowI_push (p : List (Itm × Value)) (q : Itm × Value) : rowI (p ++ [q]) = rowI p ++ (itmCells q.1 q.2).toList := by simp [rowI]
theorem rowI_length (p : List (Itm × Value)) : (rowI p).length = p.length * 10 := by
  induction p with
  | nil => rfl
  | cons q p ih => simp [rowI] at ih ⊢; omega
structure ItOwn (lo : Nat) (w : World) (v : Value) (p : List (Itm × Value)) : Prop where
  row : w.ownsRow lo 91 10 v p.length (rowI p)
  each : ∀ q ∈ p, w.ownsRow lo 123 2 q.2 q.1.e.terms.length (rowT q.1.e.terms)
theorem ItOwn.start (lo : Nat) (w : World) : ItOwn lo w (.slice none 0 0) [] := ⟨World.ownsRow_nil _ _ _ _, fun q h => by cases h⟩
theorem ItOwn.low {lo k : Nat} {w w' : World} {v : Value} {p : List (Itm × Value)} (h : ItOwn lo w v p) (hg : w.grownBy w' (some k)) (hk : k < lo) : ItOwn lo w' v p :=
  ⟨own_low h.row hg hk, fun q hq => own_low (h.each q hq) hg hk⟩
theorem ItOwn.below {lo : Nat} {w w' : World} {v : Value} {p : List (Itm × Value)} (h : ItOwn lo w v p) (hb : Below w.heap.size w w') : ItOwn lo w' v p :=
  ⟨own_keptB h.row hb, fun q hq => own_keptB (h.each q hq) hb⟩
theorem ItOwn.weaken {lo B : Nat} {w : World} {v : Value} {p : List (Itm × Value)} (h : ItOwn lo w v p) (hB : B ≤ lo) : ItOwn B w v p := ⟨own_weaken h.row hB, fun q hq => own_weaken (h.each q hq) hB⟩
def ThO (lo : Nat) (w : World) (vi : Value) (l : List Itm) (vt : Value) (ts : List Tm) : Prop := ∃ p : List (Itm × Value), l = p.map (·.1) ∧ ItOwn lo w vi p ∧ w.ownsRow lo 123 2 vt ts.length (rowT ts)
theorem ThO.below {lo : Nat} {w w' : World} {vi : Value} {l : List Itm} {vt : Value} {ts : List Tm} (h : ThO lo w vi l vt ts) (hb : Below w.heap.size w w') : ThO lo w' vi l vt ts := by
  obtain ⟨p, h1, h2, h3⟩ := h
  exact ⟨p, h1, h2.below hb, own_keptB h3 hb⟩
theorem ThO.low {lo k : Nat} {w w' : World} {vi : Value} {l : List Itm} {vt : Value} {ts : List Tm} (h : ThO lo w vi l vt ts) (hg : w.grownBy w' (some k)) (hk : k < lo) : ThO lo w' vi l vt ts := by
  obtain ⟨p, h1, h2, h3⟩ := h
  exact ⟨p, h1, h2.low hg hk, own_low h3 hg hk⟩
theorem ThO.weaken {lo B : Nat} {w : World} {vi : Value} {l : List Itm} {vt : Value} {ts : List Tm} (h : ThO lo w vi l vt ts) (hB : B ≤ lo) : ThO B w vi l vt ts := by
  obtain ⟨p, h1, h2, h3⟩ := h
  exact ⟨p, h1, h2.weaken hB, own_weaken h3 hB⟩
theorem ThO.none (lo : Nat) (w : World) : ThO lo w (.slice none 0 0) [] (.slice none 0 0) [] := ⟨[], rfl, ItOwn.start _ _, World.ownsRow_nil _ _ _ _⟩
theorem ItOwn.one {lo q : Nat} {w : World} {x : Itm} {v : Value} (h : w.heap[q]? = some (.cells (itmCells x v) 91 (0, 0))) (hq : lo ≤ q) (ho : w.ownsRow lo 123 2 v x.e.terms.length (rowT x.e.terms)) : ItOwn lo w (.slice (some ⟨q, 0, Option.none⟩) 1 1) [(x, v)] := by
  refine ⟨⟨by simp [rowI], .inr ⟨q, 1, itmCells x v, rfl, hq, h, Nat.le_refl _, by unfold maxLen; omega, rfl, by simp [rowI]⟩⟩, fun y hy => ?_⟩
  rw [List.mem_singleton] at hy
  subst hy
  exact ho
theorem ThO.one {lo q : Nat} {w : World} {x : Itm} {v : Value} (h : w.heap[q]? = some (.cells (itmCells x v) 91 (0, 0))) (hq : lo ≤ q) (ho : w.ownsRow lo 123 2 v x.e.terms.length (rowT x.e.terms)) : ThO lo w (.slice (some ⟨q, 0, Option.none⟩) 1 1) [x] (.slice Option.none 0 0) [] :=
  ⟨[(x, v)], rfl, ItOwn.one h hq ho, World.ownsRow_nil _ _ _ _⟩
def ThOwn (lo : Nat) (w' : World) (R : Except Int Thg) (e : Ending) : Prop :=
  match R with
  | .error k => e = .returned (.tuple #[thgV 0 (.slice none 0 0) [] (.slice none 0 0) 0 0, .int .i64 k])
  | .ok t => ∃ vi va n vc, e = .returned (.tuple #[thgV t.kind vi t.name (.slice va n vc) t.e.const t.sec, .int .i64 0]) ∧ ThO lo w' vi t.items (.slice va n vc) t.e.terms
end Go.Proofs.YtogkchgjpflmjaaGreatDoor

/- unit's unknown: the first `global` whose name nobody gives. -/
import Derived.Test.YtogkchgjpflmjaaGreatDoorSetM
import Derived.Test.YtogkchgjpflmjaaGreatDoorOwn
import Derived.Deep.DeepAppendWide
import Derived.Laws.OwnMore
import Derived.Test.YtogkchgjpflmjaaGreatDoorArgsO
import Derived.RangeFuncOwn
import Derived.OwnWalk
import Derived.BigQuiet
/- unit's name: a name is given, if it was not given ahead. -/
namespace Go.Proofs.YtogkchgjpflmjaaGreatDoor
open Go.ChangeShapes Go.WideShapes Go.ChangeAt Go.RowKit Go.WideMaps Go.Maps
set_option linter.unusedVariables false
set_option maxRecDepth 100000
set_option maxHeartbeats 4000000 in
theorem name_empty (b : Nat) (w : World) : Calls Tryz.prog 70 #[.pointer (some ⟨b, 0, none⟩), .string (str [])] w fun e w' => e = .returned (.bool true) ∧ w' = w := by
  have e1 := str_toList []
  go_enter Tryz.func70, Tryz.ntmps70
  go_wp2
  go_ret
  exact ⟨rfl, rfl⟩
set_option maxHeartbeats 4000000 in
theorem name_twice (b m n : Nat) (g : List (List UInt8)) (s : List UInt8) (hs0 : s ≠ []) (hs : s.length ≤ 1100000) (hg : s ∈ g) (w : World) (hc : w.cell? ⟨b, 5, none⟩ = some (.map (some m))) (hS : SetIs w m n g) :
    Calls Tryz.prog 70 #[.pointer (some ⟨b, 0, none⟩), .string (str s)] w fun e w' => e = .returned (.bool false) ∧ w' = w.alloc (.cells #[] 145) := by
  have e1 := str_toList s
  have e2 : s.isEmpty = false := by simp [hs0]
  have hl := setlook_run hS s hs
  rw [show decide (s ∈ g) = true by simp [hg]] at hl
  clear hS
  go_enter Tryz.func70, Tryz.ntmps70
  go_wp2
  go_ret
  exact ⟨rfl, rfl⟩
set_option maxHeartbeats 4000000 in
theorem name_new (b m n : Nat) (g : List (List UInt8)) (s : List UInt8) (hs0 : s ≠ []) (hs : s.length ≤ 1100000) (hg : s ∉ g) (hn : n ≤ 3000000) (w : World) (hc : w.cell? ⟨b, 5, none⟩ = some (.map (some m))) (hS : SetIs w m n g) (hb : b < w.heap.size) :
    Calls Tryz.prog 70 #[.pointer (some ⟨b, 0, none⟩), .string (str s)] w fun e w' => e = .returned (.bool true) ∧ SetIs w' m (n + 1) (g ++ [s]) ∧ w.grownBy w' (some m) := by
  have e1 := str_toList s
  have e2 : s.isEmpty = false := by simp [hs0]
  have hl := setlook_run hS s hs
  rw [show decide (s ∈ g) = false by simp [hg]] at hl
  have hS1 : SetIs (w.alloc (.cells #[] 145)) m n g := hS.kept (World.grownBy_alloc w (.cells #[] 145) none) (by simp)
  obtain ⟨w2, hu, hS2, hg2⟩ := setput_run hS1 hn s hs
  have hgr : Hid (w.grownBy w2 (some m)) := (World.grownBy_alloc w (.cells #[] 145) (some m)).trans hg2
  replace hS2 := Hid.intro hS2
  have hc1 : (w.alloc (.cells #[] 145)).cell? ⟨b, 5, none⟩ = some (.map (some m)) := by rw [World.cell?_alloc_lt _ _ ⟨b, 5, none⟩ hb]; exact hc
  clear hS hS1 hg2
  go_enter Tryz.func70, Tryz.ntmps70
  go_wp2
  go_ret
  exact ⟨rfl, hS2.out, hgr.out⟩
def NameOut (w w' : World) (m n : Nat) (g : List (List UInt8)) (s : List UInt8) (e : Ending) : Prop :=
  match nameU g s with
  | none => e = .returned (.bool false) ∧ SetIs w' m (n + 1) g ∧ w.grownBy w' (some m)
  | some g' => e = .returned (.bool true) ∧ SetIs w' m (n + 1) g' ∧ w.grownBy w' (some m)
theorem SetIs.more {w : World} {b n n' : Nat} {g : List (List UInt8)} (h : SetIs w b n g) (hn : n ≤ n') : SetIs w b n' g := by
  obtain ⟨D, h1, h2, h3⟩ := h
  exact ⟨D, h1.mono hn, h2, h3⟩
theorem uname_any (b m n : Nat) (g : List (List UInt8)) (s : List UInt8) (hs : s.length ≤ 1100000) (hn : n ≤ 3000000) (w : World) (hc : w.cell? ⟨b, 5, none⟩ = some (.map (some m))) (hS : SetIs w m n g) (hb : b < w.heap.size) :
    Calls Tryz.prog 70 #[.pointer (some ⟨b, 0, none⟩), .string (str s)] w fun e w' => NameOut w w' m n g s e := by
  unfold NameOut nameU
  by_cases h0 : s = []
  · subst h0
    refine (name_empty b w).mono ?_
    rintro e w' ⟨rfl, rfl⟩
    exact ⟨rfl, hS.more (by omega), ⟨rfl, rfl, rfl, Nat.le_refl _, fun _ _ _ => rfl⟩⟩
  · rw [if_neg h0]
    by_cases hg : s ∈ g
    · rw [if_pos hg]
      refine (name_twice b m n g s h0 hs hg w hc hS).mono ?_
      rintro e w' ⟨rfl, rfl⟩
      exact ⟨rfl, (hS.kept (World.grownBy_alloc w (.cells #[] 145) none) (by simp)).more (by omega), World.grownBy_alloc w _ _⟩
    · rw [if_neg hg]
      exact name_new b m n g s h0 hs hg hn w hc hS hb
end Go.Proofs.YtogkchgjpflmjaaGreatDoor
/- Lists that grow: a list laid behind one that is owned, and the block that it lies in then. -/
namespace Go.Proofs.YtogkchgjpflmjaaGreatDoor
open Go.ChangeShapes Go.WideShapes Go.ChangeAt Go.RowKit
set_option linter.unusedVariables false
set_option maxRecDepth 100000
def Src (w : World) (vb : Value) (m : Nat) (news : List Value) : Prop := (vb = .slice none 0 0 ∧ m = 0 ∧ news = []) ∨ ∃ a c, vb = .slice (some a) m c ∧ ∀ j u, news[j]? = some u → w.cell? (a.add j) = some u
section
variable {P : Program}
theorem app_where (w : World) (base : Nat) (t ty e : TypeId) (i : TypeInfo) (z : Value) (ht : P.underlying t = some (.slice e)) (hi : P.info? e = some i) (hz : i.zero = some z)
    (v : Value) (n : Nat) (xs : List Value) (hown : w.ownsRow base e i.size v n xs)
    (a : Addr) (m c : Nat) (news : List Value) (hl : news.length = m * i.size) (hnews : ∀ j u, news[j]? = some u → w.cell? (a.add j) = some u) (h1 : ∀ u ∈ news, u.oneCell' = true)
    (h63 : n + m ≤ maxLen) (hbytes : ((n + m) + (n + m) / 4 + 192) * i.bytes ≤ 281474976710656) {v' : Value} {w' : World}
    (hr : (Builtin.append_ #[t, t] ty #[v, .slice (some a) m c]).run P w = .ok v' w') : v'.ownBlock = v.ownBlock ∨ v'.ownBlock = some w.heap.size := by
  have hsmall : n + m ≤ 9223372036854775807 := by simp only [maxLen] at h63; omega
  rcases hown.2 with ⟨rfl, rfl⟩ | ⟨g, cap, cur, rfl, hbg, hg, hnc, hcm, hcs, htake⟩
  · by_cases hm : m = 0
    · subst hm
      have h0 : (Builtin.append_ #[t, t] ty #[.slice none 0 0, .slice (some a) 0 c]).run P w = .ok (.slice none 0 0) w := by
        simp [Builtin.append_, run_underlying ht, sizeOf, typeInfo, hi, Builtin.lenOf, Builtin.firstCells, loadCells, loadCellsFrom]
      rw [h0] at hr
      cases hr
      exact .inl rfl
    · rw [run_append_nil (P := P) w t ty e i z ht hi hz a m c news hl hnews (by omega) (by omega) (Nat.le_trans (Nat.mul_le_mul_right _ (by omega)) hbytes)] at hr
      cases hr
      exact .inr rfl
  · by_cases hroom : n + m ≤ cap
    · rw [run_append_room (P := P) w t ty e i ht hi g n cap cur hg a m c news hl hnews h1 hroom (by rw [hl, hcs, ← Nat.add_mul]; exact Nat.mul_le_mul_right _ hroom)] at hr
      cases hr
      exact .inl rfl
    · rw [run_append_grow (P := P) w t ty e i z ht hi hz ⟨g, 0, none⟩ n cap xs hown.1 (hown.cells (g := g) rfl) a m c news hl hnews (by omega) (by omega) (growslice_fits_wide (by omega) hbytes)] at hr
      cases hr
      exact .inr rfl
theorem app_run (w : World) (base : Nat) (t ty e : TypeId) (i : TypeInfo) (z : Value) (size bytes : Nat) (ht : P.underlying t = some (.slice e)) (hi : P.info? e = some i) (hz : i.zero = some z)
    (hsize : i.size = size) (hby : i.bytes = bytes) (hzs : z.cells.size = size) (hsz : 0 < size)
    (v : Value) (n : Nat) (xs : List Value) (hown : w.ownsRow base e size v n xs)
    (vb : Value) (m : Nat) (news : List Value) (hsrc : Src w vb m news) (hl : news.length = m * size) (h1 : ∀ u ∈ news, u.oneCell' = true)
    (h63 : n + m ≤ maxLen) (hbytes : ((n + m) + (n + m) / 4 + 192) * bytes ≤ 281474976710656) (hbase : base ≤ w.heap.size) :
    ∃ v' w', (Builtin.append_ #[t, t] ty #[v, vb]).run P w = .ok v' w' ∧ w'.ownsRow base e size v' (n + m) (xs ++ news) ∧ w.grownBy w' v.ownBlock ∧ (v'.ownBlock = v.ownBlock ∨ v'.ownBlock = some w.heap.size) := by
  rcases hsrc with ⟨rfl, rfl, rfl⟩ | ⟨a, c, rfl, hnews⟩
  · refine ⟨v, w, run_append_owned_none (P := P) (w := w) base t ty e i size ht hi v n xs hown, by simpa using hown, ⟨rfl, rfl, rfl, Nat.le_refl _, fun _ _ _ => rfl⟩, .inl rfl⟩
  · obtain ⟨v', w', hr, h2, h3, _⟩ := run_append_own_wide (P := P) w base t ty e i z size bytes ht hi hz hsize hby hzs hsz v n xs hown a m c news hl hnews h1 h63 hbytes hbase
    subst hsize
    subst hby
    exact ⟨v', w', hr, h2, h3, app_where w base t ty e i z ht hi hz v n xs hown a m c news hl hnews h1 h63 hbytes hr⟩
theorem wpList_app {w : World} {ops : Array Oper} {rest : List Oper} {o : Oper} {a : Act} {Q : Exit → Act → World → Prop} (hgd : o.guard = none) (s x : Operand) (t : TypeId)
    (ho : o.op = .call { callee := .builtin .append, args := #[s, x], argTypes := #[t, t] })
    (base : Nat) (e : TypeId) (i : TypeInfo) (z : Value) (size bytes : Nat) (ht : P.underlying t = some (.slice e)) (hi : P.info? e = some i) (hz : i.zero = some z)
    (hsize : i.size = size) (hby : i.bytes = bytes) (hzs : z.cells.size = size) (hsz : 0 < size)
    (v : Value) (n : Nat) (xs : List Value) (hs : a.eval s = v) (hown : w.ownsRow base e size v n xs)
    (vb : Value) (m : Nat) (news : List Value) (hx : a.eval x = vb) (hsrc : Src w vb m news) (hl : news.length = m * size) (h1 : ∀ u ∈ news, u.oneCell' = true)
    (h63 : n + m ≤ maxLen) (hbytes : ((n + m) + (n + m) / 4 + 192) * bytes ≤ 281474976710656) (hbase : base ≤ w.heap.size)
    (h : ∀ v' w', w'.ownsRow base e size v' (n + m) (xs ++ news) → w.grownBy w' v.ownBlock → (v'.ownBlock = v.ownBlock ∨ v'.ownBlock = some w.heap.size) → wpList P ops Q rest (a.put o.dst v') w') : wpList P ops Q (o :: rest) a w := by
  refine wpList_plain hgd fun K hK => ?_
  obtain ⟨v', w', hrun, h2, h3, h4⟩ := app_run (P := P) w base t o.type e i z size bytes ht hi hz hsize hby hzs hsz v n xs hown vb m news hsrc hl h1 h63 hbytes hbase
  unfold Oper.wp
  simp [execOp, ho, resolve, invoke, builtin, hs, hx, hrun, Result.andThen]
  exact hK _ _ (h v' w' h2 h3 h4)
theorem step_app {ops : Array Oper} {o : Oper} {a : Act} {K : Act → World → Prop} {Q : Exit → Act → World → Prop} {E : Prop} (w : World) (hgd : o.guard = none) (s x : Operand) (t : TypeId)
    (ho : o.op = .call { callee := .builtin .append, args := #[s, x], argTypes := #[t, t] })
    (base : Nat) (e : TypeId) (i : TypeInfo) (z : Value) (size bytes : Nat) (ht : P.underlying t = some (.slice e)) (hi : P.info? e = some i) (hz : i.zero = some z)
    (hsize : i.size = size) (hby : i.bytes = bytes) (hzs : z.cells.size = size) (hsz : 0 < size)
    (v : Value) (n : Nat) (xs : List Value) (hs : a.eval s = v) (hown : w.ownsRow base e size v n xs)
    (vb : Value) (m : Nat) (news : List Value) (hx : a.eval x = vb) (hsrc : Src w vb m news) (hl : news.length = m * size) (h1 : ∀ u ∈ news, u.oneCell' = true)
    (h63 : n + m ≤ maxLen) (hbytes : ((n + m) + (n + m) / 4 + 192) * bytes ≤ 281474976710656) (hbase : base ≤ w.heap.size)
    (hK : ∀ v' w', w'.ownsRow base e size v' (n + m) (xs ++ news) → w.grownBy w' v.ownBlock → (v'.ownBlock = v.ownBlock ∨ v'.ownBlock = some w.heap.size) → K (a.put o.dst v') w') :
    if Region.wanted o (yielded ops a.tmps) = true then Oper.wp P o a w K Q else E := by
  have hw : Region.wanted o (yielded ops a.tmps) = true := by simp [Region.wanted, hgd]
  rw [if_pos hw]
  obtain ⟨v', w', hrun, h2, h3, h4⟩ := app_run (P := P) w base t o.type e i z size bytes ht hi hz hsize hby hzs hsz v n xs hown vb m news hsrc hl h1 h63 hbytes hbase
  unfold Oper.wp
  simp [execOp, ho, resolve, invoke, builtin, hs, hx, hrun, Result.andThen]
  exact hK v' w' h2 h3 h4
end
theorem own_src {w : World} {lo : Nat} {T : TypeId} {sz : Nat} {v : Value} {n : Nat} {xs : List Value} (h : w.ownsRow lo T sz v n xs) : Src w v n xs := by
  rcases h.2 with ⟨rfl, rfl⟩ | ⟨g, cap, cur, rfl, _⟩
  · exact .inl ⟨rfl, rfl, List.eq_nil_of_length_eq_zero (by simpa using h.1)⟩
  · exact .inr ⟨_, _, rfl, h.cells (g := g) rfl⟩
theorem itmCells_one (x : Itm) (a : Option Addr) (n c : Nat) : ∀ u ∈ (itmCells x (.slice a n c)).toList, u.oneCell' = true := by simp [Value.oneCell']
theorem rowI_one {lo : Nat} {w : World} {v : Value} {p : List (Itm × Value)} (h : ItOwn lo w v p) : ∀ u ∈ rowI p, u.oneCell' = true := by
  intro u hu
  obtain ⟨q, hq, hu⟩ := List.mem_flatMap.1 hu
  obtain ⟨a, c, hv⟩ := own_slice (h.each q hq)
  rw [hv] at hu
  exact itmCells_one _ _ _ _ u hu
theorem blk_other {w : World} {lo : Nat} {T T' : TypeId} {sz : Nat} {v : Value} {n : Nat} {xs : List Value} {b : Nat} {cs : Array Value} {r : Nat × Nat} (h : w.ownsRow lo T sz v n xs) (hb : w.heap[b]? = some (.cells cs T' r)) (hT : T ≠ T') : v.ownBlock ≠ some b := by
  intro e
  obtain ⟨cur, hc⟩ := own_type h e
  rw [hb] at hc
  injection hc with hc
  injection hc with _ hc
  exact hT hc.symm
theorem map_other {w : World} {lo : Nat} {T : TypeId} {sz : Nat} {v : Value} {n : Nat} {xs : List Value} {b : Nat} {es : Array MapEntry} {ck : Nat} (h : w.ownsRow lo T sz v n xs) (hb : w.heap[b]? = some (.map es ck)) : v.ownBlock ≠ some b := by
  intro e
  obtain ⟨cur, hc⟩ := own_type h e
  rw [hb] at hc
  injection hc with hc
  cases hc
end Go.Proofs.YtogkchgjpflmjaaGreatDoor
/- A whole source, as a function: unit's Assemble, the document's Source; the first fault is the same. -/
namespace Go.Proofs.YtogkchgjpflmjaaGreatDoor
open Go.ChangeShapes Go.WideShapes Go.ChangeAt Go.RowKit
set_option linter.unusedVariables false
def runF (a : Asm) (n : Nat) : List (List UInt8) → Except (Nat × Int) Asm
  | [] => .ok a
  | s :: r => match takeF a n s with
    | .error k => .error (n, k)
    | .ok b => runF b (n + 1) r
def unknownF (a : Asm) : Option Nat := (a.asked.find? fun g => decide (g.1 ∉ a.given)).map (·.2)
def asmF (s : List UInt8) : Except (Nat × Int) Asm :=
  if 65536 < s.length then .error (0, 3)
  else if 4096 < (linesOf s).length then .error (4097, 4)
  else match runF asmE 1 (linesOf s) with
    | .error f => .error f
    | .ok a => match unknownF a with
      | some n => .error (n, 23)
      | none => .ok a
structure AsmOk (a : Asm) : Prop where
  once : a.given.Nodup
  few : a.text.length + a.data.length ≤ 8192
  sec : a.sec = 0 ∨ a.sec = 1
theorem nameU_nodup {g g' : List (List UInt8)} {s : List UInt8} (h : nameU g s = some g') (hg : g.Nodup) : g'.Nodup := by
  unfold nameU at h
  split at h
  · cases h; exact hg
  · split at h
    · cases h
    · rename_i h0 hm
      cases h
      rw [List.nodup_append]
      exact ⟨hg, by simp, fun x hx y hy => by
        rw [List.mem_singleton] at hy
        subst hy
        rintro rfl
        exact hm hx⟩
end Go.Proofs.YtogkchgjpflmjaaGreatDoor
/- A unit in the making, in memory. -/
namespace Go.Proofs.YtogkchgjpflmjaaGreatDoor
open Go.ChangeShapes Go.WideShapes Go.ChangeAt Go.RowKit Go.WideMaps Go.Maps
set_option linter.unusedVariables false
set_option maxRecDepth 100000
abbrev equCells (q : (List UInt8 × Lin) × Value) : List Value := [.string (str q.1.1), q.2, .int .u32 q.1.2.const]
def rowE (p : List ((List UInt8 × Lin) × Value)) : List Value := p.flatMap equCells
abbrev askCells (q : List UInt8 × Nat) : List Value := [.string (str q.1), .int .i64 (q.2 : Int)]
def rowA (l : List (List UInt8 × Nat)) : List Value := l.flatMap askCells
structure EqOwn (lo : Nat) (w : World) (v : Value) (p : List ((List UInt8 × Lin) × Value)) : Prop where
  row : w.ownsRow lo 101 3 v p.length (rowE p)
  each : ∀ q ∈ p, w.ownsRow lo 123 2 q.2 q.1.2.terms.length (rowT q.1.2.terms)
theorem EqOwn.start (lo : Nat) (w : World) : EqOwn lo w (.slice none 0 0) [] := ⟨World.ownsRow_nil _ _ _ _, fun q h => by cases h⟩
theorem EqOwn.below {lo : Nat} {w w' : World} {v : Value} {p : List ((List UInt8 × Lin) × Value)} (h : EqOwn lo w v p) (hb : Below w.heap.size w w') : EqOwn lo w' v p :=
  ⟨own_keptB h.row hb, fun q hq => own_keptB (h.each q hq) hb⟩
structure Off (w : World) (k : Option Nat) (T : TypeId) : Prop where
  off : ∀ {lo sz : Nat} {v : Value} {n : Nat} {xs : List Value}, w.ownsRow lo T sz v n xs → v.ownBlock = none ∨ v.ownBlock ≠ k
theorem off_row {w : World} {lo : Nat} {T T' : TypeId} {sz : Nat} {v : Value} {n : Nat} {xs : List Value} (h : w.ownsRow lo T' sz v n xs) (hT : T ≠ T') : Off w v.ownBlock T := ⟨fun h' => own_other h' h hT⟩
theorem off_blk {w : World} {b : Nat} {cs : Array Value} {T T' : TypeId} {r : Nat × Nat} (h : w.heap[b]? = some (.cells cs T' r)) (hT : T ≠ T') : Off w (some b) T := ⟨fun h' => .inr (blk_other h' h hT)⟩
theorem off_map {w : World} {b : Nat} {es : Array MapEntry} {ck : Nat} {T : TypeId} (h : w.heap[b]? = some (.map es ck)) : Off w (some b) T := ⟨fun h' => .inr (map_other h' h)⟩
theorem ItOwn.kept {lo : Nat} {w w' : World} {v : Value} {p : List (Itm × Value)} {k : Option Nat} (h : ItOwn lo w v p) (hg : w.grownBy w' k) (h1 : v.ownBlock = none ∨ v.ownBlock ≠ k) (h2 : Off w k 123) : ItOwn lo w' v p :=
  ⟨h.row.kept hg h1, fun q hq => (h.each q hq).kept hg (h2.off (h.each q hq))⟩
theorem EqOwn.kept {lo : Nat} {w w' : World} {v : Value} {p : List ((List UInt8 × Lin) × Value)} {k : Option Nat} (h : EqOwn lo w v p) (hg : w.grownBy w' k) (h1 : v.ownBlock = none ∨ v.ownBlock ≠ k) (h2 : Off w k 123) : EqOwn lo w' v p :=
  ⟨h.row.kept hg h1, fun q hq => (h.each q hq).kept hg (h2.off (h.each q hq))⟩
theorem SetIs.blk {w : World} {b n : Nat} {g : List (List UInt8)} (h : SetIs w b n g) : ∃ es ck, w.heap[b]? = some (.map es ck) := by
  obtain ⟨D, ⟨es, ck, h1, _⟩, _⟩ := h
  exact ⟨es, ck, h1⟩
theorem SetIs.below {w w' : World} {b n : Nat} {g : List (List UInt8)} (h : SetIs w b n g) (hb : Below w.heap.size w w') : SetIs w' b n g := h.kept (grown_of_below hb) (by simp)
structure AsmAt (lo : Nat) (w : World) (b m N : Nat) (A : Asm) (pt pd : List (Itm × Value)) (pe : List ((List UInt8 × Lin) × Value)) (tv dv ev av : Value) : Prop where
  blk : w.heap[b]? = some (.cells #[tv, dv, ev, .slice none 0 0, .int .i64 A.sec, .map (some m), av] 70 (0, 0))
  text : ItOwn lo w tv pt
  data : ItOwn lo w dv pd
  equs : EqOwn lo w ev pe
  asked : w.ownsRow lo 144 2 av A.asked.length (rowA A.asked)
  set : SetIs w m N A.given
  blo : lo ≤ b
  mlo : lo ≤ m
  td : dv.ownBlock = none ∨ dv.ownBlock ≠ tv.ownBlock
  et : A.text = pt.map (·.1)
  ed : A.data = pd.map (·.1)
  ee : A.equs = pe.map (·.1)
variable {lo b m N : Nat} {w w' : World} {A : Asm} {pt pd : List (Itm × Value)} {pe : List ((List UInt8 × Lin) × Value)} {tv dv ev av : Value}
theorem AsmAt.lt (h : AsmAt lo w b m N A pt pd pe tv dv ev av) : b < w.heap.size := (Array.getElem?_eq_some_iff.1 h.blk).1
theorem AsmAt.mlt (h : AsmAt lo w b m N A pt pd pe tv dv ev av) : m < w.heap.size := h.set.lt
theorem AsmAt.below (h : AsmAt lo w b m N A pt pd pe tv dv ev av) (hb : Below w.heap.size w w') : AsmAt lo w' b m N A pt pd pe tv dv ev av :=
  ⟨by rw [hb.block b h.lt]; exact h.blk, h.text.below hb, h.data.below hb, h.equs.below hb, own_keptB h.asked hb, h.set.below hb, h.blo, h.mlo, h.td, h.et, h.ed, h.ee⟩
theorem AsmAt.bm (h : AsmAt lo w b m N A pt pd pe tv dv ev av) : m ≠ b := by
  rintro rfl
  obtain ⟨es, ck, h1⟩ := h.set.blk
  rw [h.blk] at h1
  injection h1 with h1
  cases h1
theorem AsmAt.named (h : AsmAt lo w b m N A pt pd pe tv dv ev av) (hg : w.grownBy w' (some m)) {N' : Nat} {g : List (List UInt8)} (hS : SetIs w' m N' g) : AsmAt lo w' b m N' { A with given := g } pt pd pe tv dv ev av := by
  obtain ⟨es, ck, hm⟩ := h.set.blk
  refine ⟨by rw [hg.block b h.lt (by simp [h.bm.symm])]; exact h.blk, h.text.kept hg (.inr (map_other h.text.row hm)) (off_map hm), h.data.kept hg (.inr (map_other h.data.row hm)) (off_map hm), h.equs.kept hg (.inr (map_other h.equs.row hm)) (off_map hm), h.asked.kept hg (.inr (map_other h.asked hm)), hS, h.blo, h.mlo, h.td, h.et, h.ed, h.ee⟩
theorem map_keep {k : Option Nat} {w : World} {n : Nat} {xs : List Value} {v : Value} {T : TypeId} {sz lo m N : Nat} {g : List (List UInt8)} (hS : SetIs w m N g) (h : w.ownsRow lo T sz v n xs) : some m ≠ v.ownBlock := by
  obtain ⟨es, ck, hm⟩ := hS.blk
  exact fun e => map_other h hm e.symm
theorem rowI_append (p q : List (Itm × Value)) : rowI (p ++ q) = rowI p ++ rowI q := by simp [rowI]
structure BelN (lo m : Nat) (w w' : World) : Prop where
  bel : Below lo w w'
  oth : ∀ (k : Nat) (o : Obj), w.heap[k]? = some o → o.isCells = false → k ≠ m → w'.heap[k]? = some o
theorem BelN.trans {lo m : Nat} {w w1 w2 : World} (h : BelN lo m w w1) (h' : BelN lo m w1 w2) : BelN lo m w w2 := ⟨h.bel.trans h'.bel, fun k o hk ho hm => h'.oth k o (h.oth k o hk ho hm) ho hm⟩
theorem BelN.of {lo m : Nat} {w w' : World} (h : Below w.heap.size w w') (hlo : lo ≤ w.heap.size) : BelN lo m w w' := ⟨h.mono hlo, fun k o hk _ _ => by rw [h.block k (Array.getElem?_eq_some_iff.1 hk).1]; exact hk⟩
theorem oth_of {lo m : Nat} {w w1 w2 : World} {b : Nat} {v : Value} {lo' : Nat} {T T0 : TypeId} {sz n : Nat} {xs : List Value} {cs0 : Array Value} {r0 : Nat × Nat} (hr : w.ownsRow lo' T sz v n xs) (hb : w.heap[b]? = some (.cells cs0 T0 r0)) (hg : w.grownBy w1 v.ownBlock) (hs : w1.grownBy w2 (some b)) (h : Below lo w w2) : BelN lo m w w2 := by
  refine ⟨h, fun k o hk ho _ => ?_⟩
  have hlt := (Array.getElem?_eq_some_iff.1 hk).1
  have e1 : some k ≠ v.ownBlock := fun e => by
    obtain ⟨cur, hc⟩ := own_type hr e.symm
    rw [hk] at hc
    cases hc
    cases ho
  have e2 : some k ≠ some b := fun e => by
    injection e with e
    subst e
    rw [hk] at hb
    cases hb
    cases ho
  rw [hs.block k (Nat.lt_of_lt_of_le hlt hg.size) e2, hg.block k hlt e1]
  exact hk
def Keep2 (w w' : World) : Prop := ∀ (k : Nat) (cs : Array Value) (T : TypeId) (r : Nat × Nat), w.heap[k]? = some (.cells cs T r) → T ≠ 91 → T ≠ 70 → w'.heap[k]? = some (.cells cs T r)
theorem Keep2.own {w w' : World} (h : Keep2 w w') {lo : Nat} {T : TypeId} {sz : Nat} {v : Value} {n : Nat} {xs : List Value} (ho : w.ownsRow lo T sz v n xs) (h1 : T ≠ 91) (h2 : T ≠ 70) : w'.ownsRow lo T sz v n xs := by
  refine ⟨ho.1, ?_⟩
  rcases ho.2 with h0 | ⟨g, cap, cur, k1, k2, k3, k4⟩
  · exact .inl h0
  · exact .inr ⟨g, cap, cur, k1, k2, h _ _ _ _ k3 h1 h2, k4⟩
theorem keep2_of {w w1 w2 : World} {b : Nat} {v : Value} {lo : Nat} {sz n : Nat} {xs : List Value} {cs0 : Array Value} {r0 : Nat × Nat} (hr : w.ownsRow lo 91 sz v n xs) (hb : w.heap[b]? = some (.cells cs0 70 r0)) (hg : w.grownBy w1 v.ownBlock) (hs : w1.grownBy w2 (some b)) : Keep2 w w2 := by
  intro k cs T r hk h1 h2
  have hlt := (Array.getElem?_eq_some_iff.1 hk).1
  have e1 : some k ≠ v.ownBlock := fun e => blk_other hr hk (Ne.symm h1) e.symm
  have e2 : some k ≠ some b := fun e => by
    injection e with e
    subst e
    rw [hk] at hb
    injection hb with hb
    injection hb with _ hb
    exact h2 hb
  rw [hs.block k (Nat.lt_of_lt_of_le hlt hg.size) e2, hg.block k hlt e1]
  exact hk
theorem AsmAt.layT (h : AsmAt lo w b m N A pt pd pe tv dv ev av) {p : List (Itm × Value)} {vi v' : Value} {w1 : World} (hp : ItOwn lo w vi p) (ho : w1.ownsRow lo 91 10 v' (pt.length + p.length) (rowI pt ++ rowI p)) (hg : w.grownBy w1 tv.ownBlock) (hw : v'.ownBlock = tv.ownBlock ∨ v'.ownBlock = some w.heap.size) :
    w1.heap[b]? = some (.cells #[tv, dv, ev, .slice none 0 0, .int .i64 A.sec, .map (some m), av] 70 (0, 0)) ∧ AsmAt lo (w1.setCell ⟨b, 0, none⟩ v') b m N { A with text := A.text ++ p.map (·.1) } (pt ++ p) pd pe v' dv ev av ∧ BelN lo m w (w1.setCell ⟨b, 0, none⟩ v') ∧ Keep2 w (w1.setCell ⟨b, 0, none⟩ v') := by
  have hb1 : w1.heap[b]? = some (.cells #[tv, dv, ev, .slice none 0 0, .int .i64 A.sec, .map (some m), av] 70 (0, 0)) := by
    rw [hg.block b h.lt (fun e => blk_other h.text.row h.blk (by decide) e.symm)]; exact h.blk
  obtain ⟨s1, s2⟩ := row_set hb1 0 v'
  have ho23 : Off w tv.ownBlock 123 := off_row h.text.row (by decide)
  have htm : ∀ {q : Itm × Value}, w.ownsRow lo 123 2 q.2 q.1.e.terms.length (rowT q.1.e.terms) → w1.ownsRow lo 123 2 q.2 q.1.e.terms.length (rowT q.1.e.terms) := fun hq => hq.kept hg (ho23.off hq)
  have hT1 : ItOwn lo w1 v' (pt ++ p) := ⟨by rw [List.length_append, rowI_append]; exact ho, fun q hq => by
    rcases List.mem_append.1 hq with hq | hq
    · exact htm (h.text.each q hq)
    · exact htm (hp.each q hq)⟩
  have hD1 : ItOwn lo w1 dv pd := h.data.kept hg h.td ho23
  have hE1 : EqOwn lo w1 ev pe := h.equs.kept hg (own_other h.equs.row h.text.row (by decide)) ho23
  have hA1 : w1.ownsRow lo 144 2 av A.asked.length (rowA A.asked) := h.asked.kept hg (own_other h.asked h.text.row (by decide))
  have hS1 : SetIs w1 m N A.given := h.set.kept hg (map_keep (k := none) h.set h.text.row)
  have ob : Off w1 (some b) 123 := off_blk hb1 (by decide)
  have hsz := hg.size
  have hlt := h.lt
  refine ⟨hb1, ⟨s1, hT1.kept s2 (.inr (blk_other hT1.row hb1 (by decide))) ob, hD1.kept s2 (.inr (blk_other hD1.row hb1 (by decide))) ob, hE1.kept s2 (.inr (blk_other hE1.row hb1 (by decide))) ob, hA1.kept s2 (.inr (blk_other hA1 hb1 (by decide))), hS1.kept s2 (by simp [h.bm]), h.blo, h.mlo, ?_, by simp [h.et], h.ed, h.ee⟩, ?_, keep2_of h.text.row h.blk hg s2⟩
  · rcases hw with hw | hw
    · rw [hw]; exact h.td
    · rw [hw]
      rcases hd : dv.ownBlock with _ | k
      · exact .inl rfl
      · refine .inr fun e => ?_
        have := (h.data.row.lt k hd).2
        injection e with e
        omega
  · have hlo := h.blo
    have hB1 : Below lo w w1 := (Below.refl lo w).grown hg (by omega) (fun j hj => (h.text.row.lt _ hj).1)
    exact oth_of h.text.row h.blk hg s2 (hB1.grown s2 (by omega) (fun j hj => by cases hj; exact h.blo))
theorem AsmAt.layD (h : AsmAt lo w b m N A pt pd pe tv dv ev av) {p : List (Itm × Value)} {vi v' : Value} {w1 : World} (hp : ItOwn lo w vi p) (ho : w1.ownsRow lo 91 10 v' (pd.length + p.length) (rowI pd ++ rowI p)) (hg : w.grownBy w1 dv.ownBlock) (hw : v'.ownBlock = dv.ownBlock ∨ v'.ownBlock = some w.heap.size) :
    w1.heap[b]? = some (.cells #[tv, dv, ev, .slice none 0 0, .int .i64 A.sec, .map (some m), av] 70 (0, 0)) ∧ AsmAt lo (w1.setCell ⟨b, 1, none⟩ v') b m N { A with data := A.data ++ p.map (·.1) } pt (pd ++ p) pe tv v' ev av ∧ BelN lo m w (w1.setCell ⟨b, 1, none⟩ v') ∧ Keep2 w (w1.setCell ⟨b, 1, none⟩ v') := by
  have hb1 : w1.heap[b]? = some (.cells #[tv, dv, ev, .slice none 0 0, .int .i64 A.sec, .map (some m), av] 70 (0, 0)) := by
    rw [hg.block b h.lt (fun e => blk_other h.data.row h.blk (by decide) e.symm)]; exact h.blk
  obtain ⟨s1, s2⟩ := row_set hb1 1 v'
  have ho23 : Off w dv.ownBlock 123 := off_row h.data.row (by decide)
  have htm : ∀ {q : Itm × Value}, w.ownsRow lo 123 2 q.2 q.1.e.terms.length (rowT q.1.e.terms) → w1.ownsRow lo 123 2 q.2 q.1.e.terms.length (rowT q.1.e.terms) := fun hq => hq.kept hg (ho23.off hq)
  have htd : tv.ownBlock = none ∨ tv.ownBlock ≠ dv.ownBlock := by
    rcases h.td with e | e
    · rw [e]; cases tv.ownBlock <;> simp
    · exact .inr (Ne.symm e)
  have hD1 : ItOwn lo w1 v' (pd ++ p) := ⟨by rw [List.length_append, rowI_append]; exact ho, fun q hq => by
    rcases List.mem_append.1 hq with hq | hq
    · exact htm (h.data.each q hq)
    · exact htm (hp.each q hq)⟩
  have hT1 : ItOwn lo w1 tv pt := h.text.kept hg htd ho23
  have hE1 : EqOwn lo w1 ev pe := h.equs.kept hg (own_other h.equs.row h.data.row (by decide)) ho23
  have hA1 : w1.ownsRow lo 144 2 av A.asked.length (rowA A.asked) := h.asked.kept hg (own_other h.asked h.data.row (by decide))
  have hS1 : SetIs w1 m N A.given := h.set.kept hg (map_keep (k := none) h.set h.data.row)
  have ob : Off w1 (some b) 123 := off_blk hb1 (by decide)
  have hsz := hg.size
  have hlt := h.lt
  refine ⟨hb1, ⟨s1, hT1.kept s2 (.inr (blk_other hT1.row hb1 (by decide))) ob, hD1.kept s2 (.inr (blk_other hD1.row hb1 (by decide))) ob, hE1.kept s2 (.inr (blk_other hE1.row hb1 (by decide))) ob, hA1.kept s2 (.inr (blk_other hA1 hb1 (by decide))), hS1.kept s2 (by simp [h.bm]), h.blo, h.mlo, ?_, h.et, by simp [h.ed], h.ee⟩, ?_, keep2_of h.data.row h.blk hg s2⟩
  · rcases hw with hw | hw
    · rw [hw]; exact h.td
    · rw [hw]
      refine .inr fun e => ?_
      have := (h.text.row.lt _ e.symm).2
      omega
  · have hlo := h.blo
    have hB1 : Below lo w w1 := (Below.refl lo w).grown hg (by omega) (fun j hj => (h.data.row.lt _ hj).1)
    exact oth_of h.data.row h.blk hg s2 (hB1.grown s2 (by omega) (fun j hj => by cases hj; exact h.blo))
theorem AsmAt.layE (h : AsmAt lo w b m N A pt pd pe tv dv ev av) {s : List UInt8} {y : Lin} {vt v' : Value} {w1 : World} (hp : w.ownsRow lo 123 2 vt y.terms.length (rowT y.terms)) (ho : w1.ownsRow lo 101 3 v' (pe.length + 1) (rowE pe ++ equCells ((s, y), vt))) (hg : w.grownBy w1 ev.ownBlock) :
    w1.heap[b]? = some (.cells #[tv, dv, ev, .slice none 0 0, .int .i64 A.sec, .map (some m), av] 70 (0, 0)) ∧ AsmAt lo (w1.setCell ⟨b, 2, none⟩ v') b m N { A with equs := A.equs ++ [(s, y)] } pt pd (pe ++ [((s, y), vt)]) tv dv v' av ∧ BelN lo m w (w1.setCell ⟨b, 2, none⟩ v') := by
  have hb1 : w1.heap[b]? = some (.cells #[tv, dv, ev, .slice none 0 0, .int .i64 A.sec, .map (some m), av] 70 (0, 0)) := by
    rw [hg.block b h.lt (fun e => blk_other h.equs.row h.blk (by decide) e.symm)]; exact h.blk
  obtain ⟨s1, s2⟩ := row_set hb1 2 v'
  have ho23 : Off w ev.ownBlock 123 := off_row h.equs.row (by decide)
  have hE1 : EqOwn lo w1 v' (pe ++ [((s, y), vt)]) := ⟨by rw [List.length_append, List.length_singleton, show rowE (pe ++ [((s, y), vt)]) = rowE pe ++ equCells ((s, y), vt) by simp [rowE]]; exact ho, fun q hq => by
    rcases List.mem_append.1 hq with hq | hq
    · exact (h.equs.each q hq).kept hg (ho23.off (h.equs.each q hq))
    · rw [List.mem_singleton] at hq
      subst hq
      exact hp.kept hg (ho23.off hp)⟩
  have hT1 : ItOwn lo w1 tv pt := h.text.kept hg (own_other h.text.row h.equs.row (by decide)) ho23
  have hD1 : ItOwn lo w1 dv pd := h.data.kept hg (own_other h.data.row h.equs.row (by decide)) ho23
  have hA1 : w1.ownsRow lo 144 2 av A.asked.length (rowA A.asked) := h.asked.kept hg (own_other h.asked h.equs.row (by decide))
  have hS1 : SetIs w1 m N A.given := h.set.kept hg (map_keep (k := none) h.set h.equs.row)
  have ob : Off w1 (some b) 123 := off_blk hb1 (by decide)
  have hsz := hg.size
  have hlt := h.lt
  refine ⟨hb1, ⟨s1, hT1.kept s2 (.inr (blk_other hT1.row hb1 (by decide))) ob, hD1.kept s2 (.inr (blk_other hD1.row hb1 (by decide))) ob, hE1.kept s2 (.inr (blk_other hE1.row hb1 (by decide))) ob, hA1.kept s2 (.inr (blk_other hA1 hb1 (by decide))), hS1.kept s2 (by simp [h.bm]), h.blo, h.mlo, h.td, h.et, h.ed, by simp [h.ee]⟩, ?_⟩
  have hlo := h.blo
  have hB1 : Below lo w w1 := (Below.refl lo w).grown hg (by omega) (fun j hj => (h.equs.row.lt _ hj).1)
  exact oth_of h.equs.row h.blk hg s2 (hB1.grown s2 (by omega) (fun j hj => by cases hj; exact h.blo))
theorem AsmAt.layA (h : AsmAt lo w b m N A pt pd pe tv dv ev av) {s : List UInt8} {n : Nat} {v' : Value} {w1 : World} (ho : w1.ownsRow lo 144 2 v' (A.asked.length + 1) (rowA A.asked ++ askCells (s, n))) (hg : w.grownBy w1 av.ownBlock) :
    w1.heap[b]? = some (.cells #[tv, dv, ev, .slice none 0 0, .int .i64 A.sec, .map (some m), av] 70 (0, 0)) ∧ AsmAt lo (w1.setCell ⟨b, 6, none⟩ v') b m N { A with asked := A.asked ++ [(s, n)] } pt pd pe tv dv ev v' ∧ BelN lo m w (w1.setCell ⟨b, 6, none⟩ v') := by
  have hb1 : w1.heap[b]? = some (.cells #[tv, dv, ev, .slice none 0 0, .int .i64 A.sec, .map (some m), av] 70 (0, 0)) := by
    rw [hg.block b h.lt (fun e => blk_other h.asked h.blk (by decide) e.symm)]; exact h.blk
  obtain ⟨s1, s2⟩ := row_set hb1 6 v'
  have ho23 : Off w av.ownBlock 123 := off_row h.asked (by decide)
  have hA1 : w1.ownsRow lo 144 2 v' (A.asked ++ [(s, n)]).length (rowA (A.asked ++ [(s, n)])) := by
    rw [List.length_append, List.length_singleton, show rowA (A.asked ++ [(s, n)]) = rowA A.asked ++ askCells (s, n) by simp [rowA]]; exact ho
  have hT1 : ItOwn lo w1 tv pt := h.text.kept hg (own_other h.text.row h.asked (by decide)) ho23
  have hD1 : ItOwn lo w1 dv pd := h.data.kept hg (own_other h.data.row h.asked (by decide)) ho23
  have hE1 : EqOwn lo w1 ev pe := h.equs.kept hg (own_other h.equs.row h.asked (by decide)) ho23
  have hS1 : SetIs w1 m N A.given := h.set.kept hg (map_keep (k := none) h.set h.asked)
  have ob : Off w1 (some b) 123 := off_blk hb1 (by decide)
  have hsz := hg.size
  have hlt := h.lt
  refine ⟨hb1, ⟨s1, hT1.kept s2 (.inr (blk_other hT1.row hb1 (by decide))) ob, hD1.kept s2 (.inr (blk_other hD1.row hb1 (by decide))) ob, hE1.kept s2 (.inr (blk_other hE1.row hb1 (by decide))) ob, hA1.kept s2 (.inr (blk_other hA1 hb1 (by decide))), hS1.kept s2 (by simp [h.bm]), h.blo, h.mlo, h.td, h.et, h.ed, h.ee⟩, ?_⟩
  have hlo := h.blo
  have hB1 : Below lo w w1 := (Below.refl lo w).grown hg (by omega) (fun j hj => (h.asked.lt _ hj).1)
  exact oth_of h.asked h.blk hg s2 (hB1.grown s2 (by omega) (fun j hj => by cases hj; exact h.blo))
theorem AsmAt.laySec (h : AsmAt lo w b m N A pt pd pe tv dv ev av) (sec : Int) :
    AsmAt lo (w.setCell ⟨b, 4, none⟩ (.int .i64 sec)) b m N { A with sec := sec } pt pd pe tv dv ev av ∧ BelN lo m w (w.setCell ⟨b, 4, none⟩ (.int .i64 sec)) := by
  obtain ⟨s1, s2⟩ := row_set h.blk 4 (.int .i64 sec)
  have ob : Off w (some b) 123 := off_blk h.blk (by decide)
  have hlt := h.lt
  have hlo := h.blo
  refine ⟨⟨s1, h.text.kept s2 (.inr (blk_other h.text.row h.blk (by decide))) ob, h.data.kept s2 (.inr (blk_other h.data.row h.blk (by decide))) ob, h.equs.kept s2 (.inr (blk_other h.equs.row h.blk (by decide))) ob, h.asked.kept s2 (.inr (blk_other h.asked h.blk (by decide))), h.set.kept s2 (by simp [h.bm]), h.blo, h.mlo, h.td, h.et, h.ed, h.ee⟩, ?_⟩
  exact oth_of (World.ownsRow_nil w lo 91 10) h.blk (World.grownBy.refl _ _) s2 ((Below.refl lo w).grown s2 (by omega) (fun j hj => by cases hj; exact h.blo))
end Go.Proofs.YtogkchgjpflmjaaGreatDoor
/- unit's labelled: the label ahead of a line's items. -/
namespace Go.Proofs.YtogkchgjpflmjaaGreatDoor
open Go.ChangeShapes Go.WideShapes Go.ChangeAt Go.RowKit
set_option linter.unusedVariables false
set_option maxRecDepth 100000
theorem info91 : (Tryz.prog.info? 91).map (fun i => (i.zero, i.size, i.bytes)) = some (some (.agg #[.int .i64 0, .string ⟨#[]⟩, .int .i64 0, .int .i64 0, .int .i64 0, .int .i32 0, .int .i64 0, .slice none 0 0, .int .u32 0, .int .i64 0]), 10, 104) := by kernel_rfl
def labI (lb : List UInt8) : Itm := { itmE with kind := 1, name := lb }
theorem labF_some {lb : List UInt8} (h : lb ≠ []) : labF lb = [labI lb] := by unfold labF; rw [if_neg h]; rfl
theorem labF_none : labF [] = [] := rfl
theorem labelled_none (a : Option Addr) (n c : Nat) (w : World) : Calls Tryz.prog 72 #[.string (str []), .slice a n c] w fun e w' => e = .returned (.slice a n c) ∧ w' = w := by
  have e1 := str_toList []
  go_enter Tryz.func72, Tryz.ntmps72
  go_wp2
  go_ret
  exact ⟨rfl, rfl⟩
set_option maxHeartbeats 4000000 in
theorem labelled_some (lo : Nat) (lb : List UInt8) (h0 : lb ≠ []) (a : Option Addr) (c : Nat) (p : List (Itm × Value)) (hp : p.length ≤ 1100000) (w : World) (hlo : lo ≤ w.heap.size) (hI : ItOwn lo w (.slice a p.length c) p) :
    Calls Tryz.prog 72 #[.string (str lb), .slice a p.length c] w fun e w' => Below w.heap.size w w' ∧ ∃ a' c', e = .returned (.slice a' (p.length + 1) c') ∧ ItOwn lo w' (.slice a' (p.length + 1) c') ((labI lb, .slice none 0 0) :: p) := by
  have e1 := str_toList lb
  have e2 : lb.isEmpty = false := by simp [h0]
  obtain ⟨i0, hi, hz0, hz1, hz2⟩ := info_parts info91
  have hnew := heap_alloc_new w (.cells (itmCells (labI lb) (.slice none 0 0)) 91)
  have hone : Hid (ItOwn w.heap.size (w.alloc (.cells (itmCells (labI lb) (.slice none 0 0)) 91)) (.slice (some ⟨w.heap.size, 0, none⟩) 1 1) [(labI lb, .slice none 0 0)]) := ItOwn.one hnew (Nat.le_refl _) (World.ownsRow_nil _ _ _ _)
  have hI1 : Hid (ItOwn lo (w.alloc (.cells (itmCells (labI lb) (.slice none 0 0)) 91)) (.slice a p.length c) p) := hI.below (below_alloc w _)
  have hsrc : Hid (Src (w.alloc (.cells (itmCells (labI lb) (.slice none 0 0)) 91)) (.slice a p.length c) p.length (rowI p)) := own_src hI1.out.row
  have h1 := Hid.intro (rowI_one hI)
  have hrl := Hid.intro (rowI_length p)
  obtain ⟨L, hL⟩ : ∃ L, p.length = L := ⟨_, rfl⟩
  rw [hL] at hp hsrc hrl hI1 ⊢
  replace hL := Hid.intro hL
  clear hI hnew
  go_enter Tryz.func72, Tryz.ntmps72
  go_wp2_with (at_builtin; go_must (refine wpList_app rfl (.tmp 10) (.tmp 11) 22 rfl w.heap.size 91 i0 _ 10 104 Tryz.underlying22 hi hz0 hz1 hz2 rfl (by decide) (.slice (some ⟨w.heap.size, 0, none⟩) 1 1) 1 (rowI [(labI lb, .slice none 0 0)]) rfl hone.out.row (.slice a L c) L (rowI p) rfl hsrc.out hrl.out h1.out (by unfold maxLen; omega) (by omega) (by simp) ?_; intro v' w1 ho hg hw; rw [Nat.add_comm 1 L] at ho; obtain ⟨a', c', rfl⟩ := own_slice ho))
  go_ret
  have hsz : (w.alloc (.cells (itmCells (labI lb) (.slice none 0 0)) 91)).heap.size = w.heap.size + 1 := by simp
  have hg : (w.alloc (.cells (itmCells (labI lb) (.slice none 0 0)) 91)).grownBy w1 (some w.heap.size) := hg
  have hB : Below w.heap.size w w1 := (below_alloc w _).grown hg (by omega) (fun j hj => by cases hj; exact Nat.le_refl _)
  have ho23 : Off (w.alloc (.cells (itmCells (labI lb) (.slice none 0 0)) 91)) (some w.heap.size) 123 := off_row hone.out.row (by decide)
  refine ⟨hB, a', c', rfl, ⟨?_, fun q hq => ?_⟩⟩
  · rw [List.length_cons, hL.out]
    exact own_weaken ho hlo
  · rcases List.mem_cons.1 hq with rfl | hq
    · exact World.ownsRow_nil _ _ _ _
    · exact (hI1.out.each q hq).kept hg (ho23.off (hI1.out.each q hq))
theorem labelled_any (lo : Nat) (lb : List UInt8) (a : Option Addr) (c : Nat) (p : List (Itm × Value)) (hp : p.length ≤ 1100000) (w : World) (hlo : lo ≤ w.heap.size) (hI : ItOwn lo w (.slice a p.length c) p) :
    Calls Tryz.prog 72 #[.string (str lb), .slice a p.length c] w fun e w' => Below w.heap.size w w' ∧ ∃ a' c' p', p'.map (·.1) = labF lb ++ p.map (·.1) ∧ e = .returned (.slice a' p'.length c') ∧ ItOwn lo w' (.slice a' p'.length c') p' := by
  by_cases h0 : lb = []
  · subst h0
    refine (labelled_none a p.length c w).mono ?_
    rintro e w' ⟨rfl, rfl⟩
    exact ⟨Below.refl _ _, a, c, p, by simp [labF_none], rfl, hI⟩
  · refine (labelled_some lo lb h0 a c p hp w hlo hI).mono ?_
    rintro e w' ⟨hB, a', c', rfl, hI'⟩
    exact ⟨hB, a', c', (labI lb, .slice none 0 0) :: p, by simp [labF_some h0], rfl, hI'⟩
end Go.Proofs.YtogkchgjpflmjaaGreatDoor
/- unit's lay: a line's items behind those of the section. -/
namespace Go.Proofs.YtogkchgjpflmjaaGreatDoor
open Go.ChangeShapes Go.WideShapes Go.ChangeAt Go.RowKit
set_option linter.unusedVariables false
set_option maxRecDepth 100000
def layI (A : Asm) (its : List Itm) : Asm := { A with text := if A.sec = 1 then A.text else A.text ++ its, data := if A.sec = 1 then A.data ++ its else A.data }
variable {lo b m N : Nat} {w : World} {A : Asm} {pt pd : List (Itm × Value)} {pe : List ((List UInt8 × Lin) × Value)} {tv dv ev av : Value}
theorem AsmAt.vals (h : AsmAt lo w b m N A pt pd pe tv dv ev av) : ∃ ta tc da dc ea ec aa ac, tv = .slice ta pt.length tc ∧ dv = .slice da pd.length dc ∧ ev = .slice ea pe.length ec ∧ av = .slice aa A.asked.length ac := by
  obtain ⟨ta, tc, h1⟩ := own_slice h.text.row
  obtain ⟨da, dc, h2⟩ := own_slice h.data.row
  obtain ⟨ea, ec, h3⟩ := own_slice h.equs.row
  obtain ⟨aa, ac, h4⟩ := own_slice h.asked
  exact ⟨ta, tc, da, dc, ea, ec, aa, ac, h1, h2, h3, h4⟩
theorem AsmAt.cell (h : AsmAt lo w b m N A pt pd pe tv dv ev av) (j : Nat) : w.cell? ⟨b, j, none⟩ = #[tv, dv, ev, .slice none 0 0, .int .i64 A.sec, .map (some m), av][j]? := cell_blockT h.blk j
set_option maxHeartbeats 4000000 in
theorem lay_many (h : AsmAt lo w b m N A pt pd pe tv dv ev av) (a : Option Addr) (n c : Nat) (hmany : 8192 < pt.length + pd.length + n) (hpt : pt.length ≤ 1100000) (hpd : pd.length ≤ 1100000) (hn : n ≤ 1200000) :
    Calls Tryz.prog 71 #[.pointer (some ⟨b, 0, none⟩), .slice a n c] w fun e w' => e = .returned (.bool false) ∧ Below w.heap.size w w' := by
  obtain ⟨ta, tc, da, dc, ea, ec, aa, ac, rfl, rfl, rfl, rfl⟩ := h.vals
  have hc := h.cell
  have c0 := (hc 0).trans rfl
  have c1 := (hc 1).trans rfl
  clear hc h
  generalize pt.length = lt at *
  generalize pd.length = ld at *
  have q1 : IntKind.i64.wrap ((lt : Int) + (ld : Int)) = (lt : Int) + (ld : Int) := by rw [IntKind.wrap_i64]; omega
  have q2 : IntKind.i64.wrap ((lt : Int) + (ld : Int) + (n : Int)) = (lt : Int) + (ld : Int) + (n : Int) := by rw [IntKind.wrap_i64]; omega
  have q3 : decide ((8192 : Int) < (lt : Int) + (ld : Int) + (n : Int)) = true := by simp; omega
  go_enter Tryz.func71, Tryz.ntmps71
  go_wp2
  go_quiet (fail)
  go_wp2
  go_ret
  exact ⟨rfl, below_drewN (Below.refl _ _) nq⟩
set_option maxHeartbeats 4000000 in
theorem lay_text (h : AsmAt lo w b m N A pt pd pe tv dv ev av) (hsec : A.sec ≠ 1) (a : Option Addr) (c : Nat) (p : List (Itm × Value)) (hp : ItOwn lo w (.slice a p.length c) p) (hfew : pt.length + pd.length + p.length ≤ 8192) :
    Calls Tryz.prog 71 #[.pointer (some ⟨b, 0, none⟩), .slice a p.length c] w fun e w' => e = .returned (.bool true) ∧ BelN lo m w w' ∧ Keep2 w w' ∧ ∃ tv', AsmAt lo w' b m N { A with text := A.text ++ p.map (·.1) } (pt ++ p) pd pe tv' dv ev av := by
  obtain ⟨ta, tc, da, dc, ea, ec, aa, ac, rfl, rfl, rfl, rfl⟩ := h.vals
  have hc := h.cell
  have c0 := (hc 0).trans rfl
  have c1 := (hc 1).trans rfl
  have c4 := (hc 4).trans rfl
  clear hc
  have hse : (A.sec == 1) = false := by simpa using hsec
  have hltb := h.lt
  have hlo2 : lo ≤ w.heap.size := by have := h.blo; omega
  obtain ⟨i0, hi, hz0, hz1, hz2⟩ := info_parts info91
  have hH := Hid.intro (fun n => h.below (below_drewN (Below.refl w.heap.size w) n))
  have hPH := Hid.intro (fun n => hp.below (below_drewN (Below.refl w.heap.size w) n))
  have hown : Hid (∀ n, (w.drewN n).ownsRow lo 91 10 (.slice ta pt.length tc) pt.length (rowI pt)) := fun n => (hH.out n).text.row
  have hsrc : Hid (∀ n, Src (w.drewN n) (.slice a p.length c) p.length (rowI p)) := fun n => own_src (hPH.out n).row
  have h1 := Hid.intro (rowI_one hp)
  have hrl := Hid.intro (rowI_length p)
  have hfin : Hid (∀ n v' w1, w1.ownsRow lo 91 10 v' (pt.length + p.length) (rowI pt ++ rowI p) → (w.drewN n).grownBy w1 (Value.slice ta pt.length tc).ownBlock → (v'.ownBlock = (Value.slice ta pt.length tc).ownBlock ∨ v'.ownBlock = some (w.drewN n).heap.size) → w1.cell? ⟨b, 0, none⟩ = some (.slice ta pt.length tc) ∧ w1.frozen? ⟨b, 0, none⟩ = false ∧ BelN lo m w (w1.setCell ⟨b, 0, none⟩ v') ∧ Keep2 w (w1.setCell ⟨b, 0, none⟩ v') ∧ AsmAt lo (w1.setCell ⟨b, 0, none⟩ v') b m N { A with text := A.text ++ p.map (·.1) } (pt ++ p) pd pe v' (.slice da pd.length dc) (.slice ea pe.length ec) (.slice aa A.asked.length ac)) := fun n v' w1 k1 k2 k3 => by
    obtain ⟨g1, g2, g3, g4⟩ := (hH.out n).layT (hPH.out n) k1 k2 k3
    exact ⟨(cell_blockT g1 0).trans rfl, frozen_of_row w1 b 0 _ 70 g1, (BelN.of (below_drewN (Below.refl w.heap.size w) n) hlo2).trans g3, g4, g2⟩
  clear h hp hH hPH
  generalize pt.length = lt at *
  generalize pd.length = ld at *
  generalize p.length = n at *
  have q1 : IntKind.i64.wrap ((lt : Int) + (ld : Int)) = (lt : Int) + (ld : Int) := by rw [IntKind.wrap_i64]; omega
  have q2 : IntKind.i64.wrap ((lt : Int) + (ld : Int) + (n : Int)) = (lt : Int) + (ld : Int) + (n : Int) := by rw [IntKind.wrap_i64]; omega
  have q3 : decide ((8192 : Int) < (lt : Int) + (ld : Int) + (n : Int)) = false := by simp; omega
  go_enter Tryz.func71, Tryz.ntmps71
  go_wp2
  go_quiet (fail)
  have c0 : (w.drewN nq).cell? ⟨b, 0, none⟩ = some (.slice ta lt tc) := c0
  have c4 : (w.drewN nq).cell? ⟨b, 4, none⟩ = some (.int .i64 A.sec) := c4
  go_wp2_with (at_builtin; go_must (refine wpList_app rfl (.tmp 43) (.tmp 44) 22 rfl lo 91 i0 _ 10 104 Tryz.underlying22 hi hz0 hz1 hz2 rfl (by decide) (.slice ta lt tc) lt (rowI pt) rfl (hown.out nq) (.slice a n c) n (rowI p) rfl (hsrc.out nq) hrl.out h1.out (by unfold maxLen; omega) (by omega) hlo2 ?_; intro v' w1 ho hg hw; obtain ⟨z0, z1, z2, z4, z3⟩ := hfin.out nq v' w1 ho hg hw; replace z2 := Hid.intro z2; replace z4 := Hid.intro z4; replace z3 := Hid.intro z3; obtain ⟨a', c', rfl⟩ := own_slice ho; clear ho hg hw))
  all_goals first | omega | skip
  go_ret
  exact ⟨rfl, z2.out, z4.out, _, z3.out⟩
set_option maxHeartbeats 4000000 in
theorem lay_data (h : AsmAt lo w b m N A pt pd pe tv dv ev av) (hsec : A.sec = 1) (a : Option Addr) (c : Nat) (p : List (Itm × Value)) (hp : ItOwn lo w (.slice a p.length c) p) (hfew : pt.length + pd.length + p.length ≤ 8192) :
    Calls Tryz.prog 71 #[.pointer (some ⟨b, 0, none⟩), .slice a p.length c] w fun e w' => e = .returned (.bool true) ∧ BelN lo m w w' ∧ Keep2 w w' ∧ ∃ dv', AsmAt lo w' b m N { A with data := A.data ++ p.map (·.1) } pt (pd ++ p) pe tv dv' ev av := by
  obtain ⟨ta, tc, da, dc, ea, ec, aa, ac, rfl, rfl, rfl, rfl⟩ := h.vals
  have hc := h.cell
  have c0 := (hc 0).trans rfl
  have c1 := (hc 1).trans rfl
  have c4 := (hc 4).trans rfl
  clear hc
  have hse : (A.sec == 1) = true := by simpa using hsec
  have hltb := h.lt
  have hlo2 : lo ≤ w.heap.size := by have := h.blo; omega
  obtain ⟨i0, hi, hz0, hz1, hz2⟩ := info_parts info91
  have hH := Hid.intro (fun n => h.below (below_drewN (Below.refl w.heap.size w) n))
  have hPH := Hid.intro (fun n => hp.below (below_drewN (Below.refl w.heap.size w) n))
  have hown : Hid (∀ n, (w.drewN n).ownsRow lo 91 10 (.slice da pd.length dc) pd.length (rowI pd)) := fun n => (hH.out n).data.row
  have hsrc : Hid (∀ n, Src (w.drewN n) (.slice a p.length c) p.length (rowI p)) := fun n => own_src (hPH.out n).row
  have h1 := Hid.intro (rowI_one hp)
  have hrl := Hid.intro (rowI_length p)
  have hfin : Hid (∀ n v' w1, w1.ownsRow lo 91 10 v' (pd.length + p.length) (rowI pd ++ rowI p) → (w.drewN n).grownBy w1 (Value.slice da pd.length dc).ownBlock → (v'.ownBlock = (Value.slice da pd.length dc).ownBlock ∨ v'.ownBlock = some (w.drewN n).heap.size) → w1.cell? ⟨b, 1, none⟩ = some (.slice da pd.length dc) ∧ w1.frozen? ⟨b, 1, none⟩ = false ∧ BelN lo m w (w1.setCell ⟨b, 1, none⟩ v') ∧ Keep2 w (w1.setCell ⟨b, 1, none⟩ v') ∧ AsmAt lo (w1.setCell ⟨b, 1, none⟩ v') b m N { A with data := A.data ++ p.map (·.1) } pt (pd ++ p) pe (.slice ta pt.length tc) v' (.slice ea pe.length ec) (.slice aa A.asked.length ac)) := fun n v' w1 k1 k2 k3 => by
    obtain ⟨g1, g2, g3, g4⟩ := (hH.out n).layD (hPH.out n) k1 k2 k3
    exact ⟨(cell_blockT g1 1).trans rfl, frozen_of_row w1 b 1 _ 70 g1, (BelN.of (below_drewN (Below.refl w.heap.size w) n) hlo2).trans g3, g4, g2⟩
  clear h hp hH hPH
  generalize pt.length = lt at *
  generalize pd.length = ld at *
  generalize p.length = n at *
  have q1 : IntKind.i64.wrap ((lt : Int) + (ld : Int)) = (lt : Int) + (ld : Int) := by rw [IntKind.wrap_i64]; omega
  have q2 : IntKind.i64.wrap ((lt : Int) + (ld : Int) + (n : Int)) = (lt : Int) + (ld : Int) + (n : Int) := by rw [IntKind.wrap_i64]; omega
  have q3 : decide ((8192 : Int) < (lt : Int) + (ld : Int) + (n : Int)) = false := by simp; omega
  go_enter Tryz.func71, Tryz.ntmps71
  go_wp2
  go_quiet (fail)
  have c1 : (w.drewN nq).cell? ⟨b, 1, none⟩ = some (.slice da ld dc) := c1
  have c4 : (w.drewN nq).cell? ⟨b, 4, none⟩ = some (.int .i64 A.sec) := c4
  go_wp2_with (at_builtin; go_must (refine wpList_app rfl (.tmp 32) (.tmp 33) 22 rfl lo 91 i0 _ 10 104 Tryz.underlying22 hi hz0 hz1 hz2 rfl (by decide) (.slice da ld dc) ld (rowI pd) rfl (hown.out nq) (.slice a n c) n (rowI p) rfl (hsrc.out nq) hrl.out h1.out (by unfold maxLen; omega) (by omega) hlo2 ?_; intro v' w1 ho hg hw; obtain ⟨z0, z1, z2, z4, z3⟩ := hfin.out nq v' w1 ho hg hw; replace z2 := Hid.intro z2; replace z4 := Hid.intro z4; replace z3 := Hid.intro z3; obtain ⟨a', c', rfl⟩ := own_slice ho; clear ho hg hw))
  all_goals first | omega | skip
  go_ret
  exact ⟨rfl, z2.out, z4.out, _, z3.out⟩
def LayOut (lo : Nat) (w w' : World) (b m N : Nat) (A : Asm) (n : Nat) (its : List Itm) (pe : List ((List UInt8 × Lin) × Value)) (ev av : Value) (e : Ending) : Prop :=
  if 8192 < A.text.length + A.data.length + n then e = .returned (.bool false) else e = .returned (.bool true) ∧ Keep2 w w' ∧ ∃ pt' pd' tv' dv', AsmAt lo w' b m N (layI A its) pt' pd' pe tv' dv' ev av
theorem lay_any (h : AsmAt lo w b m N A pt pd pe tv dv ev av) (a : Option Addr) (c : Nat) (p : List (Itm × Value)) (hp : ItOwn lo w (.slice a p.length c) p) (hpn : p.length ≤ 1200000) (hok : A.text.length + A.data.length ≤ 8192) :
    Calls Tryz.prog 71 #[.pointer (some ⟨b, 0, none⟩), .slice a p.length c] w fun e w' => BelN lo m w w' ∧ LayOut lo w w' b m N A p.length (p.map (·.1)) pe ev av e := by
  have e1 : A.text.length = pt.length := by rw [h.et, List.length_map]
  have e2 : A.data.length = pd.length := by rw [h.ed, List.length_map]
  unfold LayOut
  by_cases hm : 8192 < A.text.length + A.data.length + p.length
  · simp only [if_pos hm]
    have hlo : lo ≤ w.heap.size := by have := h.blo; have := h.lt; omega
    refine (lay_many h a p.length c (by omega) (by omega) (by omega) hpn).mono ?_
    rintro e w' ⟨rfl, hb⟩
    exact ⟨BelN.of hb hlo, rfl⟩
  · simp only [if_neg hm]
    by_cases hs : A.sec = 1
    · refine (lay_data h hs a c p hp (by omega)).mono ?_
      rintro e w' ⟨rfl, hb, hk, dv', hA⟩
      exact ⟨hb, rfl, hk, _, _, _, _, by unfold layI; rw [if_pos hs, if_pos hs]; exact hA⟩
    · refine (lay_text h hs a c p hp (by omega)).mono ?_
      rintro e w' ⟨rfl, hb, hk, tv', hA⟩
      exact ⟨hb, rfl, hk, _, _, _, _, by unfold layI; rw [if_neg hs, if_neg hs]; exact hA⟩
end Go.Proofs.YtogkchgjpflmjaaGreatDoor
namespace Go.Proofs.YtogkchgjpflmjaaGreatDoor
open Go.ChangeShapes Go.WideShapes Go.ChangeAt Go.RowKit
set_option linter.unusedVariables false
set_option maxRecDepth 100000
variable {lo b m N : Nat} {w : World} {A : Asm} {pt pd : List (Itm × Value)} {pe : List ((List UInt8 × Lin) × Value)} {tv dv ev av : Value}
theorem rowA_get (l : List (List UInt8 × Nat)) (i f : Nat) (q : List UInt8 × Nat) (hi : l[i]? = some q) (hf : f < 2) : (rowA l)[i * 2 + f]? = (askCells q)[f]? := flat_at (fun q => askCells q) 2 (fun _ => rfl) l i f q hi hf
theorem AsmAt.ask (h : AsmAt lo w b m N A pt pd pe tv dv ev av) {i : Nat} {q : List UInt8 × Nat} (hi : A.asked[i]? = some q) : ∃ G c, av = .slice (some ⟨G, 0, none⟩) A.asked.length c ∧ G < w.heap.size ∧ w.cell? ⟨G, i * 2, none⟩ = some (.string (str q.1)) ∧ w.cell? ⟨G, i * 2 + 1, none⟩ = some (.int .i64 (q.2 : Int)) := by
  have hlt := (List.getElem?_eq_some_iff.1 hi).1
  rcases h.asked.2 with ⟨_, h0⟩ | ⟨G, cap, cur, hv, _, hg, _⟩
  · omega
  · have hr := h.asked
    rw [hv] at hr
    have key : ∀ f, f < 2 → w.cell? ⟨G, i * 2 + f, none⟩ = (askCells q)[f]? := fun f hf => by
      rw [hr.cellAt _ (by omega)]
      exact rowA_get A.asked i f q hi hf
    exact ⟨G, cap, hv, (Array.getElem?_eq_some_iff.1 hg).1, key 0 (by omega), key 1 (by omega)⟩
theorem unknownF_at {A : Asm} {i : Nat} {q : List UInt8 × Nat} (hi : A.asked[i]? = some q) (ha : ∀ j, j < i → ∀ p, A.asked[j]? = some p → p.1 ∈ A.given) (hq : q.1 ∉ A.given) : unknownF A = some q.2 := by
  unfold unknownF
  have : A.asked.find? (fun g => decide (g.1 ∉ A.given)) = some q := by
    rw [List.find?_eq_some_iff_getElem]
    have hlt := (List.getElem?_eq_some_iff.1 hi).1
    refine ⟨by simpa using hq, i, hlt, (List.getElem?_eq_some_iff.1 hi).2, fun j hj => ?_⟩
    have := ha j hj A.asked[j] (List.getElem?_eq_getElem (by omega))
    simpa using this
  rw [this]
  rfl
theorem unknownF_all {A : Asm} (ha : ∀ j, j < A.asked.length → ∀ p, A.asked[j]? = some p → p.1 ∈ A.given) : unknownF A = none := by
  unfold unknownF
  have : A.asked.find? (fun g => decide (g.1 ∉ A.given)) = none := by
    rw [List.find?_eq_none]
    intro x hx
    obtain ⟨j, hj⟩ := List.mem_iff_getElem?.1 hx
    have := ha j (List.getElem?_eq_some_iff.1 hj).1 x hj
    simpa using this
  rw [this]
  rfl
def unkV (A : Asm) : Array Value := match unknownF A with | none => #[.int .i64 0, .bool false] | some n => #[.int .i64 (n : Int), .bool true]
set_option maxHeartbeats 4000000 in
theorem unknown_any (h : AsmAt lo w b m N A pt pd pe tv dv ev av) (hfa : A.asked.length ≤ 1100000) (hnm : ∀ q ∈ A.asked, q.1.length ≤ 1100000) :
    Calls Tryz.prog 36 #[.pointer (some ⟨b, 0, none⟩)] w fun e w' => Below w.heap.size w w' ∧ e = .returned (.tuple (unkV A)) := by
  obtain ⟨ta, tc, da, dc, ea, ec, aa, ac, rfl, rfl, rfl, rfl⟩ := h.vals
  have c6 := (h.cell 6).trans rfl
  have hH := Hid.intro h
  have hnH := Hid.intro hnm
  clear h hnm
  obtain ⟨n0, hn0⟩ : ∃ n0, n0 = A.asked.length := ⟨_, rfl⟩
  rw [← hn0] at hfa c6
  replace hn0 := Hid.intro hn0
  go_enter Tryz.func36, Tryz.ntmps36
  go_wp2
  all_goals first | omega | skip
  clear c6
  go_loopw [13] (fun v13 wr => ∃ i : Nat, i ≤ n0 ∧ v13 = .int .i64 (i : Int) ∧ Hid (∀ j, j < i → ∀ p, A.asked[j]? = some p → p.1 ∈ A.given) ∧ Hid (Below w.heap.size w wr)) (fun v13 wr => n0 - (intOf v13).toNat)
  case atStart => exact ⟨0, by omega, rfl, fun j hj => by omega, Below.refl _ _⟩
  case round =>
    obtain ⟨i, hi, rfl, hall, hB⟩ := hrel
    by_cases hlt : i < n0
    · obtain ⟨q, hq⟩ : ∃ q, A.asked[i]? = some q := ⟨A.asked[i]'(by rw [← hn0.out]; exact hlt), List.getElem?_eq_getElem _⟩
      have hA := hH.out.below hB.out
      obtain ⟨G, c, hv, hG, k0, k1⟩ := hA.ask hq
      injection hv with hv _ hv3
      subst hv hv3
      have hlt2 : (i : Int) < (n0 : Int) := by omega
      have hmem := List.mem_of_getElem? hq
      have hA1 := hA.below (below_alloc wr (.cells #[.string (str q.1), .int .i64 (q.2 : Int)] 144))
      have hB1 : Below w.heap.size w (wr.alloc (.cells #[.string (str q.1), .int .i64 (q.2 : Int)] 144)) := hB.out.alloc hB.out.size _
      have hbx := fun j => cell_blockT (heap_alloc_new wr (.cells #[.string (str q.1), .int .i64 (q.2 : Int)] 144)) j
      have x0 := (hbx 0).trans rfl
      have x1 := (hbx 1).trans rfl
      clear hbx
      have hs1 : (wr.alloc (.cells #[.string (str q.1), .int .i64 (q.2 : Int)] 144)).heap.size = wr.heap.size + 1 := by simp
      have hqH := Hid.intro hq
      go_wp2
      all_goals first | omega | skip
      generalize (wr.alloc (.cells #[.string (str q.1), .int .i64 (q.2 : Int)] 144)) = w1 at *
      have hl1 : (Instr.lookup 67 (.map (some m)) (.string (str q.1)) true).run Tryz.prog w1.drew = .ok (.tuple #[.agg #[], .bool (decide (q.1 ∈ A.given))]) w1.drew := setlook_run (hA1.set.below (Below.refl _ _).drew) q.1 (hnH.out q hmem)
      have hl2 : ∀ o, (Instr.lookup 67 (.map (some m)) (.string (str q.1)) true).run Tryz.prog (w1.alloc o).drew = .ok (.tuple #[.agg #[], .bool (decide (q.1 ∈ A.given))]) (w1.alloc o).drew := fun o => setlook_run (hA1.set.below (below_alloc w1 o).drew) q.1 (hnH.out q hmem)
      have b5 := (hA1.cell 5).trans rfl
      have b6 : ∀ o, (w1.alloc o).cell? ⟨b, 5, none⟩ = some (.map (some m)) := fun o => ((hA1.below (below_alloc w1 o)).cell 5).trans rfl
      have x0' : ∀ o, (w1.alloc o).cell? ⟨wr.heap.size, 0, none⟩ = some (.string (str q.1)) := fun o => by rw [World.cell?_alloc_lt _ _ ⟨wr.heap.size, 0, none⟩ (by show wr.heap.size < _; omega)]; exact x0
      have x1' : ∀ o, (w1.alloc o).drew.cell? ⟨wr.heap.size, 1, none⟩ = some (.int .i64 (q.2 : Int)) := fun o => by show (w1.alloc o).cell? _ = _; rw [World.cell?_alloc_lt _ _ ⟨wr.heap.size, 1, none⟩ (by show wr.heap.size < _; omega)]; exact x1
      replace hA := Hid.intro hA
      replace hA1 := Hid.intro hA1
      replace hB1 := Hid.intro hB1
      clear hq hmem
      by_cases hg : q.1 ∈ A.given
      · rw [show decide (q.1 ∈ A.given) = true by simp [hg]] at hl1 hl2
        have hgH := Hid.intro hg
        clear hg
        go_region
        all_goals go_wp2_with fail
        all_goals go_roundw
        all_goals first
          | exact ⟨i + 1, by omega, by go_num, fun j hj p hp => by
              rcases Nat.lt_or_ge j i with h1 | h1
              · exact hall.out j h1 p hp
              · obtain rfl : j = i := by omega
                rw [hqH.out] at hp
                cases hp
                exact hgH.out, (hB1.out.alloc hB1.out.size _).drew⟩
          | (simp [intOf]; omega)
      · rw [show decide (q.1 ∈ A.given) = false by simp [hg]] at hl1 hl2
        have hres : Hid (unkV A = #[.int .i64 (q.2 : Int), .bool true]) := by
          show _ = _
          unfold unkV
          rw [unknownF_at hqH.out hall.out hg]
        clear hg
        go_region
        all_goals go_wp2_with fail
        all_goals go_ret2
        all_goals (rw [hres.out]; exact ⟨(hB1.out.alloc hB1.out.size _).drew, rfl⟩)
    · have hin : i = n0 := by omega
      have hres : Hid (unkV A = #[.int .i64 0, .bool false]) := by
        show _ = _
        unfold unkV
        rw [unknownF_all (fun j hj p hp => hall.out j (by rw [hin, hn0.out]; exact hj) p hp)]
      subst hin
      have hlt3 : ¬ ((i : Int) < (i : Int)) := by omega
      go_wp2
      all_goals first | omega | skip
      go_ret2
      rw [hres.out]
      exact ⟨hB.out, rfl⟩
end Go.Proofs.YtogkchgjpflmjaaGreatDoor

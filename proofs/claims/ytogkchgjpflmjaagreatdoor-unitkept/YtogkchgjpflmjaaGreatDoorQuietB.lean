/- A region that draws its order, whose operations only read, and whose callees leave what was there as it was: walked once. -/
import Derived.Test.YtogkchgjpflmjaaGreatDoorShelf
import Derived.Shelf.SlSortCmp.NoneTotal
import Derived.Deep.QuietTactic
import Derived.BigQuiet
import Derived.WalkSmall
import Derived.WalkSpells
/- Terms are sorted by name. -/
namespace Go.Proofs.YtogkchgjpflmjaaGreatDoor
open Go.ChangeShapes Go.WideShapes Go.ChangeAt Go.RowKit Go.Sort
set_option linter.unusedVariables false
set_option maxRecDepth 100000
theorem compareString_any (a b : ByteArray) (w : World) :
    Calls Tryz.prog 247 #[.string a, .string b] w fun e w' => e = .returned (.int .i64 (Lib.compareBytes a.data.toList b.data.toList)) ∧ w' = w := by
  go_enter Tryz.func247, Tryz.ntmps247
  go_wp2
  rw [run_callFunc_extern Tryz.func258 (by kernel_rfl) (by kernel_rfl) (by kernel_rfl) (e := Extern.BytealgCompare.compare) (by kernel_rfl), Lib.run_compareString]
  simp only [Result.andThen]
  rw [Oper.upon_value]
  go_wp2
  go_ret
  exact ⟨rfl, rfl⟩
theorem compare_any (a b : ByteArray) (w : World) :
    Calls Tryz.prog 243 #[.string a, .string b] w fun e w' => e = .returned (.int .i64 (Lib.compareBytes a.data.toList b.data.toList)) ∧ w' = w := by
  go_enter Tryz.func243, Tryz.ntmps243
  go_wp2_with (go_at_call 247; refine (compareString_any _ _ _).mono ?_; rintro e w' ⟨rfl, rfl⟩)
  go_ret
  exact ⟨rfl, rfl⟩
instance : Inhabited Tm := ⟨⟨[], 0⟩⟩
def cmpT (x y : Tm) : Int := Lib.compareBytes x.name y.name
theorem closure_any (x y : Tm) (W : World) : Calls Tryz.prog 242 #[.agg x.cells.toArray, .agg y.cells.toArray] W fun e w' => e = .returned (.int .i64 (cmpT x y)) ∧ ∃ q os', w' = grow (W.drewN q) os' := by
  have hcon := fun W' => compare_any (str x.name) (str y.name) W'
  have hx : ∀ l : List UInt8, (str l).data.toList = l := fun l => rfl
  rw [hx, hx] at hcon
  unfold cmpT
  generalize Lib.compareBytes x.name y.name = r at hcon ⊢
  simp only [Tm.cells]
  go_enter Tryz.func242, Tryz.ntmps242
  go_wp2_with (go_at_call 243; refine (hcon _).mono ?_; rintro e w' ⟨rfl, rfl⟩)
  go_ret
  exact ⟨rfl, 0, _, by rw [alloc_eq_grow, alloc_eq_grow, grow_grow]; rfl⟩
theorem cmpLays_any (blk off size : Nat) (w : World) : CmpLays Tryz.prog 242 #[] Tm.cells 2 cmpT blk off size w :=
  fun _ _ _ _ x y => closure_any x y _
theorem ltT (x y : Tm) : ltOf cmpT x y = nlt x.name y.name := compare_nlt _ _
theorem swoT : SWO (ltOf cmpT) where
  irrefl x := by rw [ltT, nlt_irrefl]
  trans x y z h1 h2 := by rw [ltT] at *; exact nlt_trans h1 h2
  ntrans x y z h1 h2 := by
    rw [ltT] at *
    have := leT_trans z y x (by simp [leT, h2]) (by simp [leT, h1])
    simpa [leT] using this
theorem flat_row (ts : List Tm) : (flatK Tm.cells 2 ts.toArray).toList = rowT ts := by
  apply List.ext_getElem?
  intro j
  by_cases hj : j < ts.length * 2
  · have hq : j / 2 < ts.length := by omega
    have h1 : ts[j / 2]? = some ts[j / 2] := List.getElem?_eq_getElem hq
    have h2 := rowT_get ts (j / 2) (j % 2) _ h1 (by omega)
    rw [show j / 2 * 2 + j % 2 = j by omega] at h2
    rw [h2, Array.getElem?_toList]
    have h3 : (flatK Tm.cells 2 ts.toArray)[j]? = some (flatK Tm.cells 2 ts.toArray)[j]! := by
      rw [getElem!_pos _ j (by simp; omega)]
      exact Array.getElem?_eq_getElem _
    rw [h3, get_flatK _ _ _ _ (by simpa using hj)]
    have h4 : ts.toArray[j / 2]! = ts[j / 2] := by
      rw [getElem!_pos _ _ (by simpa using hq)]
      simp
    rw [h4]
    have h5 : (ts[j / 2].cells).length = 2 := rfl
    rw [getElem!_pos _ _ (by omega), List.getElem?_eq_getElem (by omega)]
  · rw [List.getElem?_eq_none (by simp; omega), List.getElem?_eq_none (by rw [rowT_length]; omega)]
theorem holds_own {w : World} {g n : Nat} {cur : Array Value} {e : TypeId} {ts : List Tm} (hb : w.heap[g]? = some (.cells cur e (0, 0))) (ht : cur.toList.take (ts.length * 2) = rowT ts) : HoldsK Tm.cells 2 w g 0 ts.toArray := by
  intro j hj
  have hj' : j < ts.length * 2 := by simpa using hj
  refine ⟨?_, by simp [World.frozen?, hb]⟩
  have h1 : (cur.toList.take (ts.length * 2))[j]? = (rowT ts)[j]? := by rw [ht]
  rw [List.getElem?_take_of_lt hj'] at h1
  simp only [World.cell?, hb, Nat.zero_add]
  simp only [Option.isSome_none, Bool.false_eq_true, if_false]
  rw [← Array.getElem?_toList, h1, ← flat_row, Array.getElem?_toList, getElem!_pos _ j hj]
  exact Array.getElem?_eq_getElem _
theorem heap_sortedK {w : World} {g n : Nat} {os : Array Obj} {cur : Array Value} {e : TypeId} {fr : Nat × Nat} (d : Array Tm) (hb : w.heap[g]? = some (.cells cur e fr)) :
    (sortWorldK Tm.cells 2 w g 0 n d os).heap[g]? = some (.cells (putCells id 0 (flatK Tm.cells 2 d) cur) e fr) := by
  have hg : g < w.heap.size := (Array.getElem?_eq_some_iff.1 hb).1
  unfold sortWorldK putRowK
  rw [heap_grow_old _ _ (by simpa using hg)]
  simp [putRow, mapBlock, Sort.ahead, Array.getElem?_modify, hb, onCells]
theorem grownBy_sortedK {w : World} {g n : Nat} {os : Array Obj} (d : Array Tm) : w.grownBy (sortWorldK Tm.cells 2 w g 0 n d os) (some g) := by
  unfold sortWorldK putRowK
  refine ⟨rfl, rfl, rfl, by simp, fun k hk hne => ?_⟩
  rw [heap_grow_old _ _ (by simpa using hk)]
  have : g ≠ k := fun e => hne (by rw [e])
  simp [putRow, mapBlock, Sort.ahead, Array.getElem?_modify, this]
theorem take_putCellsK (cur F : Array Value) (h : F.size ≤ cur.size) : (putCells id 0 F cur).toList.take F.size = F.toList := by
  apply List.ext_getElem?
  intro j
  by_cases hj : j < F.size
  · rw [List.getElem?_take_of_lt hj, Array.getElem?_toList, Array.getElem?_toList]
    simp [putCells, hj, show j < cur.size by omega]
  · rw [List.getElem?_take_eq_none (by omega), List.getElem?_eq_none (by simp; omega)]
theorem sort_any (v : Value) (ts : List Tm) (B : Nat) (w : World) (hl : ts.length ≤ 9000000) (hown : w.ownsRow B 123 2 v ts.length (rowT ts)) :
    Calls Tryz.prog 241 #[v, .func (.func 242) #[] #[]] w fun e w' => e = .returned (.tuple #[]) ∧ ∃ ts', ts.Perm ts' ∧ Sorted ts' ∧ w'.ownsRow B 123 2 v ts.length (rowT ts') ∧ w.grownBy w' v.ownBlock := by
  have hown' := hown
  obtain ⟨hlen, ⟨rfl, h0⟩ | ⟨g, cap, cur, rfl, hbg, hg, hle, hcap, hsz, htk⟩⟩ := hown
  · have hts : ts = [] := List.eq_nil_of_length_eq_zero h0
    subst hts
    refine (AnyF.slices_SortFunc_none Tryz.laysSort none 0 (.func (.func 242) #[] #[]) w).mono ?_
    rintro e w' ⟨rfl, rfl⟩
    exact ⟨rfl, [], List.Perm.refl _, List.Pairwise.nil, hown', World.grownBy.refl _ _⟩
  · have eg : ∀ args w, (callFunc 242 args).run Tryz.prog w = .ok (.enter 242 args) w := enters_of Tryz.func242 (by kernel_rfl) rfl
    have hcon := AnyQ.slices_SortFunc Tryz.laysSort 2 Tryz.isAgg123 Tryz.sizeOf123 Tm.cells (fun _ => rfl) (fun x u hu => by simp [Tm.cells] at hu; rcases hu with rfl | rfl <;> rfl) cmpT swoT 242 #[] g 0 cap ts.toArray w eg (cmpLays_any g 0 _ w) (holds_own (n := 0) hg htk) (Array.getElem?_eq_some_iff.1 hg).1 (by simp; omega)
    change Calls Tryz.prog 241 _ _ _ at hcon
    simp only [List.size_toArray] at hcon
    refine hcon.mono ?_
    rintro e w' ⟨rfl, d', n, os, hp, hs, rfl⟩
    have hds : d'.size = ts.length := by simpa using hp.1
    have hperm : d'.toList.Perm ts := by
      have := hp.2.2
      simp at this
      rwa [List.take_of_length_le (by simp [hds])] at this
    refine ⟨rfl, d'.toList, hperm.symm, ?_, ?_, ?_⟩
    · refine List.pairwise_iff_getElem.2 fun i j hi hj hij => ?_
      have hi' : i < d'.size := by simpa using hi
      have hj' : j < d'.size := by simpa using hj
      have := hs i j (Nat.zero_le _) hij (by omega)
      rw [ltT, getElem!_pos d' i hi', getElem!_pos d' j hj'] at this
      simpa using this
    · refine ⟨by rw [rowT_length]; simp [hds], .inr ⟨g, cap, _, rfl, hbg, heap_sortedK d' hg, hle, hcap, by simp [putCells, hsz], ?_⟩⟩
      have h1 := take_putCellsK cur (flatK Tm.cells 2 d') (by simp [hds, hsz]; omega)
      have h2 := flat_row d'.toList
      simp only [Array.toArray_toList] at h2
      rw [h2] at h1
      simpa [hds] using h1
    · exact grownBy_sortedK d'
end Go.Proofs.YtogkchgjpflmjaaGreatDoor
/- expr.gather. -/
namespace Go.Proofs.YtogkchgjpflmjaaGreatDoor
open Go.ChangeShapes Go.WideShapes Go.ChangeAt Go.RowKit
set_option linter.unusedVariables false
set_option maxRecDepth 100000
structure GMem (B : Nat) (w : World) (p : Nat) (ts : List Tm) (v : Value) (n : Int) (out : List Tm) (vo : Value) (wr : World) : Prop where
  row : wr.ownsRow B 123 2 v ts.length (rowT ts)
  old : ∀ k, v.ownBlock = some k → k < w.heap.size
  res : Two wr w.heap.size 89 (.slice none 0 0) (.int .u32 0)
  lin : Two wr p 89 vo (.int .u32 n)
  own : wr.ownsRow (p + 1) 123 2 vo out.length (rowT out)
  bel : Below B w wr
  size : p + 1 ≤ wr.heap.size
  lt : w.heap.size < p
theorem GMem.grown {B : Nat} {w : World} {p : Nat} {ts : List Tm} {v : Value} {n : Int} {out : List Tm} {vo : Value} {wr w' : World} (h : GMem B w p ts v n out vo wr) (hB : B ≤ w.heap.size) {q : Nat} (hg : wr.grownBy w' (some q)) (hq : p < q) (hqo : vo.ownBlock ≠ some q) : GMem B w p ts v n out vo w' := by
  have hlt := h.lt
  have hsz := h.size
  refine ⟨h.row.kept hg ?_, h.old, h.res.grown hg (by simp; omega), h.lin.grown hg (by simp; omega), h.own.kept hg (.inr hqo), h.bel.grown hg (by omega) (fun k hk => by cases hk; omega), by have := hg.size; omega, hlt⟩
  cases hv : v.ownBlock with
  | none => exact .inl rfl
  | some k =>
    refine .inr fun e => ?_
    have := h.old k hv
    injection e with e
    omega
theorem GMem.alloc {B : Nat} {w : World} {p : Nat} {ts : List Tm} {v : Value} {n : Int} {out : List Tm} {vo : Value} {wr : World} (h : GMem B w p ts v n out vo wr) (hB : B ≤ w.heap.size) (o : Obj) : GMem B w p ts v n out vo (wr.alloc o) := by
  have hlt := h.lt
  have hsz := h.size
  exact ⟨h.row.alloc o, h.old, h.res.alloc o, h.lin.alloc o, h.own.alloc o, h.bel.alloc (by omega) o, by simp; omega, hlt⟩
theorem GMem.drewN {B : Nat} {w : World} {p : Nat} {ts : List Tm} {v : Value} {n : Int} {out : List Tm} {vo : Value} {wr : World} (h : GMem B w p ts v n out vo wr) (m : Nat) : GMem B w p ts v n out vo (wr.drewN m) :=
  ⟨h.row, h.old, two_of h.res.heap, two_of h.lin.heap, h.own, ⟨h.bel.os, h.bel.tape, h.bel.output, h.bel.size, h.bel.block⟩, h.size, h.lt⟩
structure GSt (B : Nat) (w : World) (p : Nat) (ts : List Tm) (v : Value) (n : Int) (i : Nat) (out : List Tm) (vo : Value) (wr : World) : Prop where
  le : i ≤ ts.length
  few : out.length ≤ i
  eq : gather ts = out ++ gather (ts.drop i)
  mem : GMem B w p ts v n out vo wr
structure ISt (B : Nat) (w : World) (p : Nat) (ts : List Tm) (v : Value) (n : Int) (q j : Nat) (nm : List UInt8) (c : Int) (out : List Tm) (vo : Value) (wr : World) : Prop where
  le : j ≤ ts.length
  eq : gather ts = out ++ gat nm c (ts.drop j)
  mem : GMem B w p ts v n out vo wr
  all : Two wr q 123 (.string (str nm)) (.int .u32 c)
  lt : p < q
  own : ∀ k, vo.ownBlock = some k → k < q
theorem drop_at {α : Type} (ts : List α) (i : Nat) (t : α) (h : ts[i]? = some t) : ts.drop i = t :: ts.drop (i + 1) := by
  obtain ⟨hi, he⟩ := List.getElem?_eq_some_iff.1 h
  rw [List.drop_eq_getElem_cons hi, he]
theorem ISt.drewN {B : Nat} {w : World} {p : Nat} {ts : List Tm} {v : Value} {n : Int} {q j : Nat} {nm : List UInt8} {c : Int} {out : List Tm} {vo : Value} {wr : World} (h : ISt B w p ts v n q j nm c out vo wr) (m : Nat) : ISt B w p ts v n q j nm c out vo (wr.drewN m) :=
  ⟨h.le, h.eq, h.mem.drewN m, two_of h.all.heap, h.lt, h.own⟩
theorem ISt.more {B : Nat} {w : World} {p : Nat} {ts : List Tm} {v : Value} {n : Int} {q j : Nat} {nm : List UInt8} {c : Int} {out : List Tm} {vo : Value} {wr : World} (h : ISt B w p ts v n q j nm c out vo wr) (hB : B ≤ w.heap.size) (t : Tm) (ht : ts[j]? = some t) (hn : t.name = nm) :
    ISt B w p ts v n q (j + 1) nm ((c + t.coef) % 4294967296) out vo (wr.setCell ⟨q, 1, none⟩ (.int .u32 ((c + t.coef) % 4294967296))) := by
  have hj := (List.getElem?_eq_some_iff.1 ht).1
  obtain ⟨s1, s2⟩ := two_put1 h.all (.int .u32 ((c + t.coef) % 4294967296))
  exact ⟨by omega, by rw [h.eq, drop_at ts j t ht, gat_same _ _ _ _ hn], h.mem.grown hB s2 h.lt (fun e => by have := h.own _ e; omega), s1, h.lt, h.own⟩
theorem ISt.ends {B : Nat} {w : World} {p : Nat} {ts : List Tm} {v : Value} {n : Int} {q j : Nat} {nm : List UInt8} {c : Int} {out : List Tm} {vo : Value} {wr : World} (h : ISt B w p ts v n q j nm c out vo wr) (hj : ∀ t, ts[j]? = some t → t.name ≠ nm) : gather ts = out ++ emit nm c (gather (ts.drop j)) := by
  rw [h.eq]
  congr 1
  cases ht : ts[j]? with
  | none =>
    rw [List.drop_eq_nil_of_le (by simpa using ht)]
    rfl
  | some t =>
    rw [drop_at ts j t ht, gat_other _ _ _ _ (hj t ht)]
theorem GSt.skip {B : Nat} {w : World} {p : Nat} {ts : List Tm} {v : Value} {n : Int} {q j : Nat} {nm : List UInt8} {c : Int} {out : List Tm} {vo : Value} {wr : World} (h : ISt B w p ts v n q j nm c out vo wr) (hf : out.length < j) (he : gather ts = out ++ emit nm c (gather (ts.drop j))) (hz : c = 0) : GSt B w p ts v n j out vo wr :=
  ⟨h.le, by omega, by rw [he, emit, if_pos hz], h.mem⟩
theorem GSt.push {B : Nat} {w : World} {p : Nat} {ts : List Tm} {v : Value} {n : Int} {q j L c1 : Nat} {nm : List UInt8} {c : Int} {out : List Tm} {a1 : Option Addr} {wr : World} (h : ISt B w p ts v n q j nm c out (.slice a1 L c1) wr) (hB : B ≤ w.heap.size) (hf : out.length < j) (he : gather ts = out ++ emit nm c (gather (ts.drop j))) (hz : c ≠ 0)
    (o : Obj) (v2 : Value) (w3 : World) (hL : L = out.length) (hown : w3.ownsRow (p + 1) 123 2 v2 (L + 1) (rowT out ++ [.string (str nm), .int .u32 c])) (hg : (wr.alloc o).grownBy w3 (Value.slice a1 L c1).ownBlock) :
    Two w3 p 89 (.slice a1 L c1) (.int .u32 n) ∧ GSt B w p ts v n j (out ++ [⟨nm, c⟩]) v2 (w3.setCell ⟨p, 0, none⟩ v2) := by
  have hM := h.mem.alloc hB o
  have hlt := hM.lt
  have hsz := hM.size
  have hs3 := hg.size
  have hnb : ∀ k, (Value.slice a1 L c1).ownBlock = some k → p + 1 ≤ k := fun k hk => (hM.own.lt k hk).1
  have hlin := hM.lin.grown hg (fun e => by have := hnb _ e; omega)
  obtain ⟨s1, s2⟩ := two_put hlin v2
  refine ⟨hlin, h.le, by simp; omega, by rw [he, emit, if_neg hz]; simp, ?_⟩
  have hrow : w3.ownsRow B 123 2 v ts.length (rowT ts) := hM.row.kept hg (by
    cases hv : v.ownBlock with
    | none => exact .inl rfl
    | some k =>
      refine .inr fun e => ?_
      have h1 := hM.old k hv
      have h2 := hnb k e.symm
      omega)
  refine ⟨hrow.kept s2 ?_, hM.old, (hM.res.grown hg (fun e => by have := hnb _ e; omega)).grown s2 (by simp; omega), s1, ?_, ?_, by have := s2.size; omega, hlt⟩
  · cases hv : v.ownBlock with
    | none => exact .inl rfl
    | some k =>
      refine .inr fun e => ?_
      have h1 := hM.old k hv
      injection e with e
      omega
  · refine own_low ?_ s2 (by omega)
    rw [rowT_push, List.length_append, ← hL]
    exact hown
  · exact (hM.bel.grown hg (by omega) (fun k hk => by have := hnb k hk; omega)).grown s2 (by omega) (fun k hk => by cases hk; omega)
theorem own_len {w : World} {lo : Nat} {T : TypeId} {sz : Nat} {a : Option Addr} {c m n : Nat} {xs : List Value} (h : w.ownsRow lo T sz (.slice a m c) n xs) : m = n := by
  obtain ⟨a', c', h2⟩ := own_slice h
  injection h2 with _ h2 _
set_option maxHeartbeats 4000000 in
theorem gather_any (v : Value) (ts0 : List Tm) (n : Int) (B : Nat) (w : World) (hl : ts0.length ≤ 9000000) (hB : B ≤ w.heap.size) (hown : w.ownsRow B 123 2 v ts0.length (rowT ts0)) :
    Calls Tryz.prog 237 #[v, .int .u32 n] w fun e w' => Below B w w' ∧ ∃ v', e = .returned (linV v' n) ∧ w'.ownsRow w.heap.size 123 2 v' (norm ts0).length (rowT (norm ts0)) := by
  obtain ⟨a0, c0, rfl⟩ := own_slice hown
  obtain ⟨n0, hn0⟩ : ∃ n0, n0 = ts0.length := ⟨_, rfl⟩
  have hs := fun (w : World) (h : w.ownsRow B 123 2 (.slice a0 ts0.length c0) ts0.length (rowT ts0)) => sort_any (.slice a0 ts0.length c0) ts0 B w hl h
  rw [← hn0] at hl hown hs ⊢
  have hsH := Hid.intro hs
  have hownH := Hid.intro hown
  have hnH := Hid.intro hn0
  clear hs hown hn0
  obtain ⟨i0, hi, hz0, hz1, hz2⟩ := info_parts Tryz.info123
  go_enter Tryz.func237, Tryz.ntmps237
  go_wp2_with (go_at_call 241; with_reducible refine (hsH.out _ (hownH.out.alloc _)).mono ?_; rintro e w1 ⟨rfl, ts, hp, hsd, hrow, hg1⟩)
  have hts : n0 = ts.length := by rw [hnH.out]; exact hp.length_eq
  have hnorm : gather ts = norm ts0 := gather_sorted hp hsd
  have hw1 : w.heap.size < w1.heap.size := by have := hg1.size; simp at this; omega
  have hold : ∀ k, (Value.slice a0 n0 c0).ownBlock = some k → B ≤ k ∧ k < w.heap.size := fun k hk => hownH.out.lt k hk
  have hstart : Hid (GSt B w w1.heap.size ts (.slice a0 n0 c0) n 0 [] (.slice none 0 0) (w1.alloc (.cells #[.slice none 0 0, .int .u32 n] 89))) := by
    refine ⟨Nat.zero_le _, by simp, by simp, ?_⟩
    refine ⟨by rw [← hts]; exact hrow.alloc _, fun k hk => (hold k hk).2, ?_, two_new w1 89 _ _, World.ownsRow_nil _ _ _ _, ?_, by simp, hw1⟩
    · exact ((two_new w 89 (.slice none 0 0) (.int .u32 0)).grown hg1 (fun e => by have := (hold _ e).2; omega)).alloc _
    · exact (((below_alloc w _).mono hB).grown hg1 (by simp; omega) (fun k hk => (hold k hk).1)).alloc (by omega) _
  have htsH := Hid.intro hts
  have hnoH := Hid.intro hnorm
  have holdH := Hid.intro hold
  clear hp hsd hrow hg1 hts hnorm hold
  obtain ⟨p, hp⟩ : ∃ p, p = w1.heap.size := ⟨_, rfl⟩
  rw [← hp] at hstart hw1 ⊢
  clear hp
  go_loopw [6] (fun vi wr => ∃ (i : Nat) (out : List Tm) (vo : Value), vi = .int .i64 (i : Int) ∧ Hid (GSt B w p ts (.slice a0 n0 c0) n i out vo wr)) (fun vi _ => n0 - (intOf vi).toNat)
  case atStart => exact ⟨0, [], _, rfl, hstart⟩
  case round =>
    clear hstart
    obtain ⟨i, out, vo, rfl, hS⟩ := hrel
    obtain ⟨a1, c1, rfl⟩ := own_slice hS.out.mem.own
    obtain ⟨L, hL⟩ : ∃ L, L = out.length := ⟨_, rfl⟩
    rw [← hL] at hS
    have hLH := Hid.intro hL
    have hLi : L ≤ i := by rw [hL]; exact hS.out.few
    clear hL
    have hle := hS.out.le
    rw [← htsH.out] at hle
    by_cases hlt : i < n0
    · obtain ⟨t, ht⟩ : ∃ t, ts[i]? = some t := ⟨ts[i]'(by rw [← htsH.out]; exact hlt), List.getElem?_eq_getElem _⟩
      have htH := Hid.intro ht
      clear ht
      have hrow := hS.out.mem.row
      rw [← htsH.out] at hrow
      have hlies := own_tmLies (a := a0) (c := c0) (ts := ts) (by rw [← htsH.out]; exact hrow)
      rcases hlies with hx | ⟨g, o, rfl, hg, hT⟩
      · rw [hx] at htsH; have := htsH.out; simp at this; omega
      obtain ⟨q0, q1⟩ := hT i t htH.out
      clear hT hrow
      go_wp2
      all_goals first | omega | skip
      have hbeg : Hid (ISt B w p ts (.slice (some ⟨g, o, none⟩) n0 c0) n wr.heap.size i t.name 0 out (.slice a1 L c1) (wr.alloc (.cells #[.string (str t.name), .int .u32 0] 123))) :=
        ⟨by rw [← htsH.out]; omega, by rw [hS.out.eq, drop_at ts i t htH.out, gather_gat], hS.out.mem.alloc hB _, two_new wr 123 _ _, by have := hS.out.mem.size; omega, fun k hk => (hS.out.mem.own.lt k hk).2⟩
      have hgold : g < w.heap.size := (holdH.out g rfl).2
      obtain ⟨q, hq⟩ : ∃ q, q = wr.heap.size := ⟨_, rfl⟩
      rw [← hq] at hbeg ⊢
      clear hq q0 q1 hg hS
      go_loopw [6] (fun vj wj => ∃ (j : Nat) (c : Int), i ≤ j ∧ vj = .int .i64 (j : Int) ∧ Hid (ISt B w p ts (.slice (some ⟨g, o, none⟩) n0 c0) n q j t.name c out (.slice a1 L c1) wj)) (fun vj _ => n0 - (intOf vj).toNat)
      case atStart => exact ⟨i, 0, Nat.le_refl _, rfl, hbeg⟩
      case round =>
        clear hbeg
        obtain ⟨j, c, hij, rfl, hI⟩ := hrel
        have hjle := hI.out.le
        rw [← htsH.out] at hjle
        obtain ⟨_, m0, m1, mf0, mf1⟩ := hI.out.all
        obtain ⟨_, l0, l1, lf0, lf1⟩ := hI.out.mem.lin
        have hpq := hI.out.lt
        have hgq : ¬ g = q := by omega
        have hqg : ¬ q = g := by omega
        by_cases hjl : j < n0
        · obtain ⟨t2, ht2⟩ : ∃ t2, ts[j]? = some t2 := ⟨ts[j]'(by rw [← htsH.out]; exact hjl), List.getElem?_eq_getElem _⟩
          have ht2H := Hid.intro ht2
          clear ht2
          have hlies := own_tmLies (a := some ⟨g, o, none⟩) (c := c0) (ts := ts) (by have := hI.out.mem.row; rwa [← htsH.out] at this ⊢)
          rcases hlies with hx | ⟨g', o', hgo, hg', hT⟩
          · rw [hx] at htsH; have := htsH.out; simp at this; omega
          injection hgo with hgo
          injection hgo with hgo1 hgo2 _
          subst hgo1 hgo2
          obtain ⟨x0, x1⟩ := hT j t2 ht2H.out
          clear hT
          by_cases hn : t2.name = t.name
          · have he : ((str t2.name).toList == (str t.name).toList) = true := by simp [hn]
            have hnext := Hid.intro (fun m => (hI.out.drewN m).more hB t2 ht2H.out hn)
            clear hn
            go_wp2
            all_goals first | omega | skip
            go_quiet (fail)
            go_wp2
            all_goals first | omega | skip
            have x0' : (wr.drewN nq).cell? ⟨g, o + j * 2, none⟩ = some (.string (str t2.name)) := x0
            have x1' : (wr.drewN nq).cell? ⟨g, o + j * 2 + 1, none⟩ = some (.int .u32 t2.coef) := x1
            have m0' : (wr.drewN nq).cell? ⟨q, 0, none⟩ = some (.string (str t.name)) := m0
            have m1' : (wr.drewN nq).cell? ⟨q, 1, none⟩ = some (.int .u32 c) := m1
            have mf1' : (wr.drewN nq).frozen? ⟨q, 1, none⟩ = false := mf1
            go_region
            go_wp2
            all_goals first | omega | skip
            go_roundw
            case rel => exact ⟨j + 1, _, by omega, by go_num, Hid.intro (hnext.out (nq + 1))⟩
            case measure => simp [intOf]; omega
          · have he : ((str t2.name).toList == (str t.name).toList) = false := by rw [str_toList, str_toList]; simp [hn]
            have hends := Hid.intro (hI.out.ends (fun t3 h3 => by rw [ht2H.out] at h3; cases h3; exact hn))
            have hij2 : i < j := by
              apply Decidable.byContradiction
              intro hnn
              have : i = j := by omega
              subst this
              have := ht2H.out
              rw [htH.out] at this
              cases this
              exact hn rfl
            clear hn
            have hLo : out.length < j := by rw [← hLH.out]; omega
            by_cases hz : c = 0
            · have hz' : (c != 0) = false := by simp [hz]
              have hfin := Hid.intro (fun nq => GSt.skip (hI.out.drewN nq) (by omega) hends.out hz)
              clear hz
              go_wp2
              all_goals first | omega | skip
              go_quiet (fail)
              go_wp2
              all_goals first | omega | skip
              go_roundw
              case rel => exact ⟨j, out, .slice a1 L c1, rfl, Hid.intro (hfin.out nq)⟩
              case measure => simp [intOf]; omega
            · have hz' : (c != 0) = true := by simp [hz]
              have hfin := Hid.intro (fun nq => GSt.push (hI.out.drewN nq) hB (by omega) hends.out hz)
              clear hz
              have hownH2 := Hid.intro (hI.out.mem.own)
              rw [← hLH.out] at hownH2
              have hszr := hI.out.mem.size
              go_wp2
              all_goals first | omega | skip
              go_quiet (fail)
              have l0' : ∀ o, ((wr.drewN nq).alloc o).cell? ⟨p, 0, none⟩ = some (.slice a1 L c1) := ((hI.out.drewN nq).mem.lin).a0
              have m0' : (wr.drewN nq).cell? ⟨q, 0, none⟩ = some (.string (str t.name)) := m0
              have m1' : (wr.drewN nq).cell? ⟨q, 1, none⟩ = some (.int .u32 c) := m1
              have l00 : (wr.drewN nq).cell? ⟨p, 0, none⟩ = some (.slice a1 L c1) := l0
              go_wp2_with (at_builtin; go_must (refine wpList_append_own_wide _ rfl (.tmp 51) (.tmp 53) 86 rfl (p + 1) 123 i0 (.agg #[.string ⟨#[]⟩, .int .u32 0]) 2 24 Tryz.underlying86 hi hz0 hz1 hz2 rfl (by decide) (.slice a1 L c1) L (rowT out) rfl (World.ownsRow.alloc (w := wr.drewN nq) hownH2.out _) ⟨wr.heap.size, 0, none⟩ 1 1 [.string (str t.name), .int .u32 c] rfl rfl (cells_new (wr.drewN nq) _ _) (by simp [Value.oneCell']) (by unfold maxLen; omega) (by omega) (by simp; omega) ?_; intro v2 w3 hown3 hgrow3 _; obtain ⟨a2, c2, rfl⟩ := own_slice hown3; have hf2 := Hid.intro (hfin.out nq _ _ w3 hLH.out hown3 hgrow3); obtain ⟨_, p0, p1, pf0, pf1⟩ := hf2.out.1))
              all_goals first | omega | skip
              go_roundw
              case rel => exact ⟨j, out ++ [⟨t.name, c⟩], .slice a2 (L + 1) c2, rfl, Hid.intro hf2.out.2⟩
              case measure => simp [intOf]; omega
        · have hends := Hid.intro (hI.out.ends (fun t3 h3 => by have := (List.getElem?_eq_some_iff.1 h3).1; rw [← htsH.out] at this; omega))
          have hLo : out.length < j := by rw [← hLH.out]; omega
          by_cases hz : c = 0
          · have hz' : (c != 0) = false := by simp [hz]
            have hfin := Hid.intro (fun nq => GSt.skip (hI.out.drewN nq) (by omega) hends.out hz)
            clear hz
            go_wp2
            all_goals first | omega | skip
            go_quiet (fail)
            go_wp2
            all_goals first | omega | skip
            go_roundw
            case rel => exact ⟨j, out, .slice a1 L c1, rfl, Hid.intro (hfin.out nq)⟩
            case measure => simp [intOf]; omega
          · have hz' : (c != 0) = true := by simp [hz]
            have hfin := Hid.intro (fun nq => GSt.push (hI.out.drewN nq) hB (by omega) hends.out hz)
            clear hz
            have hownH2 := Hid.intro (hI.out.mem.own)
            rw [← hLH.out] at hownH2
            have hszr := hI.out.mem.size
            go_wp2
            all_goals first | omega | skip
            go_quiet (fail)
            have l0' : ∀ o, ((wr.drewN nq).alloc o).cell? ⟨p, 0, none⟩ = some (.slice a1 L c1) := ((hI.out.drewN nq).mem.lin).a0
            have m0' : (wr.drewN nq).cell? ⟨q, 0, none⟩ = some (.string (str t.name)) := m0
            have m1' : (wr.drewN nq).cell? ⟨q, 1, none⟩ = some (.int .u32 c) := m1
            have l00 : (wr.drewN nq).cell? ⟨p, 0, none⟩ = some (.slice a1 L c1) := l0
            go_wp2_with (at_builtin; go_must (refine wpList_append_own_wide _ rfl (.tmp 51) (.tmp 53) 86 rfl (p + 1) 123 i0 (.agg #[.string ⟨#[]⟩, .int .u32 0]) 2 24 Tryz.underlying86 hi hz0 hz1 hz2 rfl (by decide) (.slice a1 L c1) L (rowT out) rfl (World.ownsRow.alloc (w := wr.drewN nq) hownH2.out _) ⟨wr.heap.size, 0, none⟩ 1 1 [.string (str t.name), .int .u32 c] rfl rfl (cells_new (wr.drewN nq) _ _) (by simp [Value.oneCell']) (by unfold maxLen; omega) (by omega) (by simp; omega) ?_; intro v2 w3 hown3 hgrow3 _; obtain ⟨a2, c2, rfl⟩ := own_slice hown3; have hf2 := Hid.intro (hfin.out nq _ _ w3 hLH.out hown3 hgrow3); obtain ⟨_, p0, p1, pf0, pf1⟩ := hf2.out.1))
            all_goals first | omega | skip
            go_roundw
            case rel => exact ⟨j, out ++ [⟨t.name, c⟩], .slice a2 (L + 1) c2, rfl, Hid.intro hf2.out.2⟩
            case measure => simp [intOf]; omega
    · obtain ⟨_, l0, l1, lf0, lf1⟩ := hS.out.mem.lin
      obtain ⟨rh, r0, r1, rf0, rf1⟩ := hS.out.mem.res
      have rhH := Hid.intro rh
      clear rh
      go_wp2
      all_goals first | omega | skip
      have hin : i = ts.length := by rw [← htsH.out]; omega
      have hltp := hS.out.mem.lt
      have hszr := hS.out.mem.size
      obtain ⟨s1, s2⟩ := two_set rhH.out rfl (.slice a1 L c1) (.int .u32 n)
      have hb2 : Below B w ((wr.setCell ⟨w.heap.size, 0, none⟩ (.slice a1 L c1)).setCell ⟨w.heap.size, 1, none⟩ (.int .u32 n)) := hS.out.mem.bel.grown s2 (by omega) (fun j hj => by cases hj; omega)
      generalize ((wr.setCell ⟨w.heap.size, 0, none⟩ (.slice a1 L c1)).setCell ⟨w.heap.size, 1, none⟩ (.int .u32 n)) = w3 at s1 s2 hb2 ⊢
      obtain ⟨_, z0, z1, _, _⟩ := s1
      refine bodyPost_ret (by simp [results, Tryz.results237, go_sem, z0, z1]; try rfl) rfl ?_
      refine ⟨hb2, _, rfl, ?_⟩
      have hout : out = norm ts0 := by
        have := hS.out.eq
        rw [hin, List.drop_length, hnoH.out] at this
        rw [this]
        exact (List.append_nil out).symm
      have hown := own_weaken (own_low hS.out.mem.own s2 (by omega)) (B := w.heap.size) (by omega)
      rw [hout] at hown
      exact hown
end Go.Proofs.YtogkchgjpflmjaaGreatDoor
/- slices.Equal at terms; expr.Same and the document's. -/
namespace Go.Proofs.YtogkchgjpflmjaaGreatDoor
open Go.ChangeShapes Go.WideShapes Go.ChangeAt Go.RowKit
set_option linter.unusedVariables false
set_option maxRecDepth 100000
theorem tm_ne {t u : Tm} (h : t ≠ u) : (t.name ≠ u.name) ∨ (t.name = u.name ∧ t.coef ≠ u.coef) := by
  by_cases hn : t.name = u.name
  · refine .inr ⟨hn, fun hc => h ?_⟩
    cases t; cases u; simp_all
  · exact .inl hn
theorem list_ne {α : Type} {xs ys : List α} {k : Nat} {t u : α} (h1 : xs[k]? = some t) (h2 : ys[k]? = some u) (h : t ≠ u) : xs ≠ ys := by
  intro e
  subst e
  rw [h1] at h2
  cases h2
  exact h rfl
theorem list_eq {α : Type} {xs ys : List α} (hl : xs.length = ys.length) (h : xs.take xs.length = ys.take xs.length) : xs = ys := by
  rw [List.take_length, hl, List.take_length] at h
  exact h
theorem below_drewN {B : Nat} {a w : World} (h : Below B a w) (n : Nat) : Below B a (w.drewN n) := ⟨h.os, h.tape, h.output, h.size, h.block⟩
def sameL (xs ys : List Tm) (k1 k2 : Int) : Bool := decide (k1 = k2) && decide (xs = ys)
set_option maxHeartbeats 1000000 in
theorem refSame_any (a1 a2 : Option Addr) (c1 c2 : Nat) (xs ys : List Tm) (k1 k2 : Int) (w : World) (h1 : TmLies w a1 xs) (h2 : TmLies w a2 ys) (hm : xs.length ≤ 9000000) (hm2 : ys.length ≤ 9000000) :
    Calls Tryz.prog 78 #[linV (.slice a1 xs.length c1) k1, linV (.slice a2 ys.length c2) k2] w fun e w' => e = .returned (.bool (sameL xs ys k1 k2)) ∧ Below w.heap.size w w' := by
  have hb0 := fun o1 o2 => ((below_alloc w o1).alloc (by simp) o2)
  obtain ⟨n0, hn0⟩ : ∃ n0, n0 = xs.length := ⟨_, rfl⟩
  obtain ⟨n1, hn1⟩ : ∃ n1, n1 = ys.length := ⟨_, rfl⟩
  obtain ⟨bv, hbv⟩ : ∃ bv, bv = sameL xs ys k1 k2 := ⟨_, rfl⟩
  rw [← hn0, ← hn1, ← hbv]
  rw [← hn0] at hm
  rw [← hn1] at hm2
  have hnH := Hid.intro hn0
  have hn1H := Hid.intro hn1
  by_cases hk : k1 = k2
  · have hk' : (k1 != k2) = false := by simp [hk]
    have hbH : Hid (bv = decide (xs = ys)) := by show bv = _; rw [hbv, sameL, hk]; simp
    clear hbv hk
    by_cases hl : n0 = n1
    · subst hl
      have t1 := (two_new w 89 (.slice a1 n0 c1) (.int .u32 k1)).alloc (.cells #[.slice a2 n0 c2, .int .u32 k2] 89)
      have t2 := two_new (w.alloc (.cells #[.slice a1 n0 c1, .int .u32 k1] 89)) 89 (.slice a2 n0 c2) (.int .u32 k2)
      have hbb := hb0 (.cells #[.slice a1 n0 c1, .int .u32 k1] 89) (.cells #[.slice a2 n0 c2, .int .u32 k2] 89)
      simp only [World.size_alloc] at t2
      clear hn0 hn1 hb0
      go_enter Tryz.func78, Tryz.ntmps78
      go_wp2
      all_goals first | omega | skip
      have h1' := Hid.intro (h1.below hbb (Nat.le_refl _))
      have h2' := Hid.intro (h2.below hbb (Nat.le_refl _))
      clear h1 h2
      generalize ((w.alloc (.cells #[.slice a1 n0 c1, .int .u32 k1] 89)).alloc (.cells #[.slice a2 n0 c2, .int .u32 k2] 89)) = w0 at *
      obtain ⟨_, x0, x1, _, _⟩ := t1
      obtain ⟨_, y0, y1, _, _⟩ := t2
      go_loopw [5] (fun i wr => ∃ k n : Nat, k ≤ n0 ∧ i = .int .i64 k ∧ wr = w0.drewN n ∧ Hid (xs.take k = ys.take k)) (fun i _ => n0 - (intOf i).toNat)
      case atStart => exact ⟨0, 0, Nat.zero_le _, rfl, rfl, rfl⟩
      case round =>
        obtain ⟨k, n, hk, rfl, rfl, heq⟩ := hrel
        have x0' : (w0.drewN n).cell? ⟨w.heap.size, 0, none⟩ = some (.slice a1 n0 c1) := x0
        have y0' : (w0.drewN n).cell? ⟨w.heap.size + 1, 0, none⟩ = some (.slice a2 n0 c2) := y0
        by_cases hlt : k < n0
        · obtain ⟨t, ht⟩ : ∃ t, xs[k]? = some t := ⟨xs[k]'(by rw [← hnH.out]; exact hlt), List.getElem?_eq_getElem _⟩
          obtain ⟨u, hu⟩ : ∃ u, ys[k]? = some u := ⟨ys[k]'(by rw [← hn1H.out]; exact hlt), List.getElem?_eq_getElem _⟩
          rcases h1'.out with hx | ⟨g1, o1, rfl, _, hc1⟩
          · rw [hx] at ht; simp at ht
          rcases h2'.out with hx | ⟨g2, o2, rfl, _, hc2⟩
          · rw [hx] at hu; simp at hu
          obtain ⟨q0, q1⟩ := hc1 k t ht
          obtain ⟨p0, p1⟩ := hc2 k u hu
          clear hc1 hc2
          by_cases htu : t = u
          · subst htu
            have hnext : Hid (xs.take (k + 1) = ys.take (k + 1)) := by
              show _ = _
              rw [take_at xs k t ht, take_at ys k t hu, heq.out]
            clear ht hu
            go_wp2
            go_quiet (fail)
            go_wp2
            all_goals first
              | omega
              | skip
            go_roundw
            case rel => exact ⟨k + 1, n + nq, by omega, by go_num, by simp, hnext⟩
            case measure => simp [intOf]; omega
          · have hf : bv = false := by rw [hbH.out]; exact decide_eq_false (list_ne ht hu htu)
            subst hf
            clear ht hu
            rcases tm_ne htu with hne | ⟨hne, hce⟩
            · have e1 : ((str t.name).toList == (str u.name).toList) = false := by rw [str_toList, str_toList]; simp [hne]
              clear htu hne
              go_wp2
              go_quiet (fail)
              go_wp2
              all_goals first
                | omega
                | skip
              go_ret
              exact ⟨rfl, below_drewN (below_drewN hbb _) _⟩
            · have e1 : ((str t.name).toList == (str u.name).toList) = true := by rw [hne]; simp
              have e2 : (t.coef == u.coef) = false := by simp [hce]
              clear htu hne hce
              go_wp2
              go_quiet (fail)
              go_wp2
              all_goals first
                | omega
                | skip
              go_ret
              exact ⟨rfl, below_drewN (below_drewN hbb _) _⟩
        · have ht : bv = true := by
            rw [hbH.out]
            have e : k = xs.length := by rw [← hnH.out]; omega
            exact decide_eq_true (list_eq (by rw [← hnH.out, hn1H.out]) (by have := heq.out; rwa [e] at this))
          subst ht
          go_wp2
          all_goals first
            | omega
            | skip
          go_ret
          exact ⟨rfl, below_drewN hbb _⟩
    · have hne : xs ≠ ys := fun e => hl (by rw [hn0, hn1, e])
      have hf : bv = false := by rw [hbH.out]; exact decide_eq_false hne
      subst hf
      have hne2 : ((n0 : Int) != (n1 : Int)) = true := by simp; omega
      clear hne hl hn0 hn1
      go_enter Tryz.func78, Tryz.ntmps78
      go_wp2
      all_goals first
        | omega
        | skip
      go_ret
      exact ⟨rfl, hb0 _ _⟩
  · have hk' : (k1 != k2) = true := by simp [hk]
    have hf : bv = false := by rw [hbv, sameL]; simp [hk]
    subst hf
    clear hbv hk hn0 hn1
    go_enter Tryz.func78, Tryz.ntmps78
    go_wp2
    go_ret
    exact ⟨rfl, hb0 _ _⟩
end Go.Proofs.YtogkchgjpflmjaaGreatDoor
namespace Go.Proofs.YtogkchgjpflmjaaGreatDoor
open Go.ChangeShapes Go.WideShapes Go.ChangeAt Go.RowKit
set_option linter.unusedVariables false
set_option maxRecDepth 100000
structure BelowOf (w : World) where
  wd : World
  h : Below w.heap.size w wd
instance {w : World} : Inhabited (BelowOf w) := ⟨⟨w, Below.refl _ _⟩⟩
theorem BelowOf.cell {w : World} (p : BelowOf w) {a : Addr} {v : Value} (ha : a.block < w.heap.size) (h : w.cell? a = some v) : p.wd.cell? a = some v := by rw [p.h.cell ha]; exact h
theorem wp_region_quiet_below {P : Program} {id : Nat} {Q : Exit → Act → World → Prop} {a : Act} {w : World} {l : List Oper} (hm : P.follows .mixedOrders = true) (hB : Region.lexB .any l.toArray = true)
    (h : wpQuiet P l.toArray (fun w' => ∃ p : BelowOf w, w' = p.wd) (fun a' => ∀ w', (∃ p : BelowOf w, w' = p.wd) → Q .normal a' w') l a) : (Code.region id l.toArray true).wp P Q a w :=
  wp_region_quiet (C := fun w' => ∃ p : BelowOf w, w' = p.wd) hm hB ⟨⟨w.drew, (Below.refl _ _).drew⟩, rfl⟩ (by simpa using h)
theorem wpQuiet_skip {P : Program} {ops : Array Oper} {C : World → Prop} {Q : Act → Prop} {a : Act} {o : Oper} {rest : List Oper} (h : Region.wanted o (yielded ops a.tmps) = false) (k : wpQuiet P ops C Q rest (a.put o.dst undef)) : wpQuiet P ops C Q (o :: rest) a := by
  unfold wpQuiet
  rw [if_neg (by rw [h]; decide)]
  exact k
theorem below_calls {P : Program} {f : FuncId} {args : Array Value} {w : World} {p : BelowOf w} {v : Value}
    (h : Calls P f args p.wd fun e w' => e = .returned v ∧ Below p.wd.heap.size p.wd w') : Calls P f args p.wd fun e w'' => e = .returned v ∧ ∃ p' : BelowOf w, w'' = p'.wd :=
  h.mono fun _ w' ⟨he, hb⟩ => ⟨he, ⟨w', p.h.trans (hb.mono p.h.size)⟩, rfl⟩
end Go.Proofs.YtogkchgjpflmjaaGreatDoor

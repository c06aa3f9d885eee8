/- Lists that grow: a list laid behind one that is owned, and the block that it lies in then. -/
import Derived.Test.YtebbbefknfldoaaLead
import Derived.Shelf.SlGeneric
import Derived.Shelf.SlSortCmp.WholeK
import Derived.Shelf.SlicesQ.Equal
import Derived.Shelf.Slices.Turned
import Derived.Test.YtebbbefknfldoaaProg
import Derived.Shelf.SlSortCmp.NoneTotal
import Derived.Deep.DeepAppendWide
import Derived.Laws.OwnMore
/- equs in memory; the document's find. -/
namespace Go.Proofs.Ytebbbefknfldoaa
open Go.ChangeShapes Go.WideShapes Go.ChangeAt Go.RowKit
set_option linter.unusedVariables false
set_option linter.unusedSimpArgs false
set_option maxRecDepth 100000
abbrev Eqv := List UInt8 × Lin
structure EqAt (w : World) (g o : Nat) (q : Eqv) (va : Option Addr) (vc : Nat) : Prop where
  name : w.cell? ⟨g, o, none⟩ = some (.string (str q.1))
  terms : w.cell? ⟨g, o + 1, none⟩ = some (.slice va q.2.terms.length vc)
  const : w.cell? ⟨g, o + 2, none⟩ = some (.int .u32 q.2.const)
  lies : TmLies w va q.2.terms
def EqIn (w : World) (a : Option Addr) (l : List Eqv) : Prop := l = [] ∨ ∃ g o, a = some ⟨g, o, none⟩ ∧ g < w.heap.size ∧ ∀ (i : Nat) (q : Eqv), l[i]? = some q → ∃ va vc, EqAt w g (o + i * 3) q va vc
theorem EqAt.below {w w' : World} {g o : Nat} {q : Eqv} {va : Option Addr} {vc : Nat} (h : EqAt w g o q va vc) (hg : g < w.heap.size) (hb : Below w.heap.size w w') : EqAt w' g o q va vc :=
  ⟨(hb.cell (p := ⟨g, o, none⟩) hg).trans h.name, (hb.cell (p := ⟨g, o + 1, none⟩) hg).trans h.terms, (hb.cell (p := ⟨g, o + 2, none⟩) hg).trans h.const, h.lies.below hb (Nat.le_refl _)⟩
theorem EqIn.below {w w' : World} {a : Option Addr} {l : List Eqv} (h : EqIn w a l) (hb : Below w.heap.size w w') : EqIn w' a l := by
  rcases h with h | ⟨g, o, ha, hg, h⟩
  · exact .inl h
  · refine .inr ⟨g, o, ha, Nat.lt_of_lt_of_le hg hb.size, fun i q hi => ?_⟩
    obtain ⟨va, vc, h1⟩ := h i q hi
    exact ⟨va, vc, h1.below hg hb⟩
end Go.Proofs.Ytebbbefknfldoaa
/- The library's slices.SortFunc and slices.Equal at terms, slices.Contains at texts: the shelf's layings at this program's numbers. -/
namespace Go.Proofs
open Go.Shelf
def Try.laysSort_ren : Go.Shelf.Ren := ⟨fun | 6 => 77 | 15 => 49 | 14 => 82 | 28 => 66 | 29 => 67 | 20 => 84 | 21 => 85 | 22 => 86 | 23 => 87 | 24 => 88 | 25 => 89 | 26 => 90 | 27 => 91 | 46 => 93 | 47 => 72 | 48 => 73 | 49 => 94 | 50 => 95 | 57 => 96 | n => n, fun | 22 => 26 | 24 => 49 | 25 => 127 | 3 => 3 | 39 => 82 | 0 => 0 | 53 => 27 | 55 => 114 | 4 => 4 | 46 => 106 | 45 => 105 | 50 => 86 | 5 => 5 | 9 => 9 | 66 => 119 | 70 => 123 | 76 => 129 | 77 => 130 | n => n, fun | n => n⟩
theorem Try.laysSort : Go.Proofs.SlLaysF0.n6 Try.prog Try.laysSort_ren := {
  mixed := by kernel_rfl
  f6 := ⟨Try.f77.name, by decide, Try.func77.trans (congrArg some (by kernel_rfl))⟩
  f14 := ⟨Try.f82.name, by decide, Try.func82.trans (congrArg some (by kernel_rfl))⟩
  f15 := Try.func49.trans (congrArg some (by kernel_rfl))
  f20 := ⟨Try.f84.name, by decide, Try.func84.trans (congrArg some (by kernel_rfl))⟩
  f21 := ⟨Try.f85.name, by decide, Try.func85.trans (congrArg some (by kernel_rfl))⟩
  f22 := ⟨Try.f86.name, by decide, Try.func86.trans (congrArg some (by kernel_rfl))⟩
  f23 := ⟨Try.f87.name, by decide, Try.func87.trans (congrArg some (by kernel_rfl))⟩
  f24 := ⟨Try.f88.name, by decide, Try.func88.trans (congrArg some (by kernel_rfl))⟩
  f25 := ⟨Try.f89.name, by decide, Try.func89.trans (congrArg some (by kernel_rfl))⟩
  f26 := ⟨Try.f90.name, by decide, Try.func90.trans (congrArg some (by kernel_rfl))⟩
  f27 := ⟨Try.f91.name, by decide, Try.func91.trans (congrArg some (by kernel_rfl))⟩
  f28 := Try.func66.trans (congrArg some (by kernel_rfl))
  f29 := Try.func67.trans (congrArg some (by kernel_rfl))
  f46 := ⟨Try.f93.name, by decide, Try.func93.trans (congrArg some (by kernel_rfl))⟩
  f47 := Try.func72.trans (congrArg some (by kernel_rfl))
  f48 := Try.func73.trans (congrArg some (by kernel_rfl))
  f49 := ⟨Try.f94.name, by decide, Try.func94.trans (congrArg some (by kernel_rfl))⟩
  f50 := ⟨Try.f95.name, by decide, Try.func95.trans (congrArg some (by kernel_rfl))⟩
  f57 := ⟨Try.f96.name, by decide, Try.func96.trans (congrArg some (by kernel_rfl))⟩
  t0 := Try.underlying0
  a0 := Try.isAgg0
  z0 := Try.sizeOf0
  v0 := Try.zeroValue0
  t3 := Try.underlying3
  a3 := Try.isAgg3
  z3 := Try.sizeOf3
  v3 := Try.zeroValue3
  t4 := Try.underlying4
  a4 := Try.isAgg4
  z4 := Try.sizeOf4
  v4 := Try.zeroValue4
  t5 := Try.underlying5
  a5 := Try.isAgg5
  z5 := Try.sizeOf5
  v5 := Try.zeroValue5
  t9 := Try.underlying9
  a9 := Try.isAgg9
  z9 := Try.sizeOf9
  v9 := Try.zeroValue9
  t22 := Try.underlying26
  a22 := Try.isAgg26
  z22 := Try.sizeOf26
  v22 := Try.zeroValue26
  t25 := Try.underlying127
  a25 := Try.isAgg127
  z25 := Try.sizeOf127
  v25 := Try.zeroValue127
  t39 := Try.underlying82
  a39 := Try.isAgg82
  z39 := Try.sizeOf82
  v39 := Try.zeroValue82
  t45 := Try.underlying105
  a45 := Try.isAgg105
  z45 := Try.sizeOf105
  v45 := Try.zeroValue105
  t46 := Try.underlying106
  a46 := Try.isAgg106
  z46 := Try.sizeOf106
  v46 := Try.zeroValue106
  t50 := Try.underlying86
  a50 := Try.isAgg86
  z50 := Try.sizeOf86
  v50 := Try.zeroValue86
  t53 := Try.underlying27
  a53 := Try.isAgg27
  z53 := Try.sizeOf27
  v53 := Try.zeroValue27
  t55 := Try.underlying114
  a55 := Try.isAgg114
  z55 := Try.sizeOf114
  v55 := Try.zeroValue114
  t66 := Try.underlying119
  a66 := Try.isAgg119
  z66 := Try.sizeOf119
  v66 := Try.zeroValue119
  t70 := Try.underlying123
  a70 := Try.isAgg123
  z70 := Try.sizeOf123
  v70 := Try.zeroValue123
  t76 := Try.underlying129
  a76 := Try.isAgg129
  z76 := Try.sizeOf129
  v76 := Try.zeroValue129
  t77 := Try.underlying130
  a77 := Try.isAgg130
  z77 := Try.sizeOf130
  v77 := Try.zeroValue130 }
end Go.Proofs
/- Terms are sorted by name. -/
namespace Go.Proofs.Ytebbbefknfldoaa
open Go.ChangeShapes Go.WideShapes Go.ChangeAt Go.RowKit Go.Sort
set_option linter.unusedVariables false
set_option maxRecDepth 100000
theorem compareString_any (a b : ByteArray) (w : World) :
    Calls Try.prog 83 #[.string a, .string b] w fun e w' => e = .returned (.int .i64 (Lib.compareBytes a.data.toList b.data.toList)) ∧ w' = w := by
  go_enter Try.func83, Try.ntmps83
  go_wp2
  rw [run_callFunc_extern Try.func92 (by kernel_rfl) (by kernel_rfl) (by kernel_rfl) (e := Extern.BytealgCompare.compare) (by kernel_rfl), Lib.run_compareString]
  simp only [Result.andThen]
  rw [Oper.upon_value]
  go_wp2
  go_ret
  exact ⟨rfl, rfl⟩
theorem compare_any (a b : ByteArray) (w : World) :
    Calls Try.prog 79 #[.string a, .string b] w fun e w' => e = .returned (.int .i64 (Lib.compareBytes a.data.toList b.data.toList)) ∧ w' = w := by
  go_enter Try.func79, Try.ntmps79
  go_wp2_with (go_at_call 83; refine (compareString_any _ _ _).mono ?_; rintro e w' ⟨rfl, rfl⟩)
  go_ret
  exact ⟨rfl, rfl⟩
instance : Inhabited Tm := ⟨⟨[], 0⟩⟩
def cmpT (x y : Tm) : Int := Lib.compareBytes x.name y.name
theorem closure_any (x y : Tm) (W : World) : Calls Try.prog 78 #[.agg x.cells.toArray, .agg y.cells.toArray] W fun e w' => e = .returned (.int .i64 (cmpT x y)) ∧ ∃ q os', w' = grow (W.drewN q) os' := by
  have hcon := fun W' => compare_any (str x.name) (str y.name) W'
  have hx : ∀ l : List UInt8, (str l).data.toList = l := fun l => rfl
  rw [hx, hx] at hcon
  unfold cmpT
  generalize Lib.compareBytes x.name y.name = r at hcon ⊢
  simp only [Tm.cells]
  go_enter Try.func78, Try.ntmps78
  go_wp2_with (go_at_call 79; refine (hcon _).mono ?_; rintro e w' ⟨rfl, rfl⟩)
  go_ret
  exact ⟨rfl, 0, _, by rw [alloc_eq_grow, alloc_eq_grow, grow_grow]; rfl⟩
theorem cmpLays_any (blk off size : Nat) (w : World) : CmpLays Try.prog 78 #[] Tm.cells 2 cmpT blk off size w :=
  fun _ _ _ _ x y => closure_any x y _
theorem ltT (x y : Tm) : ltOf cmpT x y = nlt x.name y.name := compare_nlt _ _
theorem swoT : SWO (ltOf cmpT) where
  irrefl x := by rw [ltT, nlt_irrefl]
  trans x y z h1 h2 := by rw [ltT] at *; exact nlt_trans h1 h2
  ntrans x y z h1 h2 := by
    rw [ltT] at *
    have := leT_trans z y x (by simp [leT, h2]) (by simp [leT, h1])
    simpa [leT] using this
theorem flat_row (ts : List Tm) : (flatK Tm.cells 2 ts.toArray).toList = rowT ts := by
  apply List.ext_getElem?
  intro j
  by_cases hj : j < ts.length * 2
  · have hq : j / 2 < ts.length := by omega
    have h1 : ts[j / 2]? = some ts[j / 2] := List.getElem?_eq_getElem hq
    have h2 := rowT_get ts (j / 2) (j % 2) _ h1 (by omega)
    rw [show j / 2 * 2 + j % 2 = j by omega] at h2
    rw [h2, Array.getElem?_toList]
    have h3 : (flatK Tm.cells 2 ts.toArray)[j]? = some (flatK Tm.cells 2 ts.toArray)[j]! := by
      rw [getElem!_pos _ j (by simp; omega)]
      exact Array.getElem?_eq_getElem _
    rw [h3, get_flatK _ _ _ _ (by simpa using hj)]
    have h4 : ts.toArray[j / 2]! = ts[j / 2] := by
      rw [getElem!_pos _ _ (by simpa using hq)]
      simp
    rw [h4]
    have h5 : (ts[j / 2].cells).length = 2 := rfl
    rw [getElem!_pos _ _ (by omega), List.getElem?_eq_getElem (by omega)]
  · rw [List.getElem?_eq_none (by simp; omega), List.getElem?_eq_none (by rw [rowT_length]; omega)]
theorem holds_own {w : World} {g n : Nat} {cur : Array Value} {e : TypeId} {ts : List Tm} (hb : w.heap[g]? = some (.cells cur e (0, 0))) (ht : cur.toList.take (ts.length * 2) = rowT ts) : HoldsK Tm.cells 2 w g 0 ts.toArray := by
  intro j hj
  have hj' : j < ts.length * 2 := by simpa using hj
  refine ⟨?_, by simp [World.frozen?, hb]⟩
  have h1 : (cur.toList.take (ts.length * 2))[j]? = (rowT ts)[j]? := by rw [ht]
  rw [List.getElem?_take_of_lt hj'] at h1
  simp only [World.cell?, hb, Nat.zero_add]
  simp only [Option.isSome_none, Bool.false_eq_true, if_false]
  rw [← Array.getElem?_toList, h1, ← flat_row, Array.getElem?_toList, getElem!_pos _ j hj]
  exact Array.getElem?_eq_getElem _
theorem heap_sortedK {w : World} {g n : Nat} {os : Array Obj} {cur : Array Value} {e : TypeId} {fr : Nat × Nat} (d : Array Tm) (hb : w.heap[g]? = some (.cells cur e fr)) :
    (sortWorldK Tm.cells 2 w g 0 n d os).heap[g]? = some (.cells (putCells id 0 (flatK Tm.cells 2 d) cur) e fr) := by
  have hg : g < w.heap.size := (Array.getElem?_eq_some_iff.1 hb).1
  unfold sortWorldK putRowK
  rw [heap_grow_old _ _ (by simpa using hg)]
  simp [putRow, mapBlock, Sort.ahead, Array.getElem?_modify, hb, onCells]
theorem grownBy_sortedK {w : World} {g n : Nat} {os : Array Obj} (d : Array Tm) : w.grownBy (sortWorldK Tm.cells 2 w g 0 n d os) (some g) := by
  unfold sortWorldK putRowK
  refine ⟨rfl, rfl, rfl, by simp, fun k hk hne => ?_⟩
  rw [heap_grow_old _ _ (by simpa using hk)]
  have : g ≠ k := fun e => hne (by rw [e])
  simp [putRow, mapBlock, Sort.ahead, Array.getElem?_modify, this]
theorem take_putCellsK (cur F : Array Value) (h : F.size ≤ cur.size) : (putCells id 0 F cur).toList.take F.size = F.toList := by
  apply List.ext_getElem?
  intro j
  by_cases hj : j < F.size
  · rw [List.getElem?_take_of_lt hj, Array.getElem?_toList, Array.getElem?_toList]
    simp [putCells, hj, show j < cur.size by omega]
  · rw [List.getElem?_take_eq_none (by omega), List.getElem?_eq_none (by simp; omega)]
theorem sort_any (v : Value) (ts : List Tm) (B : Nat) (w : World) (hl : ts.length ≤ 9000000) (hown : w.ownsRow B 49 2 v ts.length (rowT ts)) :
    Calls Try.prog 77 #[v, .func (.func 78) #[] #[]] w fun e w' => e = .returned (.tuple #[]) ∧ ∃ ts', ts.Perm ts' ∧ Sorted ts' ∧ w'.ownsRow B 49 2 v ts.length (rowT ts') ∧ w.grownBy w' v.ownBlock := by
  have hown' := hown
  obtain ⟨hlen, ⟨rfl, h0⟩ | ⟨g, cap, cur, rfl, hbg, hg, hle, hcap, hsz, htk⟩⟩ := hown
  · have hts : ts = [] := List.eq_nil_of_length_eq_zero h0
    subst hts
    refine (AnyF.slices_SortFunc_none Try.laysSort none 0 (.func (.func 78) #[] #[]) w).mono ?_
    rintro e w' ⟨rfl, rfl⟩
    exact ⟨rfl, [], List.Perm.refl _, List.Pairwise.nil, hown', World.grownBy.refl _ _⟩
  · have eg : ∀ args w, (callFunc 78 args).run Try.prog w = .ok (.enter 78 args) w := enters_of Try.func78 (by kernel_rfl) rfl
    have hcon := AnyQ.slices_SortFunc Try.laysSort 2 Try.isAgg49 Try.sizeOf49 Tm.cells (fun _ => rfl) (fun x u hu => by simp [Tm.cells] at hu; rcases hu with rfl | rfl <;> rfl) cmpT swoT 78 #[] g 0 cap ts.toArray w eg (cmpLays_any g 0 _ w) (holds_own (n := 0) hg htk) (Array.getElem?_eq_some_iff.1 hg).1 (by simp; omega)
    change Calls Try.prog 77 _ _ _ at hcon
    simp only [List.size_toArray] at hcon
    refine hcon.mono ?_
    rintro e w' ⟨rfl, d', n, os, hp, hs, rfl⟩
    have hds : d'.size = ts.length := by simpa using hp.1
    have hperm : d'.toList.Perm ts := by
      have := hp.2.2
      simp at this
      rwa [List.take_of_length_le (by simp [hds])] at this
    refine ⟨rfl, d'.toList, hperm.symm, ?_, ?_, ?_⟩
    · refine List.pairwise_iff_getElem.2 fun i j hi hj hij => ?_
      have hi' : i < d'.size := by simpa using hi
      have hj' : j < d'.size := by simpa using hj
      have := hs i j (Nat.zero_le _) hij (by omega)
      rw [ltT, getElem!_pos d' i hi', getElem!_pos d' j hj'] at this
      simpa using this
    · refine ⟨by rw [rowT_length]; simp [hds], .inr ⟨g, cap, _, rfl, hbg, heap_sortedK d' hg, hle, hcap, by simp [putCells, hsz], ?_⟩⟩
      have h1 := take_putCellsK cur (flatK Tm.cells 2 d') (by simp [hds, hsz]; omega)
      have h2 := flat_row d'.toList
      simp only [Array.toArray_toList] at h2
      rw [h2] at h1
      simpa [hds] using h1
    · exact grownBy_sortedK d'
end Go.Proofs.Ytebbbefknfldoaa
/- equ.walk's state in memory. -/
namespace Go.Proofs.Ytebbbefknfldoaa
open Go.ChangeShapes Go.WideShapes Go.ChangeAt Go.RowKit
set_option linter.unusedVariables false
set_option linter.unusedSimpArgs false
set_option maxRecDepth 100000
theorem wblk_lt {w : World} {g : Nat} {x : Obj} (h : w.heap[g]? = some x) : g < w.heap.size := (Array.getElem?_eq_some_iff.1 h).1
theorem row_set {w : World} {g : Nat} {T : TypeId} {cur : Array Value} (h : w.heap[g]? = some (.cells cur T (0, 0))) (j : Nat) (y : Value) :
    (w.setCell ⟨g, j, none⟩ y).heap[g]? = some (.cells (cur.setIfInBounds j y) T (0, 0)) ∧ w.grownBy (w.setCell ⟨g, j, none⟩ y) (some g) := by
  refine ⟨heap_setCell_same w g j _ T y h, ⟨rfl, rfl, rfl, by simp, fun k hk hne => ?_⟩⟩
  have hk' : k ≠ g := fun e => hne (by rw [e])
  rw [heap_setCell_other _ _ _ _ hk']
def rowN (l : List Nat) : List Value := l.map fun (x : Nat) => Value.int .i64 (x : Int)
theorem rowN_len (l : List Nat) : (rowN l).length = l.length := by simp [rowN]
def metR (n : Nat) (m : Nat → Nat) : Array Value := ((List.range n).map fun i => Value.int .i64 (m i : Int)).toArray
theorem metR_get (n : Nat) (m : Nat → Nat) (i : Nat) (hi : i < n) : (metR n m)[i]? = some (.int .i64 (m i : Int)) := by simp [metR, hi]
theorem metR_set (n : Nat) (m : Nat → Nat) (i x : Nat) (hi : i < n) : (metR n m).setIfInBounds i (.int .i64 (x : Int)) = metR n (Ta.upd m i x) := by
  unfold metR
  rw [List.setIfInBounds_toArray]
  congr 1
  apply List.ext_getElem?
  intro j
  rw [List.getElem?_set]
  by_cases hj : i = j
  · subst hj
    rw [if_pos rfl]
    simp [Ta.upd, hi]
  · rw [if_neg hj]
    by_cases hjn : j < n
    · simp [Ta.upd, hjn, fun e => hj (Eq.symm e)]
      rw [if_neg (fun e => hj e.symm)]
    · simp [hjn]
def nmOf (l : List Eqv) (i : Nat) : List UInt8 := ((l[i]?).map (·.1)).getD []
def backF (l : List Eqv) (b : List Nat) : List UInt8 → Option Int := b.foldl (fun f i => fun x => if x = nmOf l i then some (i : Int) else f x) (fun _ => none)
theorem backF_snoc (l : List Eqv) (b : List Nat) (i : Nat) : backF l (b ++ [i]) = fun x => if x = nmOf l i then some (i : Int) else backF l b x := by
  unfold backF
  rw [List.foldl_append]
  rfl
theorem own_cut {w : World} {lo : Nat} {T : TypeId} {a : Option Addr} {n c : Nat} {xs : List Value} (h : w.ownsRow lo T 1 (.slice a n c) n xs) (m : Nat) (hm : m ≤ n) (h0 : 0 < n) : w.ownsRow lo T 1 (.slice a m c) m (xs.take m) := by
  refine ⟨by have := h.1; simp; omega, ?_⟩
  rcases h.2 with ⟨_, e⟩ | ⟨g, cap, cur, hv, k2, k3, k4, k5, k6, k7⟩
  · omega
  · injection hv with e1 e2 e3
    subst e1
    subst e3
    refine .inr ⟨g, c, cur, rfl, k2, k3, by omega, k5, k6, ?_⟩
    rw [← k7, List.take_take]
    congr 1
    omega
structure Apart (b : Nat → Nat) (lo hi : Nat) : Prop where
  inj : ∀ i j, i < 12 → j < 12 → b i = b j → i = j
  ge : ∀ i, i < 12 → lo ≤ b i
  lt : ∀ i, i < 12 → b i < hi
theorem Apart.ne {b : Nat → Nat} {lo hi : Nat} (h : Apart b lo hi) {i j : Nat} (hi : i < 12) (hj : j < 12) (hij : i ≠ j) : b i ≠ b j := fun e => hij (h.inj i j hi hj e)
abbrev bp (b : Nat → Nat) (i : Nat) : Value := .pointer (some ⟨b i, 0, none⟩)
abbrev finV (b : Nat → Nat) : Value := .func (.func 42) #[] #[bp b 0, bp b 1, bp b 2, bp b 3, bp b 4]
abbrev visV (b : Nat → Nat) : Value := .func (.func 44) #[] #[bp b 5, bp b 0, bp b 1, bp b 2, bp b 6, bp b 8, bp b 7]
structure FS (w0 : World) (b : Nat → Nat) (l : List Eqv) (la : Option Addr) (lc na nb : Nat) (s : Ta.St) (w : World) : Prop where
  bel : Below w0.heap.size w0 w
  lie : EqIn w0 la l
  ap : Apart b w0.heap.size w.heap.size
  op : ∃ a c, w.heap[b 0]? = some (.cells #[.slice a s.opn.length c] 65 (0, 0)) ∧ w.ownsRow w0.heap.size 3 1 (.slice a s.opn.length c) s.opn.length (rowN s.opn) ∧ (∀ g, (Value.slice a s.opn.length c).ownBlock = some g → ∀ i, i < 12 → g ≠ b i) ∧
    ∃ a2 c2, w.heap[b 4]? = some (.cells #[.slice a2 s.order.length c2] 65 (0, 0)) ∧ w.ownsRow w0.heap.size 3 1 (.slice a2 s.order.length c2) s.order.length (rowN s.order) ∧ (∀ g, (Value.slice a2 s.order.length c2).ownBlock = some g → (∀ i, i < 12 → g ≠ b i) ∧ (Value.slice a s.opn.length c).ownBlock ≠ some g)
  mb : w.heap[b 1]? = some (.cells #[.slice (some ⟨b 9, 0, none⟩) l.length l.length] 65 (0, 0))
  mm : w.heap[b 9]? = some (.cells (metR l.length s.met) 3 (0, 0))
  lb : w.heap[b 2]? = some (.cells #[.slice la l.length lc] 22 (0, 0))
  kb : w.heap[b 3]? = some (.cells #[.map (some (b 10))] 66 (0, 0))
  kk : IntIs w (b 10) nb (backF l s.back)
  cb : w.heap[b 5]? = some (.cells #[.int .i64 (s.count : Int)] 3 (0, 0))
  ab : w.heap[b 6]? = some (.cells #[.map (some (b 11))] 66 (0, 0))
  aa : IntIs w (b 11) na (backF l (List.range l.length))
  fb : w.heap[b 7]? = some (.cells #[finV b] 84 (0, 0))
  vb : w.heap[b 8]? = some (.cells #[visV b] 85 (0, 0))
section
variable {w0 w w' w1 : World} {b : Nat → Nat} {l : List Eqv} {la : Option Addr} {lc na nb : Nat} {s : Ta.St}
theorem own_row {lo : Nat} {T : TypeId} {sz : Nat} {v : Value} {n : Nat} {xs : List Value} {k : Option Nat} (h : w.ownsRow lo T sz v n xs) (hk : ∀ g, v.ownBlock = some g → k ≠ some g) (hg : w.grownBy w' k) : w'.ownsRow lo T sz v n xs := by
  refine ⟨h.1, ?_⟩
  rcases h.2 with hx | ⟨g, cap, cur, k1, k2, k3, k4⟩
  · exact .inl hx
  · exact .inr ⟨g, cap, cur, k1, k2, (hg.block g (wblk_lt k3) (fun e => hk g (by rw [k1]; rfl) e.symm)).trans k3, k4⟩
theorem Apart.more {lo hi hi' : Nat} (h : Apart b lo hi) (hh : hi ≤ hi') : Apart b lo hi' := ⟨h.inj, h.ge, fun i hi => Nat.lt_of_lt_of_le (h.lt i hi) hh⟩
theorem FS.kp (h : FS w0 b l la lc na nb s w) {j : Nat} (hj : j < 12) (k1 : w.grownBy w' (some (b j))) {i : Nat} (hi : i < 12) (hij : i ≠ j) {ob : Obj} (hh : w.heap[b i]? = some ob) : w'.heap[b i]? = some ob :=
  (k1.block _ (wblk_lt hh) (fun e => h.ap.ne hi hj hij (Option.some.inj e))).trans hh
theorem FS.mp (h : FS w0 b l la lc na nb s w) {j : Nat} (hj : j < 12) (k1 : w.grownBy w' (some (b j))) {i n : Nat} (hi : i < 12) (hij : i ≠ j) {f : List UInt8 → Option Int} (hh : IntIs w (b i) n f) : IntIs w' (b i) n f :=
  hh.kept k1 (fun e => h.ap.ne hi hj hij (Option.some.inj e))
theorem FS.rows (h : FS w0 b l la lc na nb s w) {j : Nat} (hj : j < 12) (h0 : j ≠ 0) (h4 : j ≠ 4) (k1 : w.grownBy w' (some (b j))) : ∃ a c, w'.heap[b 0]? = some (.cells #[.slice a s.opn.length c] 65 (0, 0)) ∧ w'.ownsRow w0.heap.size 3 1 (.slice a s.opn.length c) s.opn.length (rowN s.opn) ∧ (∀ g, (Value.slice a s.opn.length c).ownBlock = some g → ∀ i, i < 12 → g ≠ b i) ∧
    ∃ a2 c2, w'.heap[b 4]? = some (.cells #[.slice a2 s.order.length c2] 65 (0, 0)) ∧ w'.ownsRow w0.heap.size 3 1 (.slice a2 s.order.length c2) s.order.length (rowN s.order) ∧ (∀ g, (Value.slice a2 s.order.length c2).ownBlock = some g → (∀ i, i < 12 → g ≠ b i) ∧ (Value.slice a s.opn.length c).ownBlock ≠ some g) := by
  obtain ⟨a, c, o1, o2, o3, a2, c2, r1, r2, r3⟩ := h.op
  exact ⟨a, c, h.kp hj k1 (by decide) (Ne.symm h0) o1, own_row o2 (fun g hg e => o3 g hg j hj (by cases e; rfl)) k1, o3, a2, c2, h.kp hj k1 (by decide) (Ne.symm h4) r1, own_row r2 (fun g hg e => (r3 g hg).1 j hj (by cases e; rfl)) k1, r3⟩
theorem FS.bel' (h : FS w0 b l la lc na nb s w) {j : Nat} (hj : j < 12) (k1 : w.grownBy w' (some (b j))) : Below w0.heap.size w0 w' := h.bel.grown k1 h.bel.size (fun g e => by cases e; exact h.ap.ge j hj)
theorem FS.below (h : FS w0 b l la lc na nb s w) (hb : Below w.heap.size w w') : FS w0 b l la lc na nb s w' := by
  have hg : w.grownBy w' none := ⟨hb.os, hb.tape, hb.output, hb.size, fun k hk _ => hb.block k hk⟩
  have kp : ∀ {i : Nat} {ob : Obj}, w.heap[i]? = some ob → w'.heap[i]? = some ob := fun hh => (hb.block _ (wblk_lt hh)).trans hh
  obtain ⟨a, c, o1, o2, o3, a2, c2, r1, r2, r3⟩ := h.op
  exact ⟨h.bel.trans (hb.mono h.bel.size), h.lie, h.ap.more hb.size, ⟨a, c, kp o1, own_row o2 (fun g _ e => by cases e) hg, o3, a2, c2, kp r1, own_row r2 (fun g _ e => by cases e) hg, r3⟩, kp h.mb, kp h.mm, kp h.lb, kp h.kb, h.kk.kept hg (by simp), kp h.cb, kp h.ab, h.aa.kept hg (by simp), kp h.fb, kp h.vb⟩
theorem FS.metSet (h : FS w0 b l la lc na nb s w) (i x : Nat) (hi : i < l.length) : FS w0 b l la lc na nb { s with met := Ta.upd s.met i x } (w.setCell ⟨b 9, i, none⟩ (.int .i64 (x : Int))) ∧ w.grownBy (w.setCell ⟨b 9, i, none⟩ (.int .i64 (x : Int))) (some (b 9)) := by
  obtain ⟨s1, k1⟩ := row_set h.mm i (.int .i64 (x : Int))
  rw [metR_set _ _ _ _ hi] at s1
  have d : (9 : Nat) < 12 := by decide
  exact ⟨⟨h.bel' d k1, h.lie, h.ap.more k1.size, h.rows d (by decide) (by decide) k1, h.kp d k1 (by decide) (by decide) h.mb, s1, h.kp d k1 (by decide) (by decide) h.lb, h.kp d k1 (by decide) (by decide) h.kb, h.mp d k1 (by decide) (by decide) h.kk, h.kp d k1 (by decide) (by decide) h.cb, h.kp d k1 (by decide) (by decide) h.ab, h.mp d k1 (by decide) (by decide) h.aa, h.kp d k1 (by decide) (by decide) h.fb, h.kp d k1 (by decide) (by decide) h.vb⟩, k1⟩
theorem FS.backPut (h : FS w0 b l la lc na nb s w) (i : Nat) (hk : IntIs w' (b 10) (nb + 1) (fun x => if x = nmOf l i then some (i : Int) else backF l s.back x)) (k1 : w.grownBy w' (some (b 10))) : FS w0 b l la lc na (nb + 1) { s with back := s.back ++ [i] } w' := by
  have d : (10 : Nat) < 12 := by decide
  exact ⟨h.bel' d k1, h.lie, h.ap.more k1.size, h.rows d (by decide) (by decide) k1, h.kp d k1 (by decide) (by decide) h.mb, h.kp d k1 (by decide) (by decide) h.mm, h.kp d k1 (by decide) (by decide) h.lb, h.kp d k1 (by decide) (by decide) h.kb, by rw [backF_snoc]; exact hk, h.kp d k1 (by decide) (by decide) h.cb, h.kp d k1 (by decide) (by decide) h.ab, h.mp d k1 (by decide) (by decide) h.aa, h.kp d k1 (by decide) (by decide) h.fb, h.kp d k1 (by decide) (by decide) h.vb⟩
theorem FS.cntSet (h : FS w0 b l la lc na nb s w) (x : Nat) : FS w0 b l la lc na nb { s with count := x } (w.setCell ⟨b 5, 0, none⟩ (.int .i64 (x : Int))) ∧ w.grownBy (w.setCell ⟨b 5, 0, none⟩ (.int .i64 (x : Int))) (some (b 5)) := by
  obtain ⟨s1, k1⟩ := row_set h.cb 0 (.int .i64 (x : Int))
  have d : (5 : Nat) < 12 := by decide
  exact ⟨⟨h.bel' d k1, h.lie, h.ap.more k1.size, h.rows d (by decide) (by decide) k1, h.kp d k1 (by decide) (by decide) h.mb, h.kp d k1 (by decide) (by decide) h.mm, h.kp d k1 (by decide) (by decide) h.lb, h.kp d k1 (by decide) (by decide) h.kb, h.mp d k1 (by decide) (by decide) h.kk, s1, h.kp d k1 (by decide) (by decide) h.ab, h.mp d k1 (by decide) (by decide) h.aa, h.kp d k1 (by decide) (by decide) h.fb, h.kp d k1 (by decide) (by decide) h.vb⟩, k1⟩
theorem FS.cut (h : FS w0 b l la lc na nb s w) {a : Option Addr} {c : Nat} (ho : w.heap[b 0]? = some (.cells #[.slice a s.opn.length c] 65 (0, 0))) (m : Nat) (hm : m ≤ s.opn.length) (h0 : 0 < s.opn.length) : FS w0 b l la lc na nb { s with opn := s.opn.take m } (w.setCell ⟨b 0, 0, none⟩ (.slice a m c)) ∧ w.grownBy (w.setCell ⟨b 0, 0, none⟩ (.slice a m c)) (some (b 0)) := by
  obtain ⟨a', c', o1, o2, o3, a2, c2, r1, r2, r3⟩ := h.op
  rw [ho] at o1
  simp only [Option.some.injEq, Obj.cells.injEq, Array.mk.injEq, List.cons.injEq, Value.slice.injEq, true_and, and_true] at o1
  obtain ⟨rfl, rfl⟩ := o1
  obtain ⟨s1, k1⟩ := row_set ho 0 (.slice a m c)
  have d : (0 : Nat) < 12 := by decide
  have e1 : (s.opn.take m).length = m := by simp; omega
  have hob : ∀ g, (Value.slice a m c).ownBlock = some g ↔ (Value.slice a s.opn.length c).ownBlock = some g := fun g => by cases a <;> rfl
  have o4 := own_row (own_cut o2 m hm h0) (k := some (b 0)) (fun g hg e => o3 g ((hob g).1 hg) 0 d (by cases e; rfl)) k1
  refine ⟨⟨h.bel' d k1, h.lie, h.ap.more k1.size, ⟨a, c, by rw [e1]; exact s1, ?_, by rw [e1]; exact fun g hg => o3 g ((hob g).1 hg), a2, c2, h.kp d k1 (by decide) (by decide) r1, own_row r2 (fun g hg e => (r3 g hg).1 0 d (by cases e; rfl)) k1, by rw [e1]; exact fun g hg => ⟨(r3 g hg).1, fun e => (r3 g hg).2 ((hob g).1 e)⟩⟩, h.kp d k1 (by decide) (by decide) h.mb, h.kp d k1 (by decide) (by decide) h.mm, h.kp d k1 (by decide) (by decide) h.lb, h.kp d k1 (by decide) (by decide) h.kb, h.mp d k1 (by decide) (by decide) h.kk, h.kp d k1 (by decide) (by decide) h.cb, h.kp d k1 (by decide) (by decide) h.ab, h.mp d k1 (by decide) (by decide) h.aa, h.kp d k1 (by decide) (by decide) h.fb, h.kp d k1 (by decide) (by decide) h.vb⟩, k1⟩
  rw [e1, show rowN (s.opn.take m) = (rowN s.opn).take m by unfold rowN; rw [List.map_take]]
  exact o4
end
end Go.Proofs.Ytebbbefknfldoaa
/- equ.walk's state: order and open grow. -/
namespace Go.Proofs.Ytebbbefknfldoaa
open Go.ChangeShapes Go.WideShapes Go.ChangeAt Go.RowKit
set_option linter.unusedVariables false
set_option linter.unusedSimpArgs false
set_option maxRecDepth 100000
section
variable {w0 w w' w1 : World} {b : Nat → Nat} {l : List Eqv} {la : Option Addr} {lc na nb : Nat} {s : Ta.St}
theorem FS.two (h : FS w0 b l la lc na nb s w) {k : Option Nat} (hk : ∀ g, k = some g → (∀ i, i < 12 → g ≠ b i) ∧ w0.heap.size ≤ g) (hg : w.grownBy w1 k) {j : Nat} (hj : j < 12) (hg2 : w1.grownBy w' (some (b j))) :
    Below w0.heap.size w0 w' ∧ w.heap.size ≤ w'.heap.size ∧ (∀ i ob, i < 12 → w.heap[b i]? = some ob → w1.heap[b i]? = some ob) ∧ (∀ i ob, i < 12 → i ≠ j → w.heap[b i]? = some ob → w'.heap[b i]? = some ob) ∧ (∀ i n f, i < 12 → i ≠ j → IntIs w (b i) n f → IntIs w' (b i) n f) := by
  have hne : ∀ i, i < 12 → some (b i) ≠ k := fun i hi e => (hk _ e.symm).1 i hi rfl
  have k1 : ∀ i ob, i < 12 → w.heap[b i]? = some ob → w1.heap[b i]? = some ob := fun i ob hi hh => (hg.block _ (wblk_lt hh) (hne i hi)).trans hh
  have h1 := h.bel.grown hg h.bel.size (fun g e => (hk g e).2)
  refine ⟨h1.grown hg2 h1.size (fun g e => by cases e; exact h.ap.ge j hj), Nat.le_trans hg.size hg2.size, k1, fun i ob hi hij hh => ?_, fun i n f hi hij hh => ?_⟩
  · have := k1 i ob hi hh
    exact (hg2.block _ (wblk_lt this) (fun e => h.ap.ne hi hj hij (Option.some.inj e))).trans this
  · exact (hh.kept hg (hne i hi)).kept hg2 (fun e => h.ap.ne hi hj hij (Option.some.inj e))
theorem rowN_app (x y : List Nat) : rowN (x ++ y) = rowN x ++ rowN y := by unfold rowN; rw [List.map_append]
theorem FS.ordPush (h : FS w0 b l la lc na nb s w) {a2 : Option Addr} {c2 : Nat} (hr : w.heap[b 4]? = some (.cells #[.slice a2 s.order.length c2] 65 (0, 0))) (ys : List Nat) {a3 : Option Addr} {c3 : Nat} (ho : w1.ownsRow w0.heap.size 3 1 (.slice a3 (s.order.length + ys.length) c3) (s.order.length + ys.length) (rowN s.order ++ rowN ys)) (hg : w.grownBy w1 (Value.slice a2 s.order.length c2).ownBlock)
    (hw : (Value.slice a3 (s.order.length + ys.length) c3).ownBlock = (Value.slice a2 s.order.length c2).ownBlock ∨ (Value.slice a3 (s.order.length + ys.length) c3).ownBlock = some w.heap.size) :
    w1.heap[b 4]? = some (.cells #[.slice a2 s.order.length c2] 65 (0, 0)) ∧ FS w0 b l la lc na nb { s with order := s.order ++ ys } (w1.setCell ⟨b 4, 0, none⟩ (.slice a3 (s.order.length + ys.length) c3)) := by
  obtain ⟨a, c, o1, o2, o3, a', c', r1, r2, r3⟩ := h.op
  rw [hr] at r1
  simp only [Option.some.injEq, Obj.cells.injEq, Array.mk.injEq, List.cons.injEq, Value.slice.injEq, true_and, and_true] at r1
  obtain ⟨rfl, rfl⟩ := r1
  have d : (4 : Nat) < 12 := by decide
  have hr1 := (hg.block _ (wblk_lt hr) (fun e => (r3 _ e.symm).1 4 d rfl)).trans hr
  obtain ⟨s1, k1⟩ := row_set hr1 0 (.slice a3 (s.order.length + ys.length) c3)
  obtain ⟨t1, t2, t3, t4, t5⟩ := h.two (fun g e => ⟨(r3 g e).1, (r2.lt g e).1⟩) hg d k1
  have hlt : ∀ g, (Value.slice a s.opn.length c).ownBlock = some g → g < w.heap.size := fun g e => (o2.lt g e).2
  have hnew : ∀ g, (Value.slice a3 (s.order.length + ys.length) c3).ownBlock = some g → (∀ i, i < 12 → g ≠ b i) ∧ (Value.slice a s.opn.length c).ownBlock ≠ some g := fun g e => by
    rcases hw with hw | hw
    · rw [hw] at e
      exact r3 g e
    · rw [hw] at e
      cases e
      exact ⟨fun i hi e2 => by have := h.ap.lt i hi; omega, fun e2 => by have := hlt _ e2; omega⟩
  have e1 : (s.order ++ ys).length = s.order.length + ys.length := List.length_append
  refine ⟨hr1, t1, h.lie, h.ap.more t2, ⟨a, c, t4 0 _ (by decide) (by decide) o1, own_row (own_row o2 (fun g hgg e => (r3 g e).2 hgg) hg) (fun g hgg e => o3 g hgg 4 d (by cases e; rfl)) k1, o3, a3, c3, by rw [e1]; exact s1, ?_, by rw [e1]; exact hnew⟩, t4 1 _ (by decide) (by decide) h.mb, t4 9 _ (by decide) (by decide) h.mm, t4 2 _ (by decide) (by decide) h.lb, t4 3 _ (by decide) (by decide) h.kb, t5 10 _ _ (by decide) (by decide) h.kk, t4 5 _ (by decide) (by decide) h.cb, t4 6 _ (by decide) (by decide) h.ab, t5 11 _ _ (by decide) (by decide) h.aa, t4 7 _ (by decide) (by decide) h.fb, t4 8 _ (by decide) (by decide) h.vb⟩
  rw [e1, rowN_app]
  exact own_row ho (fun g hgg e => (hnew g hgg).1 4 d (by cases e; rfl)) k1
theorem FS.opPush (h : FS w0 b l la lc na nb s w) {a : Option Addr} {c : Nat} (ho0 : w.heap[b 0]? = some (.cells #[.slice a s.opn.length c] 65 (0, 0))) (x : Nat) {a3 : Option Addr} {c3 : Nat} (ho : w1.ownsRow w0.heap.size 3 1 (.slice a3 (s.opn.length + 1) c3) (s.opn.length + 1) (rowN s.opn ++ [.int .i64 (x : Int)])) (hg : w.grownBy w1 (Value.slice a s.opn.length c).ownBlock)
    (hw : (Value.slice a3 (s.opn.length + 1) c3).ownBlock = (Value.slice a s.opn.length c).ownBlock ∨ (Value.slice a3 (s.opn.length + 1) c3).ownBlock = some w.heap.size) :
    w1.heap[b 0]? = some (.cells #[.slice a s.opn.length c] 65 (0, 0)) ∧ FS w0 b l la lc na nb { s with opn := s.opn ++ [x] } (w1.setCell ⟨b 0, 0, none⟩ (.slice a3 (s.opn.length + 1) c3)) := by
  obtain ⟨a', c', o1, o2, o3, a2, c2, r1, r2, r3⟩ := h.op
  rw [ho0] at o1
  simp only [Option.some.injEq, Obj.cells.injEq, Array.mk.injEq, List.cons.injEq, Value.slice.injEq, true_and, and_true] at o1
  obtain ⟨rfl, rfl⟩ := o1
  have d : (0 : Nat) < 12 := by decide
  have hr1 := (hg.block _ (wblk_lt ho0) (fun e => o3 _ e.symm 0 d rfl)).trans ho0
  obtain ⟨s1, k1⟩ := row_set hr1 0 (.slice a3 (s.opn.length + 1) c3)
  obtain ⟨t1, t2, t3, t4, t5⟩ := h.two (fun g e => ⟨o3 g e, (o2.lt g e).1⟩) hg d k1
  have hlt : ∀ g, (Value.slice a2 s.order.length c2).ownBlock = some g → g < w.heap.size := fun g e => (r2.lt g e).2
  have hnew : ∀ g, (Value.slice a3 (s.opn.length + 1) c3).ownBlock = some g → (∀ i, i < 12 → g ≠ b i) ∧ (Value.slice a2 s.order.length c2).ownBlock ≠ some g := fun g e => by
    rcases hw with hw | hw
    · rw [hw] at e
      exact ⟨o3 g e, fun e2 => (r3 g e2).2 e⟩
    · rw [hw] at e
      cases e
      exact ⟨fun i hi e2 => by have := h.ap.lt i hi; omega, fun e2 => by have := hlt _ e2; omega⟩
  have e1 : (s.opn ++ [x]).length = s.opn.length + 1 := by simp
  refine ⟨hr1, t1, h.lie, h.ap.more t2, ⟨a3, c3, by rw [e1]; exact s1, ?_, by rw [e1]; exact fun g hgg => (hnew g hgg).1, a2, c2, t4 4 _ (by decide) (by decide) r1, own_row (own_row r2 (fun g hgg e => (r3 g hgg).2 e) hg) (fun g hgg e => (r3 g hgg).1 0 d (by cases e; rfl)) k1, by rw [e1]; exact fun g hgg => ⟨(r3 g hgg).1, fun e => (hnew g e).2 hgg⟩⟩, t4 1 _ (by decide) (by decide) h.mb, t4 9 _ (by decide) (by decide) h.mm, t4 2 _ (by decide) (by decide) h.lb, t4 3 _ (by decide) (by decide) h.kb, t5 10 _ _ (by decide) (by decide) h.kk, t4 5 _ (by decide) (by decide) h.cb, t4 6 _ (by decide) (by decide) h.ab, t5 11 _ _ (by decide) (by decide) h.aa, t4 7 _ (by decide) (by decide) h.fb, t4 8 _ (by decide) (by decide) h.vb⟩
  rw [e1, rowN_app]
  exact own_row ho (fun g hgg e => (hnew g hgg).1 0 d (by cases e; rfl)) k1
end
end Go.Proofs.Ytebbbefknfldoaa
namespace Go.Proofs.Ytebbbefknfldoaa
open Go.ChangeShapes Go.WideShapes Go.ChangeAt Go.RowKit
set_option linter.unusedVariables false
set_option maxRecDepth 100000
def Src (w : World) (vb : Value) (m : Nat) (news : List Value) : Prop := (vb = .slice none 0 0 ∧ m = 0 ∧ news = []) ∨ ∃ a c, vb = .slice (some a) m c ∧ ∀ j u, news[j]? = some u → w.cell? (a.add j) = some u
section
variable {P : Program}
theorem app_where (w : World) (base : Nat) (t ty e : TypeId) (i : TypeInfo) (z : Value) (ht : P.underlying t = some (.slice e)) (hi : P.info? e = some i) (hz : i.zero = some z)
    (v : Value) (n : Nat) (xs : List Value) (hown : w.ownsRow base e i.size v n xs)
    (a : Addr) (m c : Nat) (news : List Value) (hl : news.length = m * i.size) (hnews : ∀ j u, news[j]? = some u → w.cell? (a.add j) = some u) (h1 : ∀ u ∈ news, u.oneCell' = true)
    (h63 : n + m ≤ maxLen) (hbytes : ((n + m) + (n + m) / 4 + 192) * i.bytes ≤ 281474976710656) {v' : Value} {w' : World}
    (hr : (Builtin.append_ #[t, t] ty #[v, .slice (some a) m c]).run P w = .ok v' w') : v'.ownBlock = v.ownBlock ∨ v'.ownBlock = some w.heap.size := by
  have hsmall : n + m ≤ 9223372036854775807 := by simp only [maxLen] at h63; omega
  rcases hown.2 with ⟨rfl, rfl⟩ | ⟨g, cap, cur, rfl, hbg, hg, hnc, hcm, hcs, htake⟩
  · by_cases hm : m = 0
    · subst hm
      have h0 : (Builtin.append_ #[t, t] ty #[.slice none 0 0, .slice (some a) 0 c]).run P w = .ok (.slice none 0 0) w := by
        simp [Builtin.append_, run_underlying ht, sizeOf, typeInfo, hi, Builtin.lenOf, Builtin.firstCells, loadCells, loadCellsFrom]
      rw [h0] at hr
      cases hr
      exact .inl rfl
    · rw [run_append_nil (P := P) w t ty e i z ht hi hz a m c news hl hnews (by omega) (by omega) (Nat.le_trans (Nat.mul_le_mul_right _ (by omega)) hbytes)] at hr
      cases hr
      exact .inr rfl
  · by_cases hroom : n + m ≤ cap
    · rw [run_append_room (P := P) w t ty e i ht hi g n cap cur hg a m c news hl hnews h1 hroom (by rw [hl, hcs, ← Nat.add_mul]; exact Nat.mul_le_mul_right _ hroom)] at hr
      cases hr
      exact .inl rfl
    · rw [run_append_grow (P := P) w t ty e i z ht hi hz ⟨g, 0, none⟩ n cap xs hown.1 (hown.cells (g := g) rfl) a m c news hl hnews (by omega) (by omega) (growslice_fits_wide (by omega) hbytes)] at hr
      cases hr
      exact .inr rfl
theorem app_run (w : World) (base : Nat) (t ty e : TypeId) (i : TypeInfo) (z : Value) (size bytes : Nat) (ht : P.underlying t = some (.slice e)) (hi : P.info? e = some i) (hz : i.zero = some z)
    (hsize : i.size = size) (hby : i.bytes = bytes) (hzs : z.cells.size = size) (hsz : 0 < size)
    (v : Value) (n : Nat) (xs : List Value) (hown : w.ownsRow base e size v n xs)
    (vb : Value) (m : Nat) (news : List Value) (hsrc : Src w vb m news) (hl : news.length = m * size) (h1 : ∀ u ∈ news, u.oneCell' = true)
    (h63 : n + m ≤ maxLen) (hbytes : ((n + m) + (n + m) / 4 + 192) * bytes ≤ 281474976710656) (hbase : base ≤ w.heap.size) :
    ∃ v' w', (Builtin.append_ #[t, t] ty #[v, vb]).run P w = .ok v' w' ∧ w'.ownsRow base e size v' (n + m) (xs ++ news) ∧ w.grownBy w' v.ownBlock ∧ (v'.ownBlock = v.ownBlock ∨ v'.ownBlock = some w.heap.size) := by
  rcases hsrc with ⟨rfl, rfl, rfl⟩ | ⟨a, c, rfl, hnews⟩
  · refine ⟨v, w, run_append_owned_none (P := P) (w := w) base t ty e i size ht hi v n xs hown, by simpa using hown, ⟨rfl, rfl, rfl, Nat.le_refl _, fun _ _ _ => rfl⟩, .inl rfl⟩
  · obtain ⟨v', w', hr, h2, h3, _⟩ := run_append_own_wide (P := P) w base t ty e i z size bytes ht hi hz hsize hby hzs hsz v n xs hown a m c news hl hnews h1 h63 hbytes hbase
    subst hsize
    subst hby
    exact ⟨v', w', hr, h2, h3, app_where w base t ty e i z ht hi hz v n xs hown a m c news hl hnews h1 h63 hbytes hr⟩
theorem wpList_app {w : World} {ops : Array Oper} {rest : List Oper} {o : Oper} {a : Act} {Q : Exit → Act → World → Prop} (hgd : o.guard = none) (s x : Operand) (t : TypeId)
    (ho : o.op = .call { callee := .builtin .append, args := #[s, x], argTypes := #[t, t] })
    (base : Nat) (e : TypeId) (i : TypeInfo) (z : Value) (size bytes : Nat) (ht : P.underlying t = some (.slice e)) (hi : P.info? e = some i) (hz : i.zero = some z)
    (hsize : i.size = size) (hby : i.bytes = bytes) (hzs : z.cells.size = size) (hsz : 0 < size)
    (v : Value) (n : Nat) (xs : List Value) (hs : a.eval s = v) (hown : w.ownsRow base e size v n xs)
    (vb : Value) (m : Nat) (news : List Value) (hx : a.eval x = vb) (hsrc : Src w vb m news) (hl : news.length = m * size) (h1 : ∀ u ∈ news, u.oneCell' = true)
    (h63 : n + m ≤ maxLen) (hbytes : ((n + m) + (n + m) / 4 + 192) * bytes ≤ 281474976710656) (hbase : base ≤ w.heap.size)
    (h : ∀ v' w', w'.ownsRow base e size v' (n + m) (xs ++ news) → w.grownBy w' v.ownBlock → (v'.ownBlock = v.ownBlock ∨ v'.ownBlock = some w.heap.size) → wpList P ops Q rest (a.put o.dst v') w') : wpList P ops Q (o :: rest) a w := by
  refine wpList_plain hgd fun K hK => ?_
  obtain ⟨v', w', hrun, h2, h3, h4⟩ := app_run (P := P) w base t o.type e i z size bytes ht hi hz hsize hby hzs hsz v n xs hown vb m news hsrc hl h1 h63 hbytes hbase
  unfold Oper.wp
  simp [execOp, ho, resolve, invoke, builtin, hs, hx, hrun, Result.andThen]
  exact hK _ _ (h v' w' h2 h3 h4)
end
end Go.Proofs.Ytebbbefknfldoaa

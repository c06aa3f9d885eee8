/- Terms are sorted by name. -/
import Derived.Test.YtijdjljnppkhmabDoorTimes
import Derived.Test.YtijdjljnppkhmabDoorShelf
import Derived.Shelf.SlSortCmp.NoneTotal
namespace Go.Proofs.YtijdjljnppkhmabDoor
open Go.ChangeShapes Go.WideShapes Go.ChangeAt Go.RowKit Go.Sort
set_option linter.unusedVariables false
set_option maxRecDepth 100000

theorem compareString_any (a b : ByteArray) (w : World) :
    Calls Tryd.prog 48 #[.string a, .string b] w fun e w' => e = .returned (.int .i64 (Lib.compareBytes a.data.toList b.data.toList)) ∧ w' = w := by
  go_enter Tryd.func48, Tryd.ntmps48
  go_wp2
  rw [run_callFunc_extern Tryd.func65 (by kernel_rfl) (by kernel_rfl) (by kernel_rfl) (e := Extern.BytealgCompare.compare) (by kernel_rfl), Lib.run_compareString]
  simp only [Result.andThen]
  rw [Oper.upon_value]
  go_wp2
  go_ret
  exact ⟨rfl, rfl⟩

theorem compare_any (a b : ByteArray) (w : World) :
    Calls Tryd.prog 38 #[.string a, .string b] w fun e w' => e = .returned (.int .i64 (Lib.compareBytes a.data.toList b.data.toList)) ∧ w' = w := by
  go_enter Tryd.func38, Tryd.ntmps38
  go_wp2_with (go_at_call 48; refine (compareString_any _ _ _).mono ?_; rintro e w' ⟨rfl, rfl⟩)
  go_ret
  exact ⟨rfl, rfl⟩

instance : Inhabited Tm := ⟨⟨[], 0⟩⟩

/-- how the sort compares -/
def cmpT (x y : Tm) : Int := Lib.compareBytes x.name y.name

theorem closure_any (x y : Tm) (W : World) : Calls Tryd.prog 37 #[.agg x.cells.toArray, .agg y.cells.toArray] W fun e w' => e = .returned (.int .i64 (cmpT x y)) ∧ ∃ q os', w' = grow (W.drewN q) os' := by
  have hcon := fun W' => compare_any (str x.name) (str y.name) W'
  have hx : ∀ l : List UInt8, (str l).data.toList = l := fun l => rfl
  rw [hx, hx] at hcon
  unfold cmpT
  generalize Lib.compareBytes x.name y.name = r at hcon ⊢
  simp only [Tm.cells]
  go_enter Tryd.func37, Tryd.ntmps37
  go_wp2_with (go_at_call 38; refine (hcon _).mono ?_; rintro e w' ⟨rfl, rfl⟩)
  go_ret
  exact ⟨rfl, 0, _, by rw [alloc_eq_grow, alloc_eq_grow, grow_grow]; rfl⟩

theorem cmpLays_any (blk off size : Nat) (w : World) : CmpLays Tryd.prog 37 #[] Tm.cells 2 cmpT blk off size w :=
  fun _ _ _ _ x y => closure_any x y _

theorem ltT (x y : Tm) : ltOf cmpT x y = nlt x.name y.name := compare_nlt _ _

theorem swoT : SWO (ltOf cmpT) where
  irrefl x := by rw [ltT, nlt_irrefl]
  trans x y z h1 h2 := by rw [ltT] at *; exact nlt_trans h1 h2
  ntrans x y z h1 h2 := by
    rw [ltT] at *
    have := leT_trans z y x (by simp [leT, h2]) (by simp [leT, h1])
    simpa [leT] using this

theorem flat_row (ts : List Tm) : (flatK Tm.cells 2 ts.toArray).toList = rowT ts := by
  apply List.ext_getElem?
  intro j
  by_cases hj : j < ts.length * 2
  · have hq : j / 2 < ts.length := by omega
    have h1 : ts[j / 2]? = some ts[j / 2] := List.getElem?_eq_getElem hq
    have h2 := rowT_get ts (j / 2) (j % 2) _ h1 (by omega)
    rw [show j / 2 * 2 + j % 2 = j by omega] at h2
    rw [h2, Array.getElem?_toList]
    have h3 : (flatK Tm.cells 2 ts.toArray)[j]? = some (flatK Tm.cells 2 ts.toArray)[j]! := by
      rw [getElem!_pos _ j (by simp; omega)]
      exact Array.getElem?_eq_getElem _
    rw [h3, get_flatK _ _ _ _ (by simpa using hj)]
    have h4 : ts.toArray[j / 2]! = ts[j / 2] := by
      rw [getElem!_pos _ _ (by simpa using hq)]
      simp
    rw [h4]
    have h5 : (ts[j / 2].cells).length = 2 := rfl
    rw [getElem!_pos _ _ (by omega), List.getElem?_eq_getElem (by omega)]
  · rw [List.getElem?_eq_none (by simp; omega), List.getElem?_eq_none (by rw [rowT_length]; omega)]

theorem holds_own {w : World} {g n : Nat} {cur : Array Value} {e : TypeId} {ts : List Tm} (hb : w.heap[g]? = some (.cells cur e (0, 0))) (ht : cur.toList.take (ts.length * 2) = rowT ts) : HoldsK Tm.cells 2 w g 0 ts.toArray := by
  intro j hj
  have hj' : j < ts.length * 2 := by simpa using hj
  refine ⟨?_, by simp [World.frozen?, hb]⟩
  have h1 : (cur.toList.take (ts.length * 2))[j]? = (rowT ts)[j]? := by rw [ht]
  rw [List.getElem?_take_of_lt hj'] at h1
  simp only [World.cell?, hb, Nat.zero_add]
  simp only [Option.isSome_none, Bool.false_eq_true, if_false]
  rw [← Array.getElem?_toList, h1, ← flat_row, Array.getElem?_toList, getElem!_pos _ j hj]
  exact Array.getElem?_eq_getElem _

theorem heap_sortedK {w : World} {g n : Nat} {os : Array Obj} {cur : Array Value} {e : TypeId} {fr : Nat × Nat} (d : Array Tm) (hb : w.heap[g]? = some (.cells cur e fr)) :
    (sortWorldK Tm.cells 2 w g 0 n d os).heap[g]? = some (.cells (putCells id 0 (flatK Tm.cells 2 d) cur) e fr) := by
  have hg : g < w.heap.size := (Array.getElem?_eq_some_iff.1 hb).1
  unfold sortWorldK putRowK
  rw [heap_grow_old _ _ (by simpa using hg)]
  simp [putRow, mapBlock, Sort.ahead, Array.getElem?_modify, hb, onCells]

theorem grownBy_sortedK {w : World} {g n : Nat} {os : Array Obj} (d : Array Tm) : w.grownBy (sortWorldK Tm.cells 2 w g 0 n d os) (some g) := by
  unfold sortWorldK putRowK
  refine ⟨rfl, rfl, rfl, by simp, fun k hk hne => ?_⟩
  rw [heap_grow_old _ _ (by simpa using hk)]
  have : g ≠ k := fun e => hne (by rw [e])
  simp [putRow, mapBlock, Sort.ahead, Array.getElem?_modify, this]

theorem take_putCellsK (cur F : Array Value) (h : F.size ≤ cur.size) : (putCells id 0 F cur).toList.take F.size = F.toList := by
  apply List.ext_getElem?
  intro j
  by_cases hj : j < F.size
  · rw [List.getElem?_take_of_lt hj, Array.getElem?_toList, Array.getElem?_toList]
    simp [putCells, hj, show j < cur.size by omega]
  · rw [List.getElem?_take_eq_none (by omega), List.getElem?_eq_none (by simp; omega)]

theorem sort_any (v : Value) (ts : List Tm) (B : Nat) (w : World) (hl : ts.length ≤ 9000000) (hown : w.ownsRow B 30 2 v ts.length (rowT ts)) :
    Calls Tryd.prog 36 #[v, .func (.func 37) #[] #[]] w fun e w' => e = .returned (.tuple #[]) ∧ ∃ ts', ts.Perm ts' ∧ Sorted ts' ∧ w'.ownsRow B 30 2 v ts.length (rowT ts') ∧ w.grownBy w' v.ownBlock := by
  have hown' := hown
  obtain ⟨hlen, ⟨rfl, h0⟩ | ⟨g, cap, cur, rfl, hbg, hg, hle, hcap, hsz, htk⟩⟩ := hown
  · have hts : ts = [] := List.eq_nil_of_length_eq_zero h0
    subst hts
    refine (AnyF.slices_SortFunc_none Tryd.laysSort none 0 (.func (.func 37) #[] #[]) w).mono ?_
    rintro e w' ⟨rfl, rfl⟩
    exact ⟨rfl, [], List.Perm.refl _, List.Pairwise.nil, hown', World.grownBy.refl _ _⟩
  · have eg : ∀ args w, (callFunc 37 args).run Tryd.prog w = .ok (.enter 37 args) w := enters_of Tryd.func37 (by kernel_rfl) rfl
    have hcon := AnyQ.slices_SortFunc Tryd.laysSort 2 Tryd.isAgg30 Tryd.sizeOf30 Tm.cells (fun _ => rfl) (fun x u hu => by simp [Tm.cells] at hu; rcases hu with rfl | rfl <;> rfl) cmpT swoT 37 #[] g 0 cap ts.toArray w eg (cmpLays_any g 0 _ w) (holds_own (n := 0) hg htk) (Array.getElem?_eq_some_iff.1 hg).1 (by simp; omega)
    change Calls Tryd.prog 36 _ _ _ at hcon
    simp only [List.size_toArray] at hcon
    refine hcon.mono ?_
    rintro e w' ⟨rfl, d', n, os, hp, hs, rfl⟩
    have hds : d'.size = ts.length := by simpa using hp.1
    have hperm : d'.toList.Perm ts := by
      have := hp.2.2
      simp at this
      rwa [List.take_of_length_le (by simp [hds])] at this
    refine ⟨rfl, d'.toList, hperm.symm, ?_, ?_, ?_⟩
    · refine List.pairwise_iff_getElem.2 fun i j hi hj hij => ?_
      have hi' : i < d'.size := by simpa using hi
      have hj' : j < d'.size := by simpa using hj
      have := hs i j (Nat.zero_le _) hij (by omega)
      rw [ltT, getElem!_pos d' i hi', getElem!_pos d' j hj'] at this
      simpa using this
    · refine ⟨by rw [rowT_length]; simp [hds], .inr ⟨g, cap, _, rfl, hbg, heap_sortedK d' hg, hle, hcap, by simp [putCells, hsz], ?_⟩⟩
      have h1 := take_putCellsK cur (flatK Tm.cells 2 d') (by simp [hds, hsz]; omega)
      have h2 := flat_row d'.toList
      simp only [Array.toArray_toList] at h2
      rw [h2] at h1
      simpa [hds] using h1
    · exact grownBy_sortedK d'
end Go.Proofs.YtijdjljnppkhmabDoor

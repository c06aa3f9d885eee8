/- Plain arithmetic on bytes: the number that bytes are, the lowest first, and how a shift and an or build it. -/
import Derived.Test.YtmndccbeddaphaaGreatDoorRfe
import Derived.Shelf.Spec.SearchS
import Derived.Sort.Walk0
import Derived.BigQuiet
import Derived.Laws.BitsAllLaws
namespace Go.Proofs.YtmndccbeddaphaaGreatDoor
open Go.ChangeShapes Go.WideShapes Go.ChangeAt Go.RowKit Go.Sort
set_option linter.unusedVariables false
set_option maxRecDepth 100000
def okE (q : List UInt8 × Lin) : Bool := legB (str q.1) && rightF none q.2.terms
structure HeldE (q : List UInt8 × Lin) : Prop where
  name : q.1.length ≤ 1100000
  few : q.2.terms.length ≤ 9000000
  names : ∀ t ∈ q.2.terms, t.name.length ≤ 1100000
theorem three_read {T : TypeId} {w : World} {g : Nat} {v0 v1 v2 : Value} (h : w.heap[g]? = some (.cells #[v0, v1, v2] T (0, 0))) : w.cell? ⟨g, 0, none⟩ = some v0 ∧ w.cell? ⟨g, 1, none⟩ = some v1 ∧ w.cell? ⟨g, 2, none⟩ = some v2 :=
  ⟨(cell_blockT h 0).trans rfl, (cell_blockT h 1).trans rfl, (cell_blockT h 2).trans rfl⟩
set_option maxHeartbeats 4000000 in
theorem rightEqus_any (a : Option Addr) (c : Nat) (l : List (List UInt8 × Lin)) (hl : l.length ≤ 1100000) (hH : ∀ x ∈ l, HeldE x) (w : World) (hI : EqIn w a l) :
    Calls Tryz.prog 60 #[.slice a l.length c] w fun e w' => e = .returned (.bool (l.all okE)) ∧ Below w.heap.size w w' := by
  obtain ⟨n0, hn0⟩ : ∃ n0, n0 = l.length := ⟨_, rfl⟩
  obtain ⟨bv, hbv⟩ : ∃ bv, bv = l.all okE := ⟨_, rfl⟩
  rw [← hn0, ← hbv]
  rw [← hn0] at hl
  replace hn0 := Hid.intro hn0
  replace hbv := Hid.intro hbv
  have hIH := Hid.intro hI
  have hHH := Hid.intro hH
  clear hI hH
  go_enter Tryz.func60, Tryz.ntmps60
  go_wp2
  all_goals first | omega | skip
  go_loopw [7] (fun v7 wr => ∃ i : Nat, i ≤ n0 ∧ v7 = .int .i64 (i : Int) ∧ Hid ((l.take i).all okE = true) ∧ Hid (Below w.heap.size w wr)) (fun v7 wr => n0 - (intOf v7).toNat)
  case atStart => exact ⟨0, by omega, rfl, (by show _ = _; simp), Below.refl _ _⟩
  case round =>
    obtain ⟨i, hi, rfl, hall, hB⟩ := hrel
    by_cases hlt : i < n0
    · obtain ⟨x, hx⟩ : ∃ x, l[i]? = some x := ⟨l[i]'(by rw [← hn0.out]; exact hlt), List.getElem?_eq_getElem _⟩
      rcases hIH.out.below hB.out with h0 | ⟨g, o, rfl, hg, hat⟩
      · rw [h0] at hx; simp at hx
      obtain ⟨va, vc, c0, c1, c2, hTm⟩ := hat i x hx
      have hh := hHH.out x (List.mem_of_getElem? hx)
      have hlt2 : (i : Int) < (n0 : Int) := by omega
      have hnext := Hid.intro (fun (h : okE x = true) => show (l.take (i + 1)).all okE = true by rw [List.take_add_one, hx]; simp [h]; simpa using hall.out)
      have hbad : Hid (okE x = false → bv = false) := fun h => by
        rw [hbv.out, Bool.eq_false_iff]
        intro h2
        rw [List.all_eq_true] at h2
        have := h2 x (List.mem_of_getElem? hx)
        rw [h] at this
        cases this
      unfold okE at hnext hbad
      have hleg := Hid.intro (fun w1 => legal_any (str x.1) (by rw [show (str x.1).size = x.1.length from rfl]; exact hh.name) w1)
      have hbx := heap_alloc_new wr (.cells #[.string (str x.1), .slice va x.2.terms.length vc, .int .u32 x.2.const] 90)
      obtain ⟨b0, b1, b2⟩ := three_read hbx
      have hB1 : Hid (Below w.heap.size w (wr.alloc (.cells #[.string (str x.1), .slice va x.2.terms.length vc, .int .u32 x.2.const] 90))) := hB.out.alloc hB.out.size _
      have hcells : Hid (∀ w1, Below (wr.alloc (.cells #[.string (str x.1), .slice va x.2.terms.length vc, .int .u32 x.2.const] 90)).heap.size (wr.alloc (.cells #[.string (str x.1), .slice va x.2.terms.length vc, .int .u32 x.2.const] 90)) w1 → w1.cell? ⟨wr.heap.size, 1, none⟩ = some (.slice va x.2.terms.length vc) ∧ w1.cell? ⟨wr.heap.size, 2, none⟩ = some (.int .u32 x.2.const) ∧ Calls Tryz.prog 103 #[linV (.slice va x.2.terms.length vc) x.2.const] w1 fun e w' => e = .returned (.bool (rightF none x.2.terms)) ∧ Below w1.heap.size w1 w') := fun w1 h1 => by
        have h2 := (h1.block wr.heap.size (by simp)).trans hbx
        obtain ⟨_, e1, e2⟩ := three_read h2
        exact ⟨e1, e2, right_any va vc x.2.terms x.2.const w1 ((hTm.below (below_alloc wr _) (Nat.le_refl _)).below h1 (Nat.le_refl _)) hh.few hh.names⟩
      clear hbx hx hh hTm hat
      generalize legB (str x.1) = lg at hleg hnext hbad
      generalize rightF none x.2.terms = rt at hcells hnext hbad
      generalize x.2.terms.length = ln at *
      generalize x.2.const = cn at *
      cases lg with
      | true =>
        cases rt with
        | true =>
          go_wp2_with (first | (go_at_call 102; (with_reducible refine (hleg.out _).mono ?_); rintro e w1 ⟨rfl, hb1⟩; obtain ⟨d1, d2, hrt⟩ := hcells.out w1 hb1; replace hrt := Hid.intro hrt; replace hb1 := Hid.intro hb1) | (go_at_call 103; (with_reducible refine (hrt.out).mono ?_); rintro e w2 ⟨rfl, hb2⟩))
          all_goals first | omega | skip
          go_roundw
          case rel => exact ⟨i + 1, by omega, by go_num, hnext.out (by simp), (hB1.out.trans (hb1.out.mono hB1.out.size)).trans (hb2.mono (Nat.le_trans hB1.out.size hb1.out.size))⟩
          case measure => simp [intOf]; omega
        | false =>
          go_wp2_with (first | (go_at_call 102; (with_reducible refine (hleg.out _).mono ?_); rintro e w1 ⟨rfl, hb1⟩; obtain ⟨d1, d2, hrt⟩ := hcells.out w1 hb1; replace hrt := Hid.intro hrt; replace hb1 := Hid.intro hb1) | (go_at_call 103; (with_reducible refine (hrt.out).mono ?_); rintro e w2 ⟨rfl, hb2⟩))
          all_goals first | omega | skip
          go_ret
          rw [hbad.out (by simp)]
          exact ⟨rfl, (hB1.out.trans (hb1.out.mono hB1.out.size)).trans (hb2.mono (Nat.le_trans hB1.out.size hb1.out.size))⟩
      | false =>
        go_wp2_with (first | (go_at_call 102; (with_reducible refine (hleg.out _).mono ?_); rintro e w1 ⟨rfl, hb1⟩))
        all_goals first | omega | skip
        go_ret
        rw [hbad.out (by simp)]
        exact ⟨rfl, hB1.out.trans (hb1.mono hB1.out.size)⟩
    · have hin : i = n0 := by omega
      have hres : Hid (bv = true) := by
        show _ = _
        rw [hbv.out]
        have := hall.out
        rwa [hin, hn0.out, List.take_length] at this
      subst hin
      have hlt3 : ¬ ((i : Int) < (i : Int)) := by omega
      go_wp2
      all_goals first | omega | skip
      go_ret
      rw [hres.out]
      exact ⟨rfl, hB.out⟩
def labN (l : List Itm) : List (List UInt8) := (l.filter fun x => x.kind == 1).map (·.name)
theorem labN_take (l : List Itm) (i : Nat) (x : Itm) (hx : l[i]? = some x) : labN (l.take (i + 1)) = labN (l.take i) ++ if x.kind = 1 then [x.name] else [] := by
  unfold labN
  rw [List.take_add_one, hx, List.filter_append, List.map_append]
  by_cases h : x.kind = 1 <;> simp [h]
theorem labN_len (l : List Itm) : (labN l).length ≤ l.length := by
  unfold labN
  rw [List.length_map]
  exact List.length_filter_le _ _
structure NmS (w0 : World) (ga : Option Addr) (gc : Nat) (ns : List (List UInt8)) (n : Nat) (wr : World) : Prop where
  bel : Below w0.heap.size w0 wr
  own : wr.ownsRow w0.heap.size 9 1 (.slice ga n gc) n (ns.map encStr)
theorem NmS.len {w0 : World} {ga : Option Addr} {gc : Nat} {ns : List (List UInt8)} {n : Nat} {wr : World} (h : NmS w0 ga gc ns n wr) : n = ns.length := by
  have := h.own.1
  simp at this
  omega
theorem NmS.below {w0 : World} {ga : Option Addr} {gc : Nat} {ns : List (List UInt8)} {n : Nat} {wr w' : World} (h : NmS w0 ga gc ns n wr) (hb : Below wr.heap.size wr w') : NmS w0 ga gc ns n w' := ⟨h.bel.trans (hb.mono h.bel.size), own_keptB h.own hb⟩
theorem NmS.push {w0 : World} {ga : Option Addr} {gc : Nat} {ns : List (List UInt8)} {n : Nat} {wr w3 : World} (h : NmS w0 ga gc ns n wr) {s : List UInt8} {v' : Value} (ho : w3.ownsRow w0.heap.size 9 1 v' (n + 1) (ns.map encStr ++ [encStr s])) (hg : wr.grownBy w3 (Value.slice ga n gc).ownBlock) : ∃ a' c', v' = .slice a' (n + 1) c' ∧ NmS w0 a' c' (ns ++ [s]) (n + 1) w3 := by
  obtain ⟨a', c', rfl⟩ := own_slice ho
  exact ⟨a', c', rfl, h.bel.grown hg h.bel.size (fun j hj => (h.own.lt _ hj).1), by rw [List.map_append]; exact ho⟩
set_option maxHeartbeats 4000000 in
theorem labels_any (w0 : World) (ga : Option Addr) (gc n : Nat) (ns : List (List UInt8)) (a : Option Addr) (c : Nat) (l : List Itm) (hl : l.length ≤ 1100000) (hns : n ≤ 1100000) (w : World) (hv : NmS w0 ga gc ns n w) (hI : ItIn w0 a l) :
    Calls Tryz.prog 104 #[.slice ga n gc, .slice a l.length c] w fun e w' => ∃ a' c' k, e = .returned (.slice a' k c') ∧ NmS w0 a' c' (ns ++ labN l) k w' := by
  obtain ⟨n0, hn0⟩ : ∃ n0, n0 = l.length := ⟨_, rfl⟩
  rw [← hn0]
  rw [← hn0] at hl
  replace hn0 := Hid.intro hn0
  have hvH := Hid.intro hv
  have hIH := Hid.intro hI
  obtain ⟨i0, hi9, hz0, hz1, hz2⟩ := info_parts info9
  clear hv hI
  go_enter Tryz.func104, Tryz.ntmps104
  go_wp2
  all_goals first | omega | skip
  go_loopw [0, 9] (fun v0 v9 wr => ∃ (i : Nat) (ha : Option Addr) (hc k : Nat), i ≤ n0 ∧ k ≤ n + i ∧ v0 = .slice ha k hc ∧ v9 = .int .i64 (i : Int) ∧ Hid (NmS w0 ha hc (ns ++ labN (l.take i)) k wr)) (fun v0 v9 wr => n0 - (intOf v9).toNat)
  case atStart => exact ⟨0, ga, gc, n, by omega, by omega, rfl, rfl, by show NmS _ _ _ _ _ _; simpa [labN] using hvH.out⟩
  case round =>
    clear hvH
    obtain ⟨i, ha, hc, k, hi, hk, rfl, rfl, hS⟩ := hrel
    by_cases hlt : i < n0
    · obtain ⟨x, hx⟩ : ∃ x, l[i]? = some x := ⟨l[i]'(by rw [← hn0.out]; exact hlt), List.getElem?_eq_getElem _⟩
      rcases hIH.out.below hS.out.bel with h0 | ⟨g, o, rfl, hg, hat⟩
      · rw [h0] at hx; simp at hx
      obtain ⟨va, vc, hI, hTm⟩ := hat i x hx
      obtain ⟨c0, c1, c2, c3, c4, c5, c6, c7, c8, c9⟩ := hI
      have hlt2 : (i : Int) < (n0 : Int) := by omega
      have hnext := labN_take l i x hx
      have hbx := heap_alloc_new wr (.cells (itmCells x (.slice va x.e.terms.length vc)) 86)
      obtain ⟨b0, b1, b2, b3, b4, b5, b6, b7, b8, b9⟩ := rowIt hbx
      have hS1 := Hid.intro (hS.out.below (below_alloc wr (.cells (itmCells x (.slice va x.e.terms.length vc)) 86)))
      have hs1 : (wr.alloc (.cells (itmCells x (.slice va x.e.terms.length vc)) 86)).heap.size = wr.heap.size + 1 := by simp
      clear hbx hx hTm hat hg
      generalize x.e.terms.length = ln at *
      by_cases hk1 : x.kind = 1
      · have e1 : (x.kind == 1) = true := by simpa using hk1
        rw [if_pos hk1] at hnext
        replace hnext : Hid (ns ++ labN (l.take (i + 1)) = (ns ++ labN (l.take i)) ++ [x.name]) := by show _ = _; rw [hnext, List.append_assoc]
        generalize hwa : wr.alloc (.cells (itmCells x (.slice va ln vc)) 86) = wa at *
        have hS2 := Hid.intro (hS1.out.below (below_alloc wa (.cells #[.string (str x.name)] 9)))
        have hsrc : Hid (Src (wa.alloc (.cells #[.string (str x.name)] 9)) (.slice (some ⟨wr.heap.size + 1, 0, none⟩) 1 1) 1 [encStr x.name]) := by
          rw [← hs1]
          exact .inr ⟨_, _, rfl, cells_new wa #[.string (str x.name)] 9⟩
        have hbase : w0.heap.size ≤ (wa.alloc (.cells #[.string (str x.name)] 9)).heap.size := hS2.out.bel.size
        clear hk1 b2 b3 b4 b5 b6 b7 b8 b9 hs1
        subst hwa
        go_wp2_with (at_builtin; go_must (refine wpList_app rfl (.tmp 16) (.tmp 19) 28 rfl w0.heap.size 9 i0 _ 1 16 Tryz.underlying28 hi9 hz0 hz1 hz2 rfl (by decide) (.slice ha k hc) k _ rfl hS2.out.own (.slice (some ⟨_, 0, none⟩) 1 1) 1 [encStr x.name] rfl hsrc.out rfl (by simp [Value.oneCell', encStr]) (by unfold maxLen; omega) (by omega) hbase ?_; intro v' w3 ho hg hw; obtain ⟨a', c', rfl, hN⟩ := hS2.out.push ho hg; replace hN := Hid.intro hN; clear ho hg hw))
        all_goals first | omega | skip
        go_roundw
        case rel => exact ⟨i + 1, a', c', k + 1, by omega, by omega, rfl, by go_num, by show NmS _ _ _ _ _ _; rw [hnext.out]; exact hN.out⟩
        case measure => simp [intOf]; omega
      · have e1 : (x.kind == 1) = false := by simpa using hk1
        rw [if_neg hk1, List.append_nil] at hnext
        replace hnext := Hid.intro hnext
        clear hk1 b1 b2 b3 b4 b5 b6 b7 b8 b9
        go_wp2
        all_goals first | omega | skip
        go_roundw
        case rel => exact ⟨i + 1, ha, hc, k, by omega, by omega, rfl, by go_num, by show NmS _ _ _ _ _ _; rw [hnext.out]; exact hS1.out⟩
        case measure => simp [intOf]; omega
    · have hin : i = n0 := by omega
      subst hin
      have hlt3 : ¬ ((i : Int) < (i : Int)) := by omega
      go_wp2
      all_goals first | omega | skip
      go_ret
      have := hS.out
      rw [hn0.out, List.take_length] at this
      exact ⟨ha, hc, k, rfl, this⟩
structure UVal where
  text : List Itm
  data : List Itm
  equs : List (List UInt8 × Lin)
  globs : List (List UInt8)
def UVal.names (u : UVal) : List (List UInt8) := labN u.text ++ labN u.data ++ u.equs.map (·.1)
structure HeldU (u : UVal) : Prop where
  text : u.text.length ≤ 1100000 ∧ ∀ x ∈ u.text, HeldI x
  data : u.data.length ≤ 1100000 ∧ ∀ x ∈ u.data, HeldI x
  equs : u.equs.length ≤ 1100000 ∧ ∀ q ∈ u.equs, HeldE q
  globs : u.globs.length ≤ 1100000
structure UnitIn (w : World) (ta : Option Addr) (da : Option Addr) (ea : Option Addr) (ga : Option Addr) (u : UVal) : Prop where
  text : ItIn w ta u.text
  data : ItIn w da u.data
  equs : EqIn w ea u.equs
  globs : StIn w ga u.globs
theorem UnitIn.below {w w' : World} {ta da ea ga : Option Addr} {u : UVal} (h : UnitIn w ta da ea ga u) (hb : Below w.heap.size w w') : UnitIn w' ta da ea ga u := ⟨h.text.below hb, h.data.below hb, h.equs.below hb, h.globs.below hb⟩
abbrev unitV (ta : Option Addr) (tc : Nat) (da : Option Addr) (dc : Nat) (ea : Option Addr) (ec : Nat) (ga : Option Addr) (gc : Nat) (u : UVal) : Array Value := unit4 (.slice ta u.text.length tc) (.slice da u.data.length dc) (.slice ea u.equs.length ec) (.slice ga u.globs.length gc)
set_option maxHeartbeats 4000000 in
theorem sortedNames_any (ta : Option Addr) (tc : Nat) (da : Option Addr) (dc : Nat) (ea : Option Addr) (ec : Nat) (ga : Option Addr) (gc : Nat) (u : UVal) (hu : HeldU u) (w : World) (hI : UnitIn w ta da ea ga u) :
    Calls Tryz.prog 61 #[.agg (unitV ta tc da dc ea ec ga gc u)] w fun e w' => ∃ a' c', e = .returned (.slice a' (sortS u.names).length c') ∧ NmS w a' c' (sortS u.names) (sortS u.names).length w' := by
  have hB0 : Below w.heap.size w (w.alloc (.cells (unitV ta tc da dc ea ec ga gc u) 30)) := below_alloc w _
  have hbx := heap_alloc_new w (.cells (unitV ta tc da dc ea ec ga gc u) 30)
  have hI0 := hI.below hB0
  obtain ⟨c0, c1, c2, c3⟩ := four_read hbx
  have hlt := labN_len u.text
  have hld := labN_len u.data
  have hh1 := hu.text.1
  have hh2 := hu.data.1
  have hh3 := hu.equs.1
  generalize hW : w.alloc (.cells (unitV ta tc da dc ea ec ga gc u) 30) = W0 at *
  have hws : W0.heap.size = w.heap.size + 1 := by rw [← hW]; simp
  have hne : Hid (NmS W0 none 0 [] 0 W0) := ⟨Below.refl _ _, World.ownsRow_nil _ _ _ _⟩
  have hl1 := Hid.intro (labels_any W0 none 0 0 [] ta tc u.text hu.text.1 (by omega) _ hne.out hI0.text)
  have hl2 := Hid.intro (fun ga1 gc1 k w1 (hk : k ≤ 1100000) (h1 : NmS W0 ga1 gc1 ([] ++ labN u.text) k w1) => labels_any W0 ga1 gc1 k _ da dc u.data hu.data.1 hk w1 h1 hI0.data)
  have hcells : Hid (∀ w1, Below W0.heap.size W0 w1 → w1.cell? ⟨w.heap.size, 1, none⟩ = some (.slice da u.data.length dc) ∧ w1.cell? ⟨w.heap.size, 2, none⟩ = some (.slice ea u.equs.length ec)) := fun w1 h1 => ⟨(h1.cell (p := ⟨w.heap.size, 1, none⟩) (by show w.heap.size < _; omega)).trans c1, (h1.cell (p := ⟨w.heap.size, 2, none⟩) (by show w.heap.size < _; omega)).trans c2⟩
  obtain ⟨i0, hi9, hz0, hz1, hz2⟩ := info_parts info9
  have hIH := Hid.intro hI0
  have hB0H := Hid.intro hB0
  obtain ⟨n0, hn0⟩ : ∃ n0, n0 = u.equs.length := ⟨_, rfl⟩
  have hnl : u.names.length ≤ u.text.length + u.data.length + u.equs.length := by
    unfold UVal.names
    simp
    omega
  obtain ⟨lt0, hlt0⟩ : ∃ lt0, lt0 = u.text.length := ⟨_, rfl⟩
  obtain ⟨ld0, hld0⟩ : ∃ ld0, ld0 = u.data.length := ⟨_, rfl⟩
  have hkt : Hid (([] ++ labN u.text).length ≤ 1100000) := by show _ ≤ _; simp; omega
  have hkd : Hid (([] ++ labN u.text ++ labN u.data).length ≤ 2200000) := by show _ ≤ _; simp; omega
  replace hnl := Hid.intro hnl
  clear hI hI0 hbx hB0 hne hlt hld c1 c2 c3
  rw [← hn0] at hh3 hcells
  replace hh1 := Hid.intro hh1
  replace hh2 := Hid.intro hh2
  replace hn0 := Hid.intro hn0
  go_enter Tryz.func61, Tryz.ntmps61
  subst hW
  go_upto_region 3 with (first
    | (go_at_call 104; (with_reducible refine (hl1.out).mono ?_); rintro e w1 ⟨a1, k1, n1, rfl, hN1⟩; obtain ⟨d1, d2⟩ := hcells.out w1 hN1.bel; have hn1 := hN1.len; clear hl1; replace hN1 := Hid.intro hN1; replace hn1 := Hid.intro hn1)
    | (go_at_call 104; (with_reducible refine (hl2.out a1 k1 n1 w1 (by rw [hn1.out]; exact hkt.out) hN1.out).mono ?_); rintro e w2 ⟨a2, k2, n2, rfl, hN2⟩; obtain ⟨f1, f2⟩ := hcells.out w2 hN2.bel; have hn2 := Hid.intro hN2.len; replace hN2 := Hid.intro hN2))
  all_goals first | omega | skip
  clear hl2 hcells c0 d1 d2 f1 hlt0 hld0
  generalize hW : w.alloc (.cells (unitV ta tc da dc ea ec ga gc u) 30) = W0 at *
  go_wp2
  all_goals first | omega | skip
  clear f2
  have hkd2 : n2 ≤ 2200000 := by rw [hn2.out]; exact hkd.out
  go_loopw [3, 16] (fun v3 v16 wr => ∃ (i : Nat) (ha : Option Addr) (hc k : Nat), i ≤ n0 ∧ k ≤ n2 + i ∧ v3 = .slice ha k hc ∧ v16 = .int .i64 (i : Int) ∧ Hid (NmS W0 ha hc ([] ++ labN u.text ++ labN u.data ++ (u.equs.take i).map (·.1)) k wr)) (fun v3 v16 wr => n0 - (intOf v16).toNat)
  case atStart => exact ⟨0, a2, k2, n2, by omega, by omega, rfl, rfl, by show NmS _ _ _ _ _ _; simpa using hN2.out⟩
  case round =>
    clear hN2 hN1
    obtain ⟨i, ha, hc, k, hi, hk, rfl, rfl, hS⟩ := hrel
    by_cases hlt : i < n0
    · obtain ⟨q, hq⟩ : ∃ q, u.equs[i]? = some q := ⟨u.equs[i]'(by rw [← hn0.out]; exact hlt), List.getElem?_eq_getElem _⟩
      rcases hIH.out.equs.below hS.out.bel with h0 | ⟨g, o, rfl, hg, hat⟩
      · rw [h0] at hq; simp at hq
      obtain ⟨va, vc, c0, c1, c2, hTm⟩ := hat i q hq
      have hlt2 : (i : Int) < (n0 : Int) := by omega
      have hnext : Hid ([] ++ labN u.text ++ labN u.data ++ (u.equs.take (i + 1)).map (·.1) = ([] ++ labN u.text ++ labN u.data ++ (u.equs.take i).map (·.1)) ++ [q.1]) := by show _ = _; rw [List.take_add_one, hq]; simp
      have hbx := heap_alloc_new wr (.cells #[.string (str q.1), .slice va q.2.terms.length vc, .int .u32 q.2.const] 90)
      obtain ⟨b0, b1, b2⟩ := three_read hbx
      have hS1 := Hid.intro (hS.out.below (below_alloc wr (.cells #[.string (str q.1), .slice va q.2.terms.length vc, .int .u32 q.2.const] 90)))
      have hs1 : (wr.alloc (.cells #[.string (str q.1), .slice va q.2.terms.length vc, .int .u32 q.2.const] 90)).heap.size = wr.heap.size + 1 := by simp
      clear hbx hq hTm hat hg
      generalize q.2.terms.length = ln at *
      generalize q.2.const = cn at *
      generalize hwa : wr.alloc (.cells #[.string (str q.1), .slice va ln vc, .int .u32 cn] 90) = wa at *
      have hS2 := Hid.intro (hS1.out.below (below_alloc wa (.cells #[.string (str q.1)] 9)))
      have hsrc : Hid (Src (wa.alloc (.cells #[.string (str q.1)] 9)) (.slice (some ⟨wr.heap.size + 1, 0, none⟩) 1 1) 1 [encStr q.1]) := by
        rw [← hs1]
        exact .inr ⟨_, _, rfl, cells_new wa #[.string (str q.1)] 9⟩
      have hbase : W0.heap.size ≤ (wa.alloc (.cells #[.string (str q.1)] 9)).heap.size := hS2.out.bel.size
      clear b1 b2 hs1
      subst hwa
      go_wp2_with (at_builtin; go_must (refine wpList_app rfl (.tmp 20) (.tmp 23) 28 rfl W0.heap.size 9 i0 _ 1 16 Tryz.underlying28 hi9 hz0 hz1 hz2 rfl (by decide) (.slice ha k hc) k _ rfl hS2.out.own (.slice (some ⟨_, 0, none⟩) 1 1) 1 [encStr q.1] rfl hsrc.out rfl (by simp [Value.oneCell', encStr]) (by unfold maxLen; omega) (by omega) hbase ?_; intro v' w3 ho hg hw; obtain ⟨a', c', rfl, hN⟩ := hS2.out.push ho hg; replace hN := Hid.intro hN; clear ho hg hw))
      all_goals first | omega | skip
      go_roundw
      case rel => exact ⟨i + 1, a', c', k + 1, by omega, by omega, rfl, by go_num, by show NmS _ _ _ _ _ _; rw [hnext.out]; exact hN.out⟩
      case measure => simp [intOf]; omega
    · obtain rfl : i = n0 := by omega
      have hlt3 : ¬ ((i : Int) < (i : Int)) := by omega
      have hns : [] ++ labN u.text ++ labN u.data ++ (u.equs.take i).map (·.1) = u.names := by rw [hn0.out, List.take_length]; rfl
      rw [hns] at hS
      have hkl := hS.out.len
      have hsrt := sortS_any (.slice ha k hc) u.names W0.heap.size wr (by omega) (by have := hS.out.own; rw [← hkl]; exact this)
      have hsort := Hid.intro hsrt
      replace hkl := Hid.intro hkl
      clear hns hsrt
      go_wp2_with (go_at_call 105; (with_reducible refine (hsort.out).mono ?_); rintro e w3 ⟨rfl, ho3, hg3⟩)
      all_goals first | omega | skip
      go_ret
      have hl3 := sortS_len u.names
      have e3 : (sortS u.names).length = k := by rw [hl3, hkl.out]
      rw [e3]
      refine ⟨ha, hc, rfl, ?_, ?_⟩
      · exact (hB0H.out.trans (hS.out.bel.mono hB0H.out.size)).grown hg3 (Nat.le_trans hB0H.out.size hS.out.bel.size) (fun j hj => Nat.le_trans hB0H.out.size (hS.out.own.lt _ hj).1)
      · rw [hkl.out]
        rw [hkl.out] at ho3
        exact own_weaken ho3 hB0H.out.size
end Go.Proofs.YtmndccbeddaphaaGreatDoor
namespace Go.Proofs.YtmndccbeddaphaaGreatDoor
open Go.ChangeShapes Go.WideShapes Go.ChangeAt Go.RowKit Go.Sort
set_option linter.unusedVariables false
set_option maxRecDepth 100000
theorem lt_nlt (x y : List UInt8) : (x < y) ↔ nlt x y = true := by
  have := bytesLess_eq x y
  unfold nlt
  rw [this]
  simp
theorem le_nlt (x y : List UInt8) : (x ≤ y) ↔ nlt y x = false := by
  show ¬ (y < x) ↔ _
  rw [lt_nlt]
  simp
def Rise (ns : List (List UInt8)) : Prop := ns.Pairwise fun x y => nlt y x = false
theorem nlt_le_trans {x y z : List UInt8} (h1 : nlt y x = false) (h2 : nlt z y = false) : nlt z x = false := by
  rcases nlt_tri x y with h | h | h
  · rcases nlt_tri y z with g | g | g
    · exact nlt_asymm (nlt_trans h g)
    · subst g; exact nlt_asymm h
    · rw [g] at h2; cases h2
  · subst h; exact h2
  · rw [h] at h1; cases h1
theorem sortS_rise (ss : List (List UInt8)) : Rise (sortS ss) := by
  have h := List.pairwise_mergeSort (le := fun x y : List UInt8 => decide (x ≤ y)) (fun a b c h1 h2 => by
    simp only [decide_eq_true_eq, le_nlt] at h1 h2 ⊢
    exact nlt_le_trans h1 h2) (fun a b => by
    simp only [Bool.or_eq_true, decide_eq_true_eq, le_nlt]
    rcases nlt_tri a b with h | h | h
    · exact .inl (nlt_asymm h)
    · subst h; exact .inl (nlt_irrefl _)
    · exact .inr (nlt_asymm h)) ss
  exact h.imp fun h => by simpa only [decide_eq_true_eq, le_nlt] using h
theorem rise_get {ns : List (List UInt8)} (h : Rise ns) {i j : Nat} (hij : i < j) {x y : List UInt8} (hx : ns[i]? = some x) (hy : ns[j]? = some y) : nlt y x = false := by
  obtain ⟨hi, rfl⟩ := List.getElem?_eq_some_iff.1 hx
  obtain ⟨hj, rfl⟩ := List.getElem?_eq_some_iff.1 hy
  exact (List.pairwise_iff_getElem.1 h) i j hi hj hij
def headN (ns : List (List UInt8)) (g : List UInt8) : Nat := (ns.takeWhile fun x => nlt x g).length
theorem headN_lt {ns : List (List UInt8)} {g : List UInt8} {t : Nat} (ht : t < headN ns g) {x : List UInt8} (hx : ns[t]? = some x) : nlt x g = true := by
  unfold headN at ht
  induction ns generalizing t with
  | nil => simp at ht
  | cons y r ih =>
    by_cases hy : nlt y g = true
    · rw [List.takeWhile_cons, if_pos hy] at ht
      cases t with
      | zero => simp at hx; subst hx; exact hy
      | succ t => simp at hx ht; exact ih ht hx
    · rw [List.takeWhile_cons, if_neg hy] at ht
      simp at ht
theorem headN_le (ns : List (List UInt8)) (g : List UInt8) : headN ns g ≤ ns.length := (List.takeWhile_sublist _).length_le
theorem headN_at {ns : List (List UInt8)} {g : List UInt8} {x : List UInt8} (hx : ns[headN ns g]? = some x) : nlt x g = false := by
  unfold headN at hx
  induction ns with
  | nil => simp at hx
  | cons y r ih =>
    by_cases hy : nlt y g = true
    · rw [List.takeWhile_cons, if_pos hy] at hx
      simp at hx
      exact ih hx
    · rw [List.takeWhile_cons, if_neg hy] at hx
      simp at hx
      subst hx
      simpa using hy
theorem headN_ge {ns : List (List UInt8)} (h : Rise ns) {g : List UInt8} {t : Nat} (ht : headN ns g ≤ t) {x : List UInt8} (hx : ns[t]? = some x) : nlt x g = false := by
  have hlt := (List.getElem?_eq_some_iff.1 hx).1
  have h0 : ns[headN ns g]? = some (ns[headN ns g]'(by omega)) := List.getElem?_eq_getElem _
  have h1 := headN_at h0
  rcases Nat.eq_or_lt_of_le ht with e | e
  · subst e
    rw [h0] at hx
    cases hx
    exact h1
  · exact nlt_le_trans h1 (rise_get h e h0 hx)
theorem found_iff {ns : List (List UInt8)} (h : Rise ns) (g : List UInt8) : (headN ns g < ns.length ∧ ns[headN ns g]? = some g) ↔ g ∈ ns := by
  constructor
  · rintro ⟨_, h2⟩
    exact List.mem_of_getElem? h2
  · intro hm
    obtain ⟨i, hi⟩ := List.mem_iff_getElem?.1 hm
    have hil := (List.getElem?_eq_some_iff.1 hi).1
    have hge : headN ns g ≤ i := by
      rcases Nat.lt_or_ge i (headN ns g) with h1 | h1
      · have := headN_lt h1 hi
        rw [nlt_irrefl] at this
        cases this
      · exact h1
    have hlt : headN ns g < ns.length := by omega
    have h0 : ns[headN ns g]? = some (ns[headN ns g]) := List.getElem?_eq_getElem hlt
    have h1 := headN_at h0
    have h2 : nlt g (ns[headN ns g]) = false := by
      rcases Nat.eq_or_lt_of_le hge with e | e
      · have : ns[headN ns g]? = some g := by rw [e]; exact hi
        rw [h0] at this
        injection this with this
        rw [this]
        exact nlt_irrefl _
      · exact rise_get h e h0 hi
    refine ⟨hlt, ?_⟩
    rw [h0]
    rcases nlt_tri (ns[headN ns g]) g with e | e | e
    · rw [e] at h1; cases h1
    · rw [e]
    · rw [e] at h2; cases h2
theorem search_any (a : Option Addr) (c : Nat) (ns : List (List UInt8)) (g : List UInt8) (hl : ns.length ≤ 9000000) (hR : Rise ns) (w : World) (hS : StIn w a ns) :
    Calls Tryz.prog 106 #[.slice a ns.length c, .string (str g)] w fun e w' => (∃ k : Int, e = .returned (.tuple #[.int .i64 k, .bool (decide (g ∈ ns))])) ∧ Below w.heap.size w w' := by
  rcases hS with h0 | ⟨b, o, rfl, hb, hat⟩
  · subst h0
    refine (Any2.slices_BinarySearch_string_empty Tryz.laysSearch a c (str g) w).mono ?_
    rintro e w' ⟨rfl, rfl⟩
    exact ⟨⟨0, by simp⟩, Below.refl _ _⟩
  · have hc : ∀ j, j < ns.length → w.cell? ⟨b, o + j, none⟩ = some (.string (if h : j < ns.length then str ns[j] else str g)) := fun j hj => by
      rw [dif_pos hj]
      exact hat j _ (List.getElem?_eq_getElem hj)
    refine (Any2.slices_BinarySearch_string Tryz.laysSearch b o ns.length c (fun j => if h : j < ns.length then str ns[j] else str g) (str g) w (by omega) hc).mono ?_
    rintro e w' ⟨rfl, q, rfl⟩
    have hless : (fun t => Op.bytesLess (if h : t < ns.length then str ns[t] else str g).toList (str g).toList) = fun t => (if h : t < ns.length then nlt ns[t] g else false) := by
      funext t
      by_cases ht : t < ns.length
      · rw [dif_pos ht, dif_pos ht, str_toList, str_toList]; rfl
      · rw [dif_neg ht, dif_neg ht]
        exact nlt_irrefl _
    have hgo : Lib.bsGo (fun t => Op.bytesLess (if h : t < ns.length then str ns[t] else str g).toList (str g).toList) ns.length 0 ns.length = headN ns g := by
      rw [hless]
      refine Lib.bsGo_spec _ (headN ns g) (fun t ht => ?_) (fun t ht => ?_) _ _ _ (by omega) (Nat.zero_le _) (headN_le ns g)
      · have := headN_le ns g
        rw [dif_pos (by omega)]
        exact headN_lt ht (List.getElem?_eq_getElem (by omega))
      · by_cases h2 : t < ns.length
        · rw [dif_pos h2]
          exact headN_ge hR ht (List.getElem?_eq_getElem h2)
        · rw [dif_neg h2]
    rw [hgo]
    have hdec : decide (headN ns g < ns.length ∧ (if h : headN ns g < ns.length then str ns[headN ns g] else str g) = str g) = decide (g ∈ ns) := by
     rw [decide_eq_decide, ← found_iff hR g]
     constructor
     · rintro ⟨h1, h2⟩
       rw [dif_pos h1] at h2
       refine ⟨h1, ?_⟩
       rw [List.getElem?_eq_getElem h1]
       have := congrArg ByteArray.toList h2
       rw [str_toList, str_toList] at this
       rw [this]
     · rintro ⟨h1, h2⟩
       refine ⟨h1, ?_⟩
       rw [dif_pos h1]
       rw [List.getElem?_eq_getElem h1] at h2
       injection h2 with h2
       rw [h2]
    rw [hdec]
    exact ⟨⟨_, rfl⟩, below_drewN (Below.refl _ _) q⟩
def Twice (l : List (List UInt8)) : Prop := ∃ i s, l[i]? = some s ∧ l[i + 1]? = some s
theorem StIn.at {w : World} {a : Option Addr} {l : List (List UInt8)} (h : StIn w a l) {i : Nat} {s : List UInt8} (hi : l[i]? = some s) : ∃ g o, a = some ⟨g, o, none⟩ ∧ g < w.heap.size ∧ ∀ (i : Nat) (s : List UInt8), l[i]? = some s → w.cell? ⟨g, o + i, none⟩ = some (.string (str s)) := by
  rcases h with h0 | h
  · subst h0; simp at hi
  · exact h
set_option maxHeartbeats 4000000 in
theorem hasTwice_any (a : Option Addr) (c : Nat) (l : List (List UInt8)) (hl : l.length ≤ 9000000) (w : World) (hS : StIn w a l) :
    Calls Tryz.prog 62 #[.slice a l.length c] w fun e w' => (∃ bv, e = .returned (.bool bv) ∧ (bv = true ↔ Twice l)) ∧ Below w.heap.size w w' := by
  obtain ⟨n0, hn0⟩ : ∃ n0, n0 = l.length := ⟨_, rfl⟩
  rw [← hn0]
  rw [← hn0] at hl
  replace hn0 := Hid.intro hn0
  have hSH := Hid.intro hS
  clear hS
  go_enter Tryz.func62, Tryz.ntmps62
  go_wp2
  all_goals first | omega | skip
  go_loopw [3] (fun v3 wr => ∃ i : Nat, 1 ≤ i ∧ (i ≤ n0 ∨ i = 1) ∧ v3 = .int .i64 (i : Int) ∧ Hid (∀ j s, j + 1 < i → l[j]? = some s → l[j + 1]? ≠ some s) ∧ Hid (Below w.heap.size w wr)) (fun v3 wr => n0 - (intOf v3).toNat)
  case atStart => exact ⟨1, by omega, .inr rfl, rfl, fun j s hj => by omega, Below.refl _ _⟩
  case round =>
    obtain ⟨i, hi1, hi, rfl, hall, hB⟩ := hrel
    by_cases hlt : i < n0
    · obtain ⟨x, hx⟩ : ∃ x, l[i]? = some x := ⟨l[i]'(by rw [← hn0.out]; exact hlt), List.getElem?_eq_getElem _⟩
      obtain ⟨y, hy⟩ : ∃ y, l[i - 1]? = some y := ⟨l[i - 1]'(by rw [← hn0.out]; omega), List.getElem?_eq_getElem _⟩
      obtain ⟨g, o, rfl, hg, hat⟩ := (hSH.out.below hB.out).at hx
      have c0 := hat i x hx
      have c1 := hat (i - 1) y hy
      have hlt2 : (i : Int) < (n0 : Int) := by omega
      have q1 : IntKind.i64.wrap ((i : Int) - 1) = ((i - 1 : Nat) : Int) := by rw [IntKind.wrap_i64]; omega
      have z1 : ((i - 1 : Nat) : Int) < (n0 : Int) := by omega
      have hxH := Hid.intro hx
      have hyH := Hid.intro hy
      have z0 : (0 : Int) ≤ (i : Int) := by omega
      have z2 : (0 : Int) ≤ ((i - 1 : Nat) : Int) := by omega
      have q2 : (i : Int) - 1 = ((i - 1 : Nat) : Int) := by omega
      clear hat hx hy
      obtain ⟨i1, hi1d⟩ : ∃ i1, i1 = i - 1 := ⟨_, rfl⟩
      rw [← hi1d] at c1 q1 z1 z2 q2 hyH
      replace hi1d := Hid.intro hi1d
      by_cases he : x = y
      · have e1 : ((str x).toList == (str y).toList) = true := by rw [he]; simp
        have htw : Hid (Twice l) := by
          refine ⟨i1, y, hyH.out, ?_⟩
          rw [show i1 + 1 = i by rw [hi1d.out]; omega, hxH.out, he]
        clear he
        go_wp2
        all_goals first | omega | skip
        go_quiet (fail)
        all_goals first | omega | skip
        go_wp2
        all_goals first | omega | skip
        go_ret
        exact ⟨⟨true, rfl, by simp [htw.out]⟩, below_drewN hB.out nq⟩
      · have e1 : ((str x).toList == (str y).toList) = false := by rw [str_toList, str_toList]; exact beq_false_of_ne he
        have hnext : Hid (∀ j s, j + 1 < i + 1 → l[j]? = some s → l[j + 1]? ≠ some s) := fun j s hj h1 h2 => by
          rcases Nat.lt_or_ge (j + 1) i with h3 | h3
          · exact hall.out j s h3 h1 h2
          · have e2 : j = i1 := by have := hi1d.out; omega
            subst e2
            rw [hyH.out] at h1
            cases h1
            rw [show j + 1 = i by omega, hxH.out] at h2
            cases h2
            exact he rfl
        clear he
        go_wp2
        all_goals first | omega | skip
        go_quiet (fail)
        all_goals first | omega | skip
        go_wp2
        all_goals first | omega | skip
        go_roundw
        case rel => exact ⟨i + 1, by omega, .inl (by omega), by go_num, hnext, below_drewN hB.out nq⟩
        case measure => simp [intOf]; omega
    · have hlt3 : ¬ ((i : Int) < (n0 : Int)) := by omega
      have hno : Hid (¬ Twice l) := fun ⟨j, s, h1, h2⟩ => by
        have := (List.getElem?_eq_some_iff.1 h2).1
        have h3 := hn0.out
        exact hall.out j s (by omega) h1 h2
      go_wp2
      all_goals first | omega | skip
      go_ret
      exact ⟨.inl ⟨rfl, hno.out⟩, hB.out⟩
def GlobOk (gs ns : List (List UInt8)) : Prop := (∀ i p g, gs[i]? = some p → gs[i + 1]? = some g → nlt p g = true) ∧ ∀ g ∈ gs, g ∈ ns
def BOut (e : Ending) (P : Prop) : Prop := ∃ bv, e = .returned (.bool bv) ∧ (bv = true ↔ P)
set_option maxHeartbeats 4000000 in
theorem rightGlobals_any (a : Option Addr) (c : Nat) (gs : List (List UInt8)) (b : Option Addr) (d : Nat) (ns : List (List UInt8)) (hl : gs.length ≤ 9000000) (hn : ns.length ≤ 9000000) (hR : Rise ns) (w : World) (hS : StIn w a gs) (hN : StIn w b ns) :
    Calls Tryz.prog 63 #[.slice a gs.length c, .slice b ns.length d] w fun e w' => BOut e (GlobOk gs ns) ∧ Below w.heap.size w w' := by
  obtain ⟨n0, hn0⟩ : ∃ n0, n0 = gs.length := ⟨_, rfl⟩
  obtain ⟨m0, hm0⟩ : ∃ m0, m0 = ns.length := ⟨_, rfl⟩
  have hsr := Hid.intro (fun g w1 (hb : Below w.heap.size w w1) => search_any b d ns g hn hR w1 (hN.below hb))
  rw [← hn0, ← hm0]
  rw [← hn0] at hl
  rw [← hm0] at hsr
  replace hn0 := Hid.intro hn0
  replace hm0 := Hid.intro hm0
  have hSH := Hid.intro hS
  clear hS hN hR hn
  go_enter Tryz.func63, Tryz.ntmps63
  go_wp2
  all_goals first | omega | skip
  go_loopw [11] (fun v11 wr => ∃ i : Nat, i ≤ n0 ∧ v11 = .int .i64 (i : Int) ∧ Hid ((∀ j p g, j + 1 < i → gs[j]? = some p → gs[j + 1]? = some g → nlt p g = true) ∧ ∀ j g, j < i → gs[j]? = some g → g ∈ ns) ∧ Hid (Below w.heap.size w wr)) (fun v11 wr => n0 - (intOf v11).toNat)
  case atStart => exact ⟨0, by omega, rfl, ⟨fun j p g hj => by omega, fun j g hj => by omega⟩, Below.refl _ _⟩
  case round =>
    obtain ⟨i, hi, rfl, hall, hB⟩ := hrel
    by_cases hlt : i < n0
    · obtain ⟨x, hx⟩ : ∃ x, gs[i]? = some x := ⟨gs[i]'(by rw [← hn0.out]; exact hlt), List.getElem?_eq_getElem _⟩
      obtain ⟨g, o, rfl, hg, hat⟩ := (hSH.out.below hB.out).at hx
      have c0 := hat i x hx
      have hlt2 : (i : Int) < (n0 : Int) := by omega
      have hxH := Hid.intro hx
      have hse := Hid.intro (hsr.out x wr hB.out)
      have hmem : Hid (decide (x ∈ ns) = false → ¬ GlobOk gs ns) := fun h h2 => by
        have := h2.2 x (List.mem_of_getElem? hxH.out)
        simp [this] at h
      have hno : Hid (∀ j p, j + 1 = i → gs[j]? = some p → nlt p x = false → ¬ GlobOk gs ns) := fun j p hj hp hf h2 => by
        have := h2.1 j p x hp (by rw [hj]; exact hxH.out)
        rw [hf] at this
        cases this
      have hnext : Hid (decide (x ∈ ns) = true → (∀ j p, j + 1 = i → gs[j]? = some p → nlt p x = true) → (∀ j p g, j + 1 < i + 1 → gs[j]? = some p → gs[j + 1]? = some g → nlt p g = true) ∧ ∀ j g, j < i + 1 → gs[j]? = some g → g ∈ ns) := fun h1 h2 => by
        refine ⟨fun j p g hj hp hg => ?_, fun j g hj hg => ?_⟩
        · rcases Nat.lt_or_ge (j + 1) i with h3 | h3
          · exact hall.out.1 j p g h3 hp hg
          · have e : j + 1 = i := by omega
            rw [e, hxH.out] at hg
            cases hg
            exact h2 j p e hp
        · rcases Nat.lt_or_ge j i with h3 | h3
          · exact hall.out.2 j g h3 hg
          · obtain rfl : j = i := by omega
            rw [hxH.out] at hg
            cases hg
            simpa using h1
      generalize decide (x ∈ ns) = fd at hse hmem hnext
      by_cases hi0 : i = 0
      · subst hi0
        rw [Nat.add_zero] at c0
        have hn2 : Hid (∀ j p, j + 1 = 0 → gs[j]? = some p → nlt p x = true) := fun j p hj => by omega
        clear hat hx
        cases fd with
        | true =>
          go_wp2_with (go_at_call 106; (with_reducible refine (hse.out).mono ?_); rintro e w1 ⟨⟨kk, rfl⟩, hb1⟩)
          all_goals first | omega | skip
          go_roundw
          case rel => exact ⟨1, by omega, by go_num, hnext.out (by simp) hn2.out, hB.out.trans (hb1.mono hB.out.size)⟩
          case measure => simp [intOf]; omega
        | false =>
          go_wp2_with (go_at_call 106; (with_reducible refine (hse.out).mono ?_); rintro e w1 ⟨⟨kk, rfl⟩, hb1⟩)
          all_goals first | omega | skip
          go_ret
          exact ⟨⟨false, rfl, by simp [hmem.out (by simp)]⟩, hB.out.trans (hb1.mono hB.out.size)⟩
      · obtain ⟨i1, hi1⟩ : ∃ i1, i1 + 1 = i := ⟨i - 1, by omega⟩
        obtain ⟨y, hy⟩ : ∃ y, gs[i1]? = some y := ⟨gs[i1]'(by rw [← hn0.out]; omega), List.getElem?_eq_getElem _⟩
        have c1 := hat i1 y hy
        have hyH := Hid.intro hy
        have hcmp := leq_nlt y x
        have z1 : ((i1 : Nat) : Int) < (n0 : Int) := by omega
        have p1 : decide ((0 : Int) < (i : Int)) = true := by simp; omega
        have q2 : (i : Int) - 1 = (i1 : Int) := by omega
        have q1 : wrap64 ((i : Int) - 1) = (i1 : Int) := by rw [q2]; unfold wrap64; omega
        have hi1H := Hid.intro hi1
        clear hat hx hy hi1 hi0
        have hn2 : Hid (nlt y x = true → ∀ j p, j + 1 = i → gs[j]? = some p → nlt p x = true) := fun h j p hj hp => by
          obtain rfl : j = i1 := by have := hi1H.out; omega
          rw [hyH.out] at hp
          cases hp
          exact h
        cases hn : nlt y x with
        | false =>
          rw [hn] at hcmp
          have e1 : (Op.bytesLess (str x).toList (str y).toList || (str x).toList == (str y).toList) = true := by rw [str_toList, str_toList]; exact hcmp
          have hbad : Hid (¬ GlobOk gs ns) := hno.out i1 y hi1H.out hyH.out hn
          clear hcmp hn
          go_wp2
          all_goals first | omega | skip
          go_ret
          exact ⟨⟨false, rfl, by simp [hbad.out]⟩, hB.out⟩
        | true =>
          rw [hn] at hcmp
          have e1 : (Op.bytesLess (str x).toList (str y).toList || (str x).toList == (str y).toList) = false := by rw [str_toList, str_toList]; exact hcmp
          replace hn2 : Hid (∀ j p, j + 1 = i → gs[j]? = some p → nlt p x = true) := hn2.out hn
          clear hcmp hn
          cases fd with
          | true =>
            go_wp2_with (go_at_call 106; (with_reducible refine (hse.out).mono ?_); rintro e w1 ⟨⟨kk, rfl⟩, hb1⟩)
            all_goals first | omega | skip
            go_roundw
            case rel => exact ⟨i + 1, by omega, by go_num, hnext.out (by simp) hn2.out, hB.out.trans (hb1.mono hB.out.size)⟩
            case measure => simp [intOf]; omega
          | false =>
            go_wp2_with (go_at_call 106; (with_reducible refine (hse.out).mono ?_); rintro e w1 ⟨⟨kk, rfl⟩, hb1⟩)
            all_goals first | omega | skip
            go_ret
            exact ⟨⟨false, rfl, by simp [hmem.out (by simp)]⟩, hB.out.trans (hb1.mono hB.out.size)⟩
    · have hlt3 : ¬ ((i : Int) < (n0 : Int)) := by omega
      have hyes : Hid (GlobOk gs ns) := by
        have h3 := hn0.out
        refine ⟨fun j p g hp hg => hall.out.1 j p g (by have := (List.getElem?_eq_some_iff.1 hg).1; omega) hp hg, fun g hg => ?_⟩
        obtain ⟨j, hj⟩ := List.mem_iff_getElem?.1 hg
        exact hall.out.2 j g (by have := (List.getElem?_eq_some_iff.1 hj).1; omega) hj
      go_wp2
      all_goals first | omega | skip
      go_ret
      exact ⟨⟨true, rfl, by simp [hyes.out]⟩, hB.out⟩
end Go.Proofs.YtmndccbeddaphaaGreatDoor
namespace Go.Proofs.YtmndccbeddaphaaGreatDoor
open Go.ChangeShapes Go.WideShapes Go.ChangeAt Go.RowKit Go.Sort
set_option linter.unusedVariables false
set_option maxRecDepth 100000
structure RightU (u : UVal) : Prop where
  text : (u.text.all fun x => okI x 0) = true
  data : (u.data.all fun x => okI x 1) = true
  equs : u.equs.all okE = true
  once : ¬ Twice (sortS u.names)
  globs : GlobOk u.globs (sortS u.names)
def RightN (u : UVal) (n : Int) : Prop := (8192 < u.text.length + u.data.length ∨ 8192 < u.equs.length) ∧ n = 4 ∨ ¬ (8192 < u.text.length + u.data.length ∨ 8192 < u.equs.length) ∧ (RightU u ∧ n = 0 ∨ ¬ RightU u ∧ n = 31)
set_option maxHeartbeats 8000000 in
theorem unitRight_any (ta : Option Addr) (tc : Nat) (da : Option Addr) (dc : Nat) (ea : Option Addr) (ec : Nat) (ga : Option Addr) (gc : Nat) (u : UVal) (hu : HeldU u) (w : World) (hT : Tab w) (hI : UnitIn w ta da ea ga u) :
    Calls Tryz.prog 27 #[.agg (unitV ta tc da dc ea ec ga gc u)] w fun e w' => (∃ n : Int, e = .returned (.int .i64 n) ∧ RightN u n) ∧ Below w.heap.size w w' := by
  have hB0 : Below w.heap.size w (w.alloc (.cells (unitV ta tc da dc ea ec ga gc u) 30)) := below_alloc w _
  have hbx := heap_alloc_new w (.cells (unitV ta tc da dc ea ec ga gc u) 30)
  have hws : (w.alloc (.cells (unitV ta tc da dc ea ec ga gc u) 30)).heap.size = w.heap.size + 1 := by simp
  have hcells : Hid (∀ w1, Below (w.alloc (.cells (unitV ta tc da dc ea ec ga gc u) 30)).heap.size (w.alloc (.cells (unitV ta tc da dc ea ec ga gc u) 30)) w1 → w1.cell? ⟨w.heap.size, 0, none⟩ = some (.slice ta u.text.length tc) ∧ w1.cell? ⟨w.heap.size, 1, none⟩ = some (.slice da u.data.length dc) ∧ w1.cell? ⟨w.heap.size, 2, none⟩ = some (.slice ea u.equs.length ec) ∧ w1.cell? ⟨w.heap.size, 3, none⟩ = some (.slice ga u.globs.length gc)) := fun w1 h1 => four_read ((h1.block w.heap.size (by omega)).trans hbx)
  obtain ⟨c0, c1, c2, c3⟩ := four_read hbx
  have hI0 := Hid.intro (hI.below hB0)
  have hT0 := Hid.intro (hT.alloc (.cells (unitV ta tc da dc ea ec ga gc u) 30))
  have hh1 := hu.text.1
  have hh2 := hu.data.1
  have hh3 := hu.equs.1
  have q1 : wrap64 ((u.text.length : Int) + (u.data.length : Int)) = (u.text.length : Int) + (u.data.length : Int) := by unfold wrap64; omega
  have hB0H := Hid.intro hB0
  clear hbx hB0 hT
  by_cases hm1 : 8192 < u.text.length + u.data.length
  · have p1 : decide ((8192 : Int) < (u.text.length : Int) + (u.data.length : Int)) = true := by simp; omega
    go_enter Tryz.func27, Tryz.ntmps27
    go_wp2
    all_goals first | omega | skip
    go_ret
    exact ⟨⟨4, rfl, .inl ⟨.inl hm1, rfl⟩⟩, hB0H.out⟩
  have p1 : decide ((8192 : Int) < (u.text.length : Int) + (u.data.length : Int)) = false := by simp; omega
  by_cases hm2 : 8192 < u.equs.length
  · have p2 : decide ((8192 : Int) < (u.equs.length : Int)) = true := by simp; omega
    go_enter Tryz.func27, Tryz.ntmps27
    go_wp2
    all_goals first | omega | skip
    go_ret
    exact ⟨⟨4, rfl, .inl ⟨.inr hm2, rfl⟩⟩, hB0H.out⟩
  have p2 : decide ((8192 : Int) < (u.equs.length : Int)) = false := by simp; omega
  have hno : Hid (¬ (8192 < u.text.length + u.data.length ∨ 8192 < u.equs.length)) := by rintro (h | h); exact hm1 h; exact hm2 h
  have r1 := Hid.intro (rightItems_any ta tc u.text 0 (.inl rfl) hu.text.1 hu.text.2 _ hT0.out hI0.out.text)
  have r2 := Hid.intro (fun w1 (hb : Below (w.alloc (.cells (unitV ta tc da dc ea ec ga gc u) 30)).heap.size (w.alloc (.cells (unitV ta tc da dc ea ec ga gc u) 30)) w1) => rightItems_any da dc u.data 1 (.inr rfl) hu.data.1 hu.data.2 w1 (hT0.out.below hb hT0.out.size) (hI0.out.data.below hb))
  have r3 := Hid.intro (fun w1 (hb : Below (w.alloc (.cells (unitV ta tc da dc ea ec ga gc u) 30)).heap.size (w.alloc (.cells (unitV ta tc da dc ea ec ga gc u) 30)) w1) => rightEqus_any ea ec u.equs hu.equs.1 hu.equs.2 w1 (hI0.out.equs.below hb))
  have r4 := Hid.intro (fun w1 (hb : Below (w.alloc (.cells (unitV ta tc da dc ea ec ga gc u) 30)).heap.size (w.alloc (.cells (unitV ta tc da dc ea ec ga gc u) 30)) w1) => sortedNames_any ta tc da dc ea ec ga gc u hu w1 (hI0.out.below hb))
  have hnl : (sortS u.names).length ≤ 9000000 := by
    rw [sortS_len]
    have h1 := labN_len u.text
    have h2 := labN_len u.data
    unfold UVal.names
    simp
    omega
  have r5 := Hid.intro (fun a' c' w1 lo (ho : w1.ownsRow lo 9 1 (.slice a' (sortS u.names).length c') (sortS u.names).length ((sortS u.names).map encStr)) => hasTwice_any a' c' (sortS u.names) hnl w1 (own_stIn ho))
  have hg9 : u.globs.length ≤ 9000000 := by have := hu.globs; omega
  have r6 := Hid.intro (fun a' c' w2 (hb : Below (w.alloc (.cells (unitV ta tc da dc ea ec ga gc u) 30)).heap.size (w.alloc (.cells (unitV ta tc da dc ea ec ga gc u) 30)) w2) (hS : StIn w2 a' (sortS u.names)) => rightGlobals_any ga gc u.globs a' c' (sortS u.names) hg9 hnl (sortS_rise _) w2 (hI0.out.globs.below hb) hS)
  clear hm1 hm2 hI hu hnl hg9
  cases hTb : u.text.all fun x => okI x 0 with
  | false =>
    rw [hTb] at r1
    have hbad : Hid (¬ RightU u) := fun h => by have := h.text; rw [hTb] at this; cases this
    clear hTb
    go_enter Tryz.func27, Tryz.ntmps27
    go_wp2_with (first | (go_at_call 59; (with_reducible refine (r1.out).mono ?_); rintro e w1 ⟨rfl, hb1⟩; have hB1 := Hid.intro hb1; obtain ⟨x10, x11, x12, x13⟩ := hcells.out w1 hB1.out; clear hb1))
    all_goals first | omega | skip
    go_ret
    exact ⟨⟨31, rfl, .inr ⟨hno.out, .inr ⟨hbad.out, rfl⟩⟩⟩, hB0H.out.trans (hB1.out.mono hB0H.out.size)⟩
  | true =>
  rw [hTb] at r1
  cases hDb : u.data.all fun x => okI x 1 with
  | false =>
    rw [hDb] at r2
    have hbad : Hid (¬ RightU u) := fun h => by have := h.data; rw [hDb] at this; cases this
    clear hTb hDb
    go_enter Tryz.func27, Tryz.ntmps27
    go_wp2_with (first | (go_at_call 59; (with_reducible refine (r1.out).mono ?_); rintro e w1 ⟨rfl, hb1⟩; have hB1 := Hid.intro hb1; obtain ⟨x10, x11, x12, x13⟩ := hcells.out w1 hB1.out; clear hb1) | (go_at_call 59; (with_reducible refine (r2.out w1 hB1.out).mono ?_); rintro e w2 ⟨rfl, hb2⟩; have hB2 := Hid.intro (hB1.out.trans (hb2.mono hB1.out.size)); obtain ⟨x20, x21, x22, x23⟩ := hcells.out w2 hB2.out; clear hb2))
    all_goals first | omega | skip
    go_ret
    exact ⟨⟨31, rfl, .inr ⟨hno.out, .inr ⟨hbad.out, rfl⟩⟩⟩, hB0H.out.trans (hB2.out.mono hB0H.out.size)⟩
  | true =>
  rw [hDb] at r2
  cases hEb : u.equs.all okE with
  | false =>
    rw [hEb] at r3
    have hbad : Hid (¬ RightU u) := fun h => by have := h.equs; rw [hEb] at this; cases this
    clear hTb hDb hEb
    go_enter Tryz.func27, Tryz.ntmps27
    go_wp2_with (first | (go_at_call 59; (with_reducible refine (r1.out).mono ?_); rintro e w1 ⟨rfl, hb1⟩; have hB1 := Hid.intro hb1; obtain ⟨x10, x11, x12, x13⟩ := hcells.out w1 hB1.out; clear hb1) | (go_at_call 59; (with_reducible refine (r2.out w1 hB1.out).mono ?_); rintro e w2 ⟨rfl, hb2⟩; have hB2 := Hid.intro (hB1.out.trans (hb2.mono hB1.out.size)); obtain ⟨x20, x21, x22, x23⟩ := hcells.out w2 hB2.out; clear hb2) | (go_at_call 60; (with_reducible refine (r3.out w2 hB2.out).mono ?_); rintro e w3 ⟨rfl, hb3⟩; have hB3 := Hid.intro (hB2.out.trans (hb3.mono hB2.out.size)); obtain ⟨x30, x31, x32, x33⟩ := hcells.out w3 hB3.out; clear hb3))
    all_goals first | omega | skip
    go_ret
    exact ⟨⟨31, rfl, .inr ⟨hno.out, .inr ⟨hbad.out, rfl⟩⟩⟩, hB0H.out.trans (hB3.out.mono hB0H.out.size)⟩
  | true =>
  rw [hEb] at r3
  by_cases hTw : Twice (sortS u.names)
  · have hbad : Hid (¬ RightU u) := fun h => h.once hTw
    replace r5 : Hid (∀ a' c' w1 lo, w1.ownsRow lo 9 1 (.slice a' (sortS u.names).length c') (sortS u.names).length ((sortS u.names).map encStr) → Calls Tryz.prog 62 #[.slice a' (sortS u.names).length c'] w1 fun e w' => e = .returned (.bool true) ∧ Below w1.heap.size w1 w') := fun a' c' w1 lo ho => (r5.out a' c' w1 lo ho).mono fun e w' ⟨⟨bv, h1, h2⟩, h3⟩ => ⟨by rw [h1, show bv = true from h2.2 hTw], h3⟩
    clear hTb hDb hEb hTw
    go_enter Tryz.func27, Tryz.ntmps27
    go_wp2_with (first | (go_at_call 59; (with_reducible refine (r1.out).mono ?_); rintro e w1 ⟨rfl, hb1⟩; have hB1 := Hid.intro hb1; obtain ⟨x10, x11, x12, x13⟩ := hcells.out w1 hB1.out; clear hb1) | (go_at_call 59; (with_reducible refine (r2.out w1 hB1.out).mono ?_); rintro e w2 ⟨rfl, hb2⟩; have hB2 := Hid.intro (hB1.out.trans (hb2.mono hB1.out.size)); obtain ⟨x20, x21, x22, x23⟩ := hcells.out w2 hB2.out; clear hb2) | (go_at_call 60; (with_reducible refine (r3.out w2 hB2.out).mono ?_); rintro e w3 ⟨rfl, hb3⟩; have hB3 := Hid.intro (hB2.out.trans (hb3.mono hB2.out.size)); obtain ⟨x30, x31, x32, x33⟩ := hcells.out w3 hB3.out; clear hb3) | (go_at_call 61; (with_reducible refine (r4.out w3 hB3.out).mono ?_); rintro e w4 ⟨a4, c4, rfl, hN4⟩; have hB4 := Hid.intro (hB3.out.trans (hN4.bel.mono hB3.out.size)); obtain ⟨x40, x41, x42, x43⟩ := hcells.out w4 hB4.out; replace hN4 := Hid.intro hN4) | (go_at_call 62; (with_reducible refine (r5.out a4 c4 w4 _ hN4.out.own).mono ?_); rintro e w5 ⟨rfl, hb5⟩; have hB5 := Hid.intro (hB4.out.trans (hb5.mono hB4.out.size)); obtain ⟨x50, x51, x52, x53⟩ := hcells.out w5 hB5.out; have hS5 := Hid.intro ((own_stIn hN4.out.own).below hb5); clear hb5))
    all_goals first | omega | skip
    go_ret
    exact ⟨⟨31, rfl, .inr ⟨hno.out, .inr ⟨hbad.out, rfl⟩⟩⟩, hB0H.out.trans (hB5.out.mono hB0H.out.size)⟩
  replace r5 : Hid (∀ a' c' w1 lo, w1.ownsRow lo 9 1 (.slice a' (sortS u.names).length c') (sortS u.names).length ((sortS u.names).map encStr) → Calls Tryz.prog 62 #[.slice a' (sortS u.names).length c'] w1 fun e w' => e = .returned (.bool false) ∧ Below w1.heap.size w1 w') := fun a' c' w1 lo ho => (r5.out a' c' w1 lo ho).mono fun e w' ⟨⟨bv, h1, h2⟩, h3⟩ => ⟨by rw [h1, show bv = false from Bool.eq_false_iff.2 fun h => hTw (h2.1 h)], h3⟩
  by_cases hGl : GlobOk u.globs (sortS u.names)
  · have hgood : Hid (RightU u) := ⟨hTb, hDb, hEb, hTw, hGl⟩
    replace r6 : Hid (∀ a' c' w2, Below (w.alloc (.cells (unitV ta tc da dc ea ec ga gc u) 30)).heap.size (w.alloc (.cells (unitV ta tc da dc ea ec ga gc u) 30)) w2 → StIn w2 a' (sortS u.names) → Calls Tryz.prog 63 #[.slice ga u.globs.length gc, .slice a' (sortS u.names).length c'] w2 fun e w' => e = .returned (.bool true) ∧ Below w2.heap.size w2 w') := fun a' c' w2 hb hS => (r6.out a' c' w2 hb hS).mono fun e w' ⟨⟨bv, h1, h2⟩, h3⟩ => ⟨by rw [h1, show bv = true from h2.2 hGl], h3⟩
    clear hTb hDb hEb hTw hGl
    go_enter Tryz.func27, Tryz.ntmps27
    go_wp2_with (first | (go_at_call 59; (with_reducible refine (r1.out).mono ?_); rintro e w1 ⟨rfl, hb1⟩; have hB1 := Hid.intro hb1; obtain ⟨x10, x11, x12, x13⟩ := hcells.out w1 hB1.out; clear hb1) | (go_at_call 59; (with_reducible refine (r2.out w1 hB1.out).mono ?_); rintro e w2 ⟨rfl, hb2⟩; have hB2 := Hid.intro (hB1.out.trans (hb2.mono hB1.out.size)); obtain ⟨x20, x21, x22, x23⟩ := hcells.out w2 hB2.out; clear hb2) | (go_at_call 60; (with_reducible refine (r3.out w2 hB2.out).mono ?_); rintro e w3 ⟨rfl, hb3⟩; have hB3 := Hid.intro (hB2.out.trans (hb3.mono hB2.out.size)); obtain ⟨x30, x31, x32, x33⟩ := hcells.out w3 hB3.out; clear hb3) | (go_at_call 61; (with_reducible refine (r4.out w3 hB3.out).mono ?_); rintro e w4 ⟨a4, c4, rfl, hN4⟩; have hB4 := Hid.intro (hB3.out.trans (hN4.bel.mono hB3.out.size)); obtain ⟨x40, x41, x42, x43⟩ := hcells.out w4 hB4.out; replace hN4 := Hid.intro hN4) | (go_at_call 62; (with_reducible refine (r5.out a4 c4 w4 _ hN4.out.own).mono ?_); rintro e w5 ⟨rfl, hb5⟩; have hB5 := Hid.intro (hB4.out.trans (hb5.mono hB4.out.size)); obtain ⟨x50, x51, x52, x53⟩ := hcells.out w5 hB5.out; have hS5 := Hid.intro ((own_stIn hN4.out.own).below hb5); clear hb5) | (go_at_call 63; (with_reducible refine (r6.out a4 c4 w5 hB5.out hS5.out).mono ?_); rintro e w6 ⟨rfl, hb6⟩; have hB6 := Hid.intro (hB5.out.trans (hb6.mono hB5.out.size)); clear hb6))
    all_goals first | omega | skip
    go_ret
    exact ⟨⟨0, rfl, .inr ⟨hno.out, .inl ⟨hgood.out, rfl⟩⟩⟩, hB0H.out.trans (hB6.out.mono hB0H.out.size)⟩
  · have hbad : Hid (¬ RightU u) := fun h => hGl h.globs
    replace r6 : Hid (∀ a' c' w2, Below (w.alloc (.cells (unitV ta tc da dc ea ec ga gc u) 30)).heap.size (w.alloc (.cells (unitV ta tc da dc ea ec ga gc u) 30)) w2 → StIn w2 a' (sortS u.names) → Calls Tryz.prog 63 #[.slice ga u.globs.length gc, .slice a' (sortS u.names).length c'] w2 fun e w' => e = .returned (.bool false) ∧ Below w2.heap.size w2 w') := fun a' c' w2 hb hS => (r6.out a' c' w2 hb hS).mono fun e w' ⟨⟨bv, h1, h2⟩, h3⟩ => ⟨by rw [h1, show bv = false from Bool.eq_false_iff.2 fun h => hGl (h2.1 h)], h3⟩
    clear hTb hDb hEb hTw hGl
    go_enter Tryz.func27, Tryz.ntmps27
    go_wp2_with (first | (go_at_call 59; (with_reducible refine (r1.out).mono ?_); rintro e w1 ⟨rfl, hb1⟩; have hB1 := Hid.intro hb1; obtain ⟨x10, x11, x12, x13⟩ := hcells.out w1 hB1.out; clear hb1) | (go_at_call 59; (with_reducible refine (r2.out w1 hB1.out).mono ?_); rintro e w2 ⟨rfl, hb2⟩; have hB2 := Hid.intro (hB1.out.trans (hb2.mono hB1.out.size)); obtain ⟨x20, x21, x22, x23⟩ := hcells.out w2 hB2.out; clear hb2) | (go_at_call 60; (with_reducible refine (r3.out w2 hB2.out).mono ?_); rintro e w3 ⟨rfl, hb3⟩; have hB3 := Hid.intro (hB2.out.trans (hb3.mono hB2.out.size)); obtain ⟨x30, x31, x32, x33⟩ := hcells.out w3 hB3.out; clear hb3) | (go_at_call 61; (with_reducible refine (r4.out w3 hB3.out).mono ?_); rintro e w4 ⟨a4, c4, rfl, hN4⟩; have hB4 := Hid.intro (hB3.out.trans (hN4.bel.mono hB3.out.size)); obtain ⟨x40, x41, x42, x43⟩ := hcells.out w4 hB4.out; replace hN4 := Hid.intro hN4) | (go_at_call 62; (with_reducible refine (r5.out a4 c4 w4 _ hN4.out.own).mono ?_); rintro e w5 ⟨rfl, hb5⟩; have hB5 := Hid.intro (hB4.out.trans (hb5.mono hB4.out.size)); obtain ⟨x50, x51, x52, x53⟩ := hcells.out w5 hB5.out; have hS5 := Hid.intro ((own_stIn hN4.out.own).below hb5); clear hb5) | (go_at_call 63; (with_reducible refine (r6.out a4 c4 w5 hB5.out hS5.out).mono ?_); rintro e w6 ⟨rfl, hb6⟩; have hB6 := Hid.intro (hB5.out.trans (hb6.mono hB5.out.size)); clear hb6))
    all_goals first | omega | skip
    go_ret
    exact ⟨⟨31, rfl, .inr ⟨hno.out, .inr ⟨hbad.out, rfl⟩⟩⟩, hB0H.out.trans (hB6.out.mono hB0H.out.size)⟩
theorem rightN_one {u : UVal} {n m : Int} (h : RightN u n) (h' : RightN u m) : n = m := by
  unfold RightN at h h'
  by_cases hc : 8192 < u.text.length + u.data.length ∨ 8192 < u.equs.length
  · rcases h with ⟨_, rfl⟩ | ⟨h1, _⟩
    · rcases h' with ⟨_, rfl⟩ | ⟨h1, _⟩
      · rfl
      · exact absurd hc h1
    · exact absurd hc h1
  · rcases h with ⟨h1, _⟩ | ⟨_, h⟩
    · exact absurd h1 hc
    · rcases h' with ⟨h1, _⟩ | ⟨_, h'⟩
      · exact absurd h1 hc
      · by_cases hr : RightU u
        · rcases h with ⟨_, rfl⟩ | ⟨h1, _⟩
          · rcases h' with ⟨_, rfl⟩ | ⟨h1, _⟩
            · rfl
            · exact absurd hr h1
          · exact absurd hr h1
        · rcases h with ⟨h1, _⟩ | ⟨_, rfl⟩
          · exact absurd h1 hr
          · rcases h' with ⟨h1, _⟩ | ⟨_, rfl⟩
            · exact absurd h1 hr
            · rfl
theorem unitRight_is (ta : Option Addr) (tc : Nat) (da : Option Addr) (dc : Nat) (ea : Option Addr) (ec : Nat) (ga : Option Addr) (gc : Nat) (u : UVal) (hu : HeldU u) (w : World) (hT : Tab w) (hI : UnitIn w ta da ea ga u) (n : Int) (hn : RightN u n) :
    Calls Tryz.prog 27 #[.agg (unitV ta tc da dc ea ec ga gc u)] w fun e w' => e = .returned (.int .i64 n) ∧ Below w.heap.size w w' :=
  (unitRight_any ta tc da dc ea ec ga gc u hu w hT hI).mono fun e w' ⟨⟨m, h1, h2⟩, h3⟩ => ⟨by rw [h1, rightN_one h2 hn], h3⟩
end Go.Proofs.YtmndccbeddaphaaGreatDoor
namespace Go.Proofs.YtmndccbeddaphaaGreatDoor.O
def leN : List Int → Int
  | [] => 0
  | z :: zs => z + 256 * leN zs
def AreBytes (zs : List Int) : Prop := ∀ z ∈ zs, 0 ≤ z ∧ z ≤ 255
theorem leN_bd : (zs : List Int) → AreBytes zs → 0 ≤ leN zs ∧ leN zs < 256 ^ zs.length
  | [], _ => by simp [leN]
  | z :: zs, h => by
    have ih := leN_bd zs (fun y hy => h y (by simp [hy]))
    have hz := h z (by simp)
    simp only [leN, List.length_cons]
    have e : (256 : Int) ^ (zs.length + 1) = 256 * 256 ^ zs.length := by rw [Int.pow_succ]; omega
    rw [e]
    omega
theorem leN_snoc : (zs : List Int) → (z : Int) → leN (zs ++ [z]) = leN zs + 256 ^ zs.length * z
  | [], z => by simp [leN]
  | y :: zs, z => by
    have ih := leN_snoc zs z
    have e : (256 : Int) ^ (zs.length + 1) = 256 * 256 ^ zs.length := by rw [Int.pow_succ]; omega
    simp only [leN, List.cons_append, List.length_cons, ih, e]
    rw [Int.mul_add, Int.mul_assoc]
    omega
theorem take_step (zs : List Int) (k j : Nat) (h : k + j < zs.length) : (zs.drop k).take (j + 1) = (zs.drop k).take j ++ [zs[k + j]?.getD 0] := by
  rw [List.take_succ_eq_append_getElem (by simp; omega)]
  simp [List.getElem?_eq_getElem h]
theorem or_step (x z : Int) (j : Nat) (hj : j ≤ 3) (hx0 : 0 ≤ x) (hx : x < 256 ^ j) (hz0 : 0 ≤ z) (hz : z ≤ 255) :
    bits .or .u32 x (z % 4294967296 * 2 ^ (8 * j) % 4294967296) = x + 256 ^ j * z := by
  obtain ⟨a, rfl⟩ : ∃ a : Nat, x = a := ⟨x.toNat, by omega⟩
  obtain ⟨c, rfl⟩ : ∃ c : Nat, z = c := ⟨z.toNat, by omega⟩
  have hp : (2 : Nat) ^ (8 * j) = 256 ^ j := by rw [Nat.pow_mul]
  have hpi : (2 : Int) ^ (8 * j) = 256 ^ j := by rw [Int.pow_mul]; rfl
  have hle : 256 ^ j ≤ 16777216 := by
    have : j = 0 ∨ j = 1 ∨ j = 2 ∨ j = 3 := by omega
    rcases this with rfl | rfl | rfl | rfl <;> decide
  have ha : a < 256 ^ j := by
    have : ((a : Nat) : Int) < ((256 ^ j : Nat) : Int) := by simpa using hx
    omega
  have hcp : c * 256 ^ j ≤ 255 * 16777216 := Nat.mul_le_mul (by omega) hle
  have e1 : ((c : Int) % 4294967296 * 2 ^ (8 * j) % 4294967296) = ((c * 256 ^ j : Nat) : Int) := by
    have hcm : (c : Int) % 4294967296 = c := by omega
    have hcc : (c : Int) * 256 ^ j = ((c * 256 ^ j : Nat) : Int) := by simp
    rw [hpi, hcm, hcc, Int.emod_eq_of_lt (by omega) (by omega)]
  rw [e1, u32_or_nat a (c * 256 ^ j) (by omega) (by omega)]
  have e2 : c * 256 ^ j = c <<< (8 * j) := by rw [Nat.shiftLeft_eq, hp]
  have e3 : a ||| c * 256 ^ j = c * 256 ^ j + a := by
    rw [Nat.or_comm, e2, ← Nat.shiftLeft_add_eq_or_of_lt (by rw [hp]; exact ha)]
  rw [e3]
  have : (256 : Int) ^ j * (c : Int) = ((c * 256 ^ j : Nat) : Int) := by simp [Int.mul_comm]
  rw [this]
  omega
theorem areBytes_take (zs : List Int) (h : AreBytes zs) (n : Nat) : AreBytes (zs.take n) := fun z hz => h z (List.mem_of_mem_take hz)
theorem areBytes_drop (zs : List Int) (h : AreBytes zs) (n : Nat) : AreBytes (zs.drop n) := fun z hz => h z (List.mem_of_mem_drop hz)
theorem areBytes_getD (zs : List Int) (h : AreBytes zs) (n : Nat) : 0 ≤ zs[n]?.getD 0 ∧ zs[n]?.getD 0 ≤ 255 := by
  rcases Nat.lt_or_ge n zs.length with hn | hn
  · rw [List.getElem?_eq_getElem hn]
    exact h _ (List.getElem_mem hn)
  · rw [List.getElem?_eq_none hn]
    decide
theorem leN_step (zs : List Int) (hz : AreBytes zs) (k j : Nat) (hj : j ≤ 3) (h : k + j < zs.length) :
    bits .or .u32 (leN ((zs.drop k).take j)) (zs[k + j]?.getD 0 % 4294967296 * 2 ^ (8 * j) % 4294967296) = leN ((zs.drop k).take (j + 1)) := by
  have hb := leN_bd ((zs.drop k).take j) (areBytes_take _ (areBytes_drop _ hz k) j)
  have hl : ((zs.drop k).take j).length = j := by simp; omega
  rw [hl] at hb
  have hg := areBytes_getD zs hz (k + j)
  rw [take_step zs k j h, leN_snoc, hl]
  exact or_step _ _ j hj hb.1 hb.2 hg.1 hg.2
def partN (zs : List Int) (a m : Nat) : Int := leN ((zs.drop a).take m)
theorem partN_down (zs : List Int) (hz : AreBytes zs) (k m : Nat) (hm : m ≤ 3) (h : k < zs.length) (hl : k + m < zs.length) :
    (partN zs (k + 1) m * 256 % 4294967296 + zs[k]?.getD 0 % 4294967296) % 4294967296 = partN zs k (m + 1) := by
  have hb := leN_bd ((zs.drop (k + 1)).take m) (areBytes_take _ (areBytes_drop _ hz (k + 1)) m)
  have hlen : ((zs.drop (k + 1)).take m).length = m := by simp; omega
  rw [hlen] at hb
  have hp : (256 : Int) ^ m ≤ 16777216 := by
    have : m = 0 ∨ m = 1 ∨ m = 2 ∨ m = 3 := by omega
    rcases this with rfl | rfl | rfl | rfl <;> decide
  have hg := areBytes_getD zs hz k
  have hd : zs.drop k = zs[k]?.getD 0 :: zs.drop (k + 1) := by
    rw [List.drop_eq_getElem_cons h, List.getElem?_eq_getElem h]
    rfl
  have e : partN zs k (m + 1) = zs[k]?.getD 0 + 256 * partN zs (k + 1) m := by
    simp only [partN]
    rw [hd, List.take_succ_cons, leN]
  have hb' : 0 ≤ partN zs (k + 1) m ∧ partN zs (k + 1) m < 16777216 := ⟨hb.1, Int.lt_of_lt_of_le hb.2 hp⟩
  rw [e]
  omega
end Go.Proofs.YtmndccbeddaphaaGreatDoor.O

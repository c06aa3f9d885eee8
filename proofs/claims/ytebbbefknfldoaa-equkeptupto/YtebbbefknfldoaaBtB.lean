/- A book of lists of terms, as a law walks it. -/
import Derived.Test.YtebbbefknfldoaaBtS
/- A book of lists of terms: Apart. -/
namespace Go.Proofs.Ytebbbefknfldoaa.Bk
open Go.ChangeShapes Go.WideShapes Go.ChangeAt Go.RowKit
set_option linter.unusedVariables false
set_option maxRecDepth 100000
theorem BR.kept5 {w w' : World} {B n1 n2 : Nat} {vs1 vs2 : List Value} {a1 a2 : Option Addr} {c1 c2 : Nat} {hd : Int} (h : BR w B vs1 vs2 n1 n2 a1 a2 c1 c2 hd)
    (hk : ∀ (k : Nat) (T : TypeId) (cur : Array Value), T ≠ 49 → w.heap[k]? = some (Obj.cells cur T (0, 0)) → w'.heap[k]? = w.heap[k]?) : BR w' B vs1 vs2 n1 n2 a1 a2 c1 c2 hd := by
  have ho : ∀ {a c vs}, Outer w (B + 1) a c vs → ∀ g, blk a = some g → w'.heap[g]? = w.heap[g]? := by
    intro a c vs h g hg
    rcases h.2 with ⟨rfl, _⟩ | ⟨G, off, cur, rfl, _, hh, _⟩
    · cases hg
    · simp [blk] at hg
      subst hg
      exact hk G 26 cur (by decide) hh
  exact ⟨by rw [hk B 61 _ (by decide) h.blkB]; exact h.blkB, h.l1, h.l2, h.o1.kept (ho h.o1), h.o2.kept (ho h.o2), h.ne⟩
def MarkAt (w : World) (g i j : Nat) : Prop := w.cell? ⟨g, i * 2, none⟩ = some (.string markS) ∧ w.cell? ⟨g, i * 2 + 1, none⟩ = some (.int .u32 (markN j i))
structure MS (w : World) (B : Nat) (es : List Ent) (G1 o1 G2 o2 c1 c2 : Nat) (hd : Int) (k : Nat) : Prop where
  br : BR w B (es.map Ent.val) (es.map Ent.wal) es.length es.length (some ⟨G1, o1, none⟩) (some ⟨G2, o2, none⟩) c1 c2 hd
  rows : ∀ e ∈ es, e.cap ≤ maxLen ∧ e.zs.length ≤ e.cap ∧ ((e.a = none ∧ e.cap = 0) ∨ ∃ g cur, e.a = some ⟨g, 0, none⟩ ∧ B < g ∧ w.heap[g]? = some (Obj.cells cur 49 (0, 0)) ∧ cur.size = e.cap * 2)
  marks : ∀ (j : Nat) (e : Ent) (g : Nat), es[j]? = some e → e.a = some ⟨g, 0, none⟩ → j < k → ∀ i, i < e.cap → MarkAt w g i j
  nd : ∀ (i j : Nat) (e1 e2 : Ent) (g : Nat), es[i]? = some e1 → es[j]? = some e2 → e1.a = some ⟨g, 0, none⟩ → e2.a = some ⟨g, 0, none⟩ → i = j
theorem MS.kept {w w' : World} {B : Nat} {es : List Ent} {G1 o1 G2 o2 c1 c2 : Nat} {hd : Int} {k : Nat} (h : MS w B es G1 o1 G2 o2 c1 c2 hd k) (hk : ∀ g, g < w.heap.size → w'.heap[g]? = w.heap[g]?) : MS w' B es G1 o1 G2 o2 c1 c2 hd k := by
  refine ⟨h.br.kept hk, fun e he => ?_, fun j e g he ha hj i hi => ?_, h.nd⟩
  · obtain ⟨a1, a2, a3⟩ := h.rows e he
    refine ⟨a1, a2, ?_⟩
    rcases a3 with a3 | ⟨g, cur, x1, x2, x3, x4⟩
    · exact .inl a3
    · exact .inr ⟨g, cur, x1, x2, by rw [hk g (Array.getElem?_eq_some_iff.1 x3).1]; exact x3, x4⟩
  · obtain ⟨_, _, a3⟩ := h.rows e (List.mem_of_getElem? he)
    rcases a3 with ⟨a3, _⟩ | ⟨g', cur, x1, x2, x3, x4⟩
    · rw [a3] at ha; cases ha
    · rw [ha] at x1
      cases x1
      have hm := h.marks j e g he ha hj i hi
      have hb := hk g (Array.getElem?_eq_some_iff.1 x3).1
      exact ⟨(World.cell?_of_block hb).trans hm.1, (World.cell?_of_block hb).trans hm.2⟩
theorem MS.drewN {w : World} {B : Nat} {es : List Ent} {G1 o1 G2 o2 c1 c2 : Nat} {hd : Int} {k : Nat} (h : MS w B es G1 o1 G2 o2 c1 c2 hd k) (q : Nat) : MS (w.drewN q) B es G1 o1 G2 o2 c1 c2 hd k := h.kept fun _ _ => rfl
theorem MS.alloc {w : World} {B : Nat} {es : List Ent} {G1 o1 G2 o2 c1 c2 : Nat} {hd : Int} {k : Nat} (h : MS w B es G1 o1 G2 o2 c1 c2 hd k) (o : Obj) : MS (w.alloc o) B es G1 o1 G2 o2 c1 c2 hd k := h.kept fun g hg => Below.heap_alloc w o g hg
theorem MS.start {w : World} {B : Nat} {es : List Ent} {G1 o1 G2 o2 c1 c2 : Nat} {hd : Int} (h : BS w B es (some ⟨G1, o1, none⟩) (some ⟨G2, o2, none⟩) c1 c2 hd)
    (hnd : ∀ (i j : Nat) (e1 e2 : Ent) (g : Nat), es[i]? = some e1 → es[j]? = some e2 → e1.a = some ⟨g, 0, none⟩ → e2.a = some ⟨g, 0, none⟩ → i = j) : MS w B es G1 o1 G2 o2 c1 c2 hd 0 :=
  ⟨h.1, fun e he => by
    obtain ⟨h1, _⟩ := h.2 e he
    rcases h1.2.2 with ⟨x, y⟩ | ⟨g, cap, cur, x, hb, hh, hnc, hcm, hcs, _⟩
    · simp only [Value.slice.injEq] at x
      exact ⟨by rw [x.2.2]; exact Nat.zero_le _, by omega, .inl ⟨x.1, x.2.2⟩⟩
    · simp only [Value.slice.injEq, true_and] at x
      obtain ⟨x1, rfl⟩ := x
      exact ⟨hcm, hnc, .inr ⟨g, cur, x1, by omega, hh, by omega⟩⟩, fun j e g _ _ hj => by omega, hnd⟩
theorem MS.facts {w : World} {B : Nat} {es : List Ent} {G1 o1 G2 o2 c1 c2 : Nat} {hd : Int} {k t : Nat} {e : Ent} (h : MS w B es G1 o1 G2 o2 c1 c2 hd k) (he : es[t]? = some e) :
    w.cell? ⟨B, 0, none⟩ = some (.slice (some ⟨G1, o1, none⟩) es.length c1) ∧ w.cell? ⟨G1, o1 + t, none⟩ = some (.slice e.a e.zs.length e.cap) := by
  have hl : t < (es.map Ent.val).length := by simpa using (List.getElem?_eq_some_iff.1 he).1
  refine ⟨h.br.q0, (h.br.o1.cell (a := none) t hl).trans ?_⟩
  rw [List.getElem?_map, he]
  rfl
theorem MS.next {w : World} {B : Nat} {es : List Ent} {G1 o1 G2 o2 c1 c2 : Nat} {hd : Int} {k : Nat} {e : Ent} (h : MS w B es G1 o1 G2 o2 c1 c2 hd k) (he : es[k]? = some e)
    (hp : ∀ g, e.a = some ⟨g, 0, none⟩ → ∀ i, i < e.cap → MarkAt w g i k) : MS w B es G1 o1 G2 o2 c1 c2 hd (k + 1) := by
  refine ⟨h.br, h.rows, fun j e1 g he1 ha hj i hi => ?_, h.nd⟩
  by_cases hjk : j = k
  · subst hjk
    rw [he] at he1
    cases he1
    exact hp g ha i hi
  · exact h.marks j e1 g he1 ha (by omega) i hi
theorem MS.cellThere {w : World} {B : Nat} {es : List Ent} {G1 o1 G2 o2 c1 c2 g : Nat} {hd : Int} {k x : Nat} {e : Ent} (h : MS w B es G1 o1 G2 o2 c1 c2 hd k) (he : e ∈ es) (ha : e.a = some ⟨g, 0, none⟩) (hx : x < e.cap * 2) :
    (∃ v, w.cell? ⟨g, x, none⟩ = some v) ∧ w.frozen? ⟨g, x, none⟩ = false := by
  obtain ⟨_, _, a3⟩ := h.rows e he
  rcases a3 with ⟨a3, _⟩ | ⟨g', cur, x1, x2, hh, hs⟩
  · rw [a3] at ha; cases ha
  · rw [ha] at x1
    cases x1
    refine ⟨?_, frozen_of_row w g x cur 49 hh⟩
    rw [cell_of_row w g x cur 49 (0, 0) hh]
    exact ⟨cur[x]'(by omega), by simp [hs, hx]⟩
theorem cell_set {w : World} {g x y : Nat} {cur : Array Value} {v : Value} (hh : w.heap[g]? = some (Obj.cells cur 49 (0, 0))) (hx : x < cur.size) :
    (w.setCell ⟨g, x, none⟩ v).cell? ⟨g, y, none⟩ = if y = x then some v else w.cell? ⟨g, y, none⟩ := by
  rw [cell_of_row _ g y _ 49 (0, 0) (heap_setCell_same w g x cur 49 v hh), cell_of_row w g y cur 49 (0, 0) hh]
  by_cases h : y = x
  · subst h
    rw [if_pos rfl]
    simp [hx]
  · rw [if_neg h, Array.getElem?_setIfInBounds_ne (by omega)]
theorem MS.poke {w : World} {B : Nat} {es : List Ent} {G1 o1 G2 o2 c1 c2 g : Nat} {hd : Int} {k : Nat} {e : Ent} (h : MS w B es G1 o1 G2 o2 c1 c2 hd k) (he : es[k]? = some e) (ha : e.a = some ⟨g, 0, none⟩) (x : Nat) (v : Value) : MS (w.setCell ⟨g, x, none⟩ v) B es G1 o1 G2 o2 c1 c2 hd k := by
  have hoth : ∀ g', g' ≠ g → (w.setCell ⟨g, x, none⟩ v).heap[g']? = w.heap[g']? := fun g' hg => heap_setCell_other w ⟨g, x, none⟩ g' _ hg
  obtain ⟨_, _, b3⟩ := h.rows e (List.mem_of_getElem? he)
  rcases b3 with ⟨b3, _⟩ | ⟨g0, cur, y1, y2, hh, hs⟩
  · rw [b3] at ha; cases ha
  rw [ha] at y1
  cases y1
  have hsame := heap_setCell_same w g x cur 49 v hh
  refine ⟨h.br.kept5 fun g' T cu hT hg => hoth g' (fun e1 => ?_), fun e1 he1 => ?_, fun j e1 g' he1 ha1 hj i hi => ?_, h.nd⟩
  · subst e1
    rw [hh] at hg
    simp at hg
    exact hT hg.2.symm
  · obtain ⟨a1, a2, a3⟩ := h.rows e1 he1
    refine ⟨a1, a2, ?_⟩
    rcases a3 with a3 | ⟨g', cu, x1, x2, x3, x4⟩
    · exact .inl a3
    · by_cases hg : g' = g
      · subst hg
        rw [hh] at x3
        simp at x3
        subst x3
        exact .inr ⟨g', _, x1, x2, hsame, by simp [x4]⟩
      · exact .inr ⟨g', cu, x1, x2, by rw [hoth _ hg]; exact x3, x4⟩
  · have hne : g' ≠ g := fun hg => by
      subst hg
      have := h.nd j k e1 e g' he1 he ha1 ha
      omega
    have hm := h.marks j e1 g' he1 ha1 hj i hi
    exact ⟨(World.cell?_of_block (hoth g' hne)).trans hm.1, (World.cell?_of_block (hoth g' hne)).trans hm.2⟩
theorem MS.store {w : World} {B : Nat} {es : List Ent} {G1 o1 G2 o2 c1 c2 g : Nat} {hd : Int} {k t : Nat} {e : Ent} (h : MS w B es G1 o1 G2 o2 c1 c2 hd k) (he : es[k]? = some e) (ha : e.a = some ⟨g, 0, none⟩) (ht : t < e.cap)
    (hp : ∀ i, i < t → MarkAt w g i k) : MS ((w.setCell ⟨g, t * 2, none⟩ (.string markS)).setCell ⟨g, t * 2 + 1, none⟩ (.int .u32 (markN (k : Int) (t : Int)))) B es G1 o1 G2 o2 c1 c2 hd k ∧ ∀ i, i < t + 1 → MarkAt ((w.setCell ⟨g, t * 2, none⟩ (.string markS)).setCell ⟨g, t * 2 + 1, none⟩ (.int .u32 (markN (k : Int) (t : Int)))) g i k := by
  refine ⟨(h.poke he ha _ _).poke he ha _ _, ?_⟩
  obtain ⟨_, _, b3⟩ := h.rows e (List.mem_of_getElem? he)
  rcases b3 with ⟨b3, _⟩ | ⟨g0, cur, y1, y2, hh, hs⟩
  · rw [b3] at ha; cases ha
  rw [ha] at y1
  cases y1
  have hh1 := heap_setCell_same w g (t * 2) cur 49 (.string markS) hh
  intro i hi
  have key : ∀ y, ((w.setCell ⟨g, t * 2, none⟩ (.string markS)).setCell ⟨g, t * 2 + 1, none⟩ (.int .u32 (markN (k : Int) (t : Int)))).cell? ⟨g, y, none⟩ = if y = t * 2 + 1 then some (.int .u32 (markN (k : Int) (t : Int))) else if y = t * 2 then some (.string markS) else w.cell? ⟨g, y, none⟩ := fun y => by
    rw [cell_set hh1 (by simp; omega), cell_set hh (by omega)]
  by_cases hit : i = t
  · subst hit
    refine ⟨?_, ?_⟩
    · rw [key, if_neg (by omega), if_pos rfl]
    · rw [key, if_pos rfl]
  · have hm := hp i (by omega)
    refine ⟨?_, ?_⟩
    · rw [key, if_neg (by omega), if_neg (by omega)]; exact hm.1
    · rw [key, if_neg (by omega), if_neg (by omega)]; exact hm.2
theorem MarkAt.alloc {w : World} {g i j : Nat} (h : MarkAt w g i j) (hg : g < w.heap.size) (o : Obj) : MarkAt (w.alloc o) g i j := by
  exact ⟨(World.cell?_of_block (Below.heap_alloc w o g hg)).trans h.1, (World.cell?_of_block (Below.heap_alloc w o g hg)).trans h.2⟩
theorem MS.blkLt {w : World} {B : Nat} {es : List Ent} {G1 o1 G2 o2 c1 c2 g : Nat} {hd : Int} {k : Nat} {e : Ent} (h : MS w B es G1 o1 G2 o2 c1 c2 hd k) (he : e ∈ es) (ha : e.a = some ⟨g, 0, none⟩) : g < w.heap.size := by
  obtain ⟨_, _, b3⟩ := h.rows e he
  rcases b3 with ⟨b3, _⟩ | ⟨g0, cur, y1, y2, hh, hs⟩
  · rw [b3] at ha; cases ha
  · rw [ha] at y1
    cases y1
    exact (Array.getElem?_eq_some_iff.1 hh).1
set_option maxRecDepth 100000 in
set_option maxHeartbeats 390000000 in
theorem apart_any (B : Nat) (es : List Ent) (G1 o1 G2 o2 c1 c2 : Nat) (held : Int) (w : World) (hS : BS w B es (some ⟨G1, o1, none⟩) (some ⟨G2, o2, none⟩) c1 c2 held) (hn : es.length ≤ 4000)
    (hnd : ∀ (i j : Nat) (e1 e2 : Ent) (g : Nat), es[i]? = some e1 → es[j]? = some e2 → e1.a = some ⟨g, 0, none⟩ → e2.a = some ⟨g, 0, none⟩ → i = j) :
    Calls Try.prog 26 #[.pointer (some ⟨B, 0, none⟩), .func (.func 27) #[] #[]] w fun e w' => e = .returned (.bool true) ∧ Below B w w' := by
  obtain ⟨n, hne⟩ : ∃ n, n = es.length := ⟨_, rfl⟩
  have hn' : n ≤ 4000 := by omega
  have hst := stays_any B es G1 o1 G2 o2 c1 c2 held w hS hn
  have HN := Hid.intro hne
  have HD := Hid.intro hnd
  have HST := Hid.intro hst
  clear hne hn hnd hS hst
  go_enter Try.func26, Try.ntmps26
  go_wp2_with (go_at_call 41; refine (HST.out).mono ?_; rintro e w1 ⟨rfl, hS1, k51, hb1⟩)
  have HS : Hid (MS w1 B es G1 o1 G2 o2 c1 c2 held 0) := MS.start hS1 HD.out
  clear hS1 k51 HST
  go_loopw [5] (fun i wr => ∃ k : Nat, k ≤ n ∧ i = .int .i64 k ∧ Hid (MS wr B es G1 o1 G2 o2 c1 c2 held k) ∧ Below B w wr) (fun i _ => n - (intOf i).toNat)
  case atStart => exact ⟨0, Nat.zero_le _, rfl, HS, hb1⟩
  case round =>
    obtain ⟨k, hk, rfl, HM, hb⟩ := hrel
    have q0 := HM.out.br.q0
    rw [← HN.out] at q0
    by_cases hlt : k < n
    · obtain ⟨e0, he0⟩ : ∃ e0, es[k]? = some e0 := ⟨es[k]'(by rw [← HN.out]; exact hlt), List.getElem?_eq_getElem _⟩
      have hmem : e0 ∈ es := List.mem_of_getElem? he0
      have p1 := (HM.out.facts he0).2
      obtain ⟨hcm, hzc, hrow⟩ := HM.out.rows e0 hmem
      have HE : Hid (es[k]? = some e0 ∧ e0 ∈ es) := ⟨he0, hmem⟩
      have i1 : (0 : Int) ≤ (k : Int) := by omega
      have i2 : (k : Int) < (n : Int) := by omega
      unfold maxLen at hcm
      clear he0 hmem
      rcases hrow with ⟨ha, hc0⟩ | ⟨g, cur, ha, hBg, hh, hcs⟩
      · have hz0 : e0.zs.length = 0 := by omega
        rw [ha, hc0, hz0] at p1
        have HA := Hid.intro ha
        clear ha hc0 hz0 hcm hzc
        go_wp2
        go_quiet (fail)
        go_wp2
        clear q0 p1
        go_loop [7] (fun j => j = .int .i64 0) (fun _ => 0)
        case atStart => rfl
        case round =>
          subst hrel
          have HX : Hid (MS (wr.drewN nq) B es G1 o1 G2 o2 c1 c2 held (k + 1)) := (HM.out.drewN nq).next HE.out.1 (fun g hg => by rw [HA.out] at hg; cases hg)
          go_wp2
          go_roundw
          case rel => exact ⟨k + 1, by omega, by go_num, HX, below_drewN hb nq⟩
          case measure => simp [intOf]; omega
      · have HA := Hid.intro ha
        rw [ha] at p1
        clear ha hh hcs
        go_wp2
        go_quiet (fail)
        go_wp2
        clear q0 p1
        go_loopw [7] (fun j wx => ∃ t : Nat, t ≤ e0.cap ∧ j = .int .i64 t ∧ Hid (MS wx B es G1 o1 G2 o2 c1 c2 held k) ∧ Hid (∀ i, i < t → MarkAt wx g i k) ∧ Below B w wx) (fun j _ => e0.cap - (intOf j).toNat)
        case atStart => exact ⟨0, Nat.zero_le _, rfl, HM.out.drewN _, fun i hi => by omega, below_drewN hb _⟩
        case round =>
          obtain ⟨t, ht, rfl, hMx, hpx, hbx⟩ := hrel
          by_cases htl : t < e0.cap
          · have hMa := hMx.out.alloc (markO (k : Int) (t : Int))
            obtain ⟨⟨v0, z0⟩, y0⟩ := hMa.cellThere HE.out.2 HA.out (x := t * 2) (by omega)
            obtain ⟨⟨v1, z1⟩, y1⟩ := hMa.cellThere HE.out.2 HA.out (x := t * 2 + 1) (by omega)
            have HX : Hid (MS (((wr.alloc (markO (k : Int) (t : Int))).setCell ⟨g, t * 2, none⟩ (.string markS)).setCell ⟨g, t * 2 + 1, none⟩ (.int .u32 (markN (k : Int) (t : Int)))) B es G1 o1 G2 o2 c1 c2 held k ∧ ∀ i, i < t + 1 → MarkAt (((wr.alloc (markO (k : Int) (t : Int))).setCell ⟨g, t * 2, none⟩ (.string markS)).setCell ⟨g, t * 2 + 1, none⟩ (.int .u32 (markN (k : Int) (t : Int)))) g i k) :=
              hMa.store HE.out.1 HA.out htl (fun i hi => (hpx.out i hi).alloc (hMx.out.blkLt HE.out.2 HA.out) _)
            have hBs : B ≤ wr.heap.size := Nat.le_of_lt hMx.out.br.lt
            have i3 : (0 : Int) ≤ (t : Int) := by omega
            have i4 : (t : Int) < (e0.cap : Int) := by omega
            clear hMa hMx hpx HM
            go_wp2_with (go_at_call 27; refine (mark_any _ _ _ (by omega) (by omega)).mono ?_; rintro e w' ⟨rfl, rfl⟩)
            go_roundw
            case rel => exact ⟨t + 1, by omega, by go_num, HX.out.1, HX.out.2, Below.setCell (p := ⟨g, t * 2 + 1, none⟩) (Below.setCell (p := ⟨g, t * 2, none⟩) (hbx.alloc hBs _) (by show B ≤ g; omega) _) (by show B ≤ g; omega) _⟩
            case measure => simp [intOf]; omega
          · have e : t = e0.cap := by omega
            subst e
            have HX : Hid (MS wr B es G1 o1 G2 o2 c1 c2 held (k + 1)) := hMx.out.next HE.out.1 (fun g' hg' => by rw [HA.out] at hg'; cases hg'; exact hpx.out)
            clear hMx hpx
            go_wp2
            go_roundw
            case rel => exact ⟨k + 1, by omega, by go_num, HX, hbx⟩
            case measure => simp [intOf]; omega
    · have e : k = n := by omega
      subst e
      go_wp2
      clear q0
      go_loopw [8] (fun i wx => ∃ r : Nat, r ≤ k ∧ i = .int .i64 r ∧ Hid (MS wx B es G1 o1 G2 o2 c1 c2 held k) ∧ Below B w wx) (fun i _ => k - (intOf i).toNat)
      case atStart => exact ⟨0, Nat.zero_le _, rfl, HM, hb⟩
      case round =>
        clear HM
        obtain ⟨r, hr, rfl, HM2, hbr⟩ := hrel
        have q0 := HM2.out.br.q0
        rw [← HN.out] at q0
        by_cases hlr : r < k
        · obtain ⟨e0, he0⟩ : ∃ e0, es[r]? = some e0 := ⟨es[r]'(by rw [← HN.out]; exact hlr), List.getElem?_eq_getElem _⟩
          have hmem : e0 ∈ es := List.mem_of_getElem? he0
          have p1 := (HM2.out.facts he0).2
          obtain ⟨hcm, hzc, hrow⟩ := HM2.out.rows e0 hmem
          have HE : Hid (es[r]? = some e0 ∧ e0 ∈ es) := ⟨he0, hmem⟩
          have i1 : (0 : Int) ≤ (r : Int) := by omega
          have i2 : (r : Int) < (k : Int) := by omega
          unfold maxLen at hcm
          clear he0 hmem
          rcases hrow with ⟨ha, hc0⟩ | ⟨g, cur, ha, hBg, hh, hcs⟩
          · have hz0 : e0.zs.length = 0 := by omega
            rw [ha, hc0, hz0] at p1
            clear ha hc0 hz0 hcm hzc
            go_wp2
            go_quiet (fail)
            go_wp2
            clear q0 p1
            go_loop [10] (fun j => j = .int .i64 0) (fun _ => 0)
            case atStart => rfl
            case round =>
              subst hrel
              have HX : Hid (MS (wr.drewN nq) B es G1 o1 G2 o2 c1 c2 held k) := HM2.out.drewN nq
              go_wp2
              go_roundw
              case rel => exact ⟨r + 1, by omega, by go_num, HX, below_drewN hbr nq⟩
              case measure => simp [intOf]; omega
          · have HA := Hid.intro ha
            rw [ha] at p1
            clear ha hh hcs
            go_wp2
            go_quiet (fail)
            go_wp2
            clear q0 p1
            go_loopw [10] (fun j wx => ∃ t : Nat, t ≤ e0.cap ∧ j = .int .i64 t ∧ Hid (MS wx B es G1 o1 G2 o2 c1 c2 held k) ∧ Below B w wx) (fun j _ => e0.cap - (intOf j).toNat)
            case atStart => exact ⟨0, Nat.zero_le _, rfl, HM2.out.drewN _, below_drewN hbr _⟩
            case round =>
              obtain ⟨t, ht, rfl, HX, hbx⟩ := hrel
              by_cases htl : t < e0.cap
              · obtain ⟨z0, z1⟩ := HX.out.marks r e0 g HE.out.1 HA.out hlr t htl
                have i3 : (0 : Int) ≤ (t : Int) := by omega
                have i4 : (t : Int) < (e0.cap : Int) := by omega
                go_wp2
                have hBs : B ≤ wr.heap.size := Nat.le_of_lt HX.out.br.lt
                go_region_held3 (fun w' => w'.cell? ⟨g, t * 2, none⟩ = some (.string markS) ∧ w'.cell? ⟨g, t * 2 + 1, none⟩ = some (.int .u32 (markN (r : Int) (t : Int)))) (go_keep)
                  ((go_at_call 27; refine (mark_any _ _ _ (by omega) (by omega)).mono ?_; rintro e w' ⟨rfl, rfl⟩))
                all_goals
                  go_wp2
                  go_roundw
                  case rel => exact ⟨t + 1, by omega, by go_num, (HX.out.alloc _).kept (fun _ _ => rfl), (hbx.alloc hBs _).drew⟩
                  case measure => simp [intOf]; omega
              · go_wp2
                go_roundw
                case rel => exact ⟨r + 1, by omega, by go_num, HX, hbx⟩
                case measure => simp [intOf]; omega
        · have g0 := HM2.out.br.fz 0
          have g1 := HM2.out.br.fz 1
          have g2 := HM2.out.br.fz 2
          have q1 := HM2.out.br.q1
          have q2 := HM2.out.br.q2
          go_wp2
          go_ret
          exact ⟨rfl, Below.setCell (p := ⟨B, 2, none⟩) (Below.setCell (p := ⟨B, 1, none⟩) (Below.setCell (p := ⟨B, 0, none⟩) hbr (Nat.le_refl _) _) (Nat.le_refl _) _) (Nat.le_refl _) _⟩
end Go.Proofs.Ytebbbefknfldoaa.Bk
namespace Go.Proofs.Ytebbbefknfldoaa.Bk
open Go.ChangeShapes Go.WideShapes Go.ChangeAt Go.RowKit
set_option linter.unusedVariables false
set_option maxRecDepth 100000
def Apart (es : List Ent) : Prop := ∀ (i j : Nat) (e1 e2 : Ent) (g : Nat), es[i]? = some e1 → es[j]? = some e2 → e1.a = some ⟨g, 0, none⟩ → e2.a = some ⟨g, 0, none⟩ → i = j
def Books (w0 w : World) (B m F : Nat) : Prop :=
  B = w0.heap.size ∧ Below B w0 w ∧ F ≤ w.heap.size ∧ B < F ∧ ∃ es a1 a2 c1 c2 held, es.length ≤ m ∧ (0 < m → es ≠ []) ∧ BS w B es a1 a2 c1 c2 held ∧ Apart es ∧ ∀ e ∈ es, ∀ g, e.a = some ⟨g, 0, none⟩ → g < F
theorem Books.start (w : World) : Books w (w.alloc (.cells #[.slice none 0 0, .slice none 0 0, .int .i64 0, .bool false] 61)) w.heap.size 0 (w.heap.size + 1) := by
  refine ⟨rfl, (Below.refl _ _).alloc (Nat.le_refl _) _, by simp, by omega, [], none, none, 0, 0, 0, Nat.le_refl _, fun h => by omega, ⟨⟨?_, rfl, rfl, ⟨Nat.zero_le _, .inl ⟨rfl, rfl, rfl⟩⟩, ⟨Nat.zero_le _, .inl ⟨rfl, rfl, rfl⟩⟩, fun g hg => by cases hg⟩, fun e he => by cases he⟩, fun i j e1 e2 g h1 => by simp at h1, fun e he => by cases he⟩
  exact heap_alloc_new w _
theorem Books.more {w0 w w1 : World} {B m : Nat} (h : Books w0 w B m w.heap.size) (hb : Below w.heap.size w w1) : Books w0 w1 B m w.heap.size := by
  obtain ⟨h1, h2, h3, h4, es, a1, a2, c1, c2, held, e1, e2, ⟨e3, e4⟩, e5, e6⟩ := h
  have hk : K5 w w1 := fun k T cur hT hk => hb.block k (Array.getElem?_eq_some_iff.1 hk).1
  exact ⟨h1, h2.trans (hb.mono (by omega)), hb.size, h4, es, a1, a2, c1, c2, held, e1, e2, ⟨e3.kept fun k hk => hb.block k hk, fun e he => (e4 e he).kept hk⟩, e5, e6⟩
theorem Books.grow {w0 w : World} {B m F : Nat} (h : Books w0 w B m F) : Books w0 w B m w.heap.size := by
  obtain ⟨h1, h2, h3, h4, es, a1, a2, c1, c2, held, e1, e2, e3, e5, e6⟩ := h
  exact ⟨h1, h2, Nat.le_refl _, by omega, es, a1, a2, c1, c2, held, e1, e2, e3, e5, fun e he g hg => by have := e6 e he g hg; omega⟩
theorem apart_drop {es : List Ent} (h : Apart es) (n : Nat) : Apart (es.drop n) := by
  intro i j e1 e2 g h1 h2 g1 g2
  rw [List.getElem?_drop] at h1 h2
  have := h _ _ e1 e2 g h1 h2 g1 g2
  omega
end Go.Proofs.Ytebbbefknfldoaa.Bk

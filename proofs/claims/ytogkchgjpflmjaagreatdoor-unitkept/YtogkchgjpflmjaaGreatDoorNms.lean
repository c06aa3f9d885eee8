/- unit's Names. -/
import Derived.Test.YtogkchgjpflmjaaGreatDoorBkS
import Derived.Test.YtogkchgjpflmjaaGreatDoorSmU
/- A book of lists of texts: Apart. -/
namespace Go.Proofs.YtogkchgjpflmjaaGreatDoor.Bk
open Go.ChangeShapes Go.WideShapes Go.ChangeAt Go.RowKit Go.Sort
set_option linter.unusedVariables false
set_option maxRecDepth 100000
theorem BR.kept5 {w w' : World} {B n1 n2 : Nat} {vs1 vs2 : List Value} {a1 a2 : Option Addr} {c1 c2 : Nat} {hd : Int} (h : BR w B vs1 vs2 n1 n2 a1 a2 c1 c2 hd)
    (hk : ∀ (k : Nat) (T : TypeId) (cur : Array Value), T ≠ 9 → w.heap[k]? = some (Obj.cells cur T (0, 0)) → w'.heap[k]? = w.heap[k]?) : BR w' B vs1 vs2 n1 n2 a1 a2 c1 c2 hd := by
  have ho : ∀ {a c vs}, Outer w (B + 1) a c vs → ∀ g, blk a = some g → w'.heap[g]? = w.heap[g]? := by
    intro a c vs h g hg
    rcases h.2 with ⟨rfl, _⟩ | ⟨G, off, cur, rfl, _, hh, _⟩
    · cases hg
    · simp [blk] at hg
      subst hg
      exact hk G 24 cur (by decide) hh
  exact ⟨by rw [hk B 62 _ (by decide) h.blkB]; exact h.blkB, h.l1, h.l2, h.o1.kept (ho h.o1), h.o2.kept (ho h.o2), h.ne⟩
def MarkAt (w : World) (g i j : Nat) : Prop := w.cell? ⟨g, i, none⟩ = some (.string (markS (j : Int)))
structure MS (w : World) (B : Nat) (es : List Ent) (G1 o1 G2 o2 c1 c2 : Nat) (hd : Int) (k : Nat) : Prop where
  br : BR w B (es.map Ent.val) (es.map Ent.wal) es.length es.length (some ⟨G1, o1, none⟩) (some ⟨G2, o2, none⟩) c1 c2 hd
  rows : ∀ e ∈ es, e.cap ≤ maxLen ∧ e.zs.length ≤ e.cap ∧ ((e.a = none ∧ e.cap = 0) ∨ ∃ g cur, e.a = some ⟨g, 0, none⟩ ∧ B < g ∧ w.heap[g]? = some (Obj.cells cur 9 (0, 0)) ∧ cur.size = e.cap)
  marks : ∀ (j : Nat) (e : Ent) (g : Nat), es[j]? = some e → e.a = some ⟨g, 0, none⟩ → j < k → ∀ i, i < e.cap → MarkAt w g i j
  nd : ∀ (i j : Nat) (e1 e2 : Ent) (g : Nat), es[i]? = some e1 → es[j]? = some e2 → e1.a = some ⟨g, 0, none⟩ → e2.a = some ⟨g, 0, none⟩ → i = j
theorem MS.kept {w w' : World} {B : Nat} {es : List Ent} {G1 o1 G2 o2 c1 c2 : Nat} {hd : Int} {k : Nat} (h : MS w B es G1 o1 G2 o2 c1 c2 hd k) (hk : ∀ g, g < w.heap.size → w'.heap[g]? = w.heap[g]?) : MS w' B es G1 o1 G2 o2 c1 c2 hd k := by
  refine ⟨h.br.kept hk, fun e he => ?_, fun j e g he ha hj i hi => ?_, h.nd⟩
  · obtain ⟨a1, a2, a3⟩ := h.rows e he
    refine ⟨a1, a2, ?_⟩
    rcases a3 with a3 | ⟨g, cur, x1, x2, x3, x4⟩
    · exact .inl a3
    · exact .inr ⟨g, cur, x1, x2, by rw [hk g (Array.getElem?_eq_some_iff.1 x3).1]; exact x3, x4⟩
  · obtain ⟨_, _, a3⟩ := h.rows e (List.mem_of_getElem? he)
    rcases a3 with ⟨a3, _⟩ | ⟨g', cur, x1, x2, x3, x4⟩
    · rw [a3] at ha; cases ha
    · rw [ha] at x1
      cases x1
      unfold MarkAt
      rw [World.cell?_of_block (hk g (Array.getElem?_eq_some_iff.1 x3).1)]
      exact h.marks j e g he ha hj i hi
theorem MS.drewN {w : World} {B : Nat} {es : List Ent} {G1 o1 G2 o2 c1 c2 : Nat} {hd : Int} {k : Nat} (h : MS w B es G1 o1 G2 o2 c1 c2 hd k) (q : Nat) : MS (w.drewN q) B es G1 o1 G2 o2 c1 c2 hd k := h.kept fun _ _ => rfl
theorem MS.alloc {w : World} {B : Nat} {es : List Ent} {G1 o1 G2 o2 c1 c2 : Nat} {hd : Int} {k : Nat} (h : MS w B es G1 o1 G2 o2 c1 c2 hd k) (o : Obj) : MS (w.alloc o) B es G1 o1 G2 o2 c1 c2 hd k := h.kept fun g hg => Below.heap_alloc w o g hg
theorem MS.start {w : World} {B : Nat} {es : List Ent} {G1 o1 G2 o2 c1 c2 : Nat} {hd : Int} (h : BS w B es (some ⟨G1, o1, none⟩) (some ⟨G2, o2, none⟩) c1 c2 hd)
    (hnd : ∀ (i j : Nat) (e1 e2 : Ent) (g : Nat), es[i]? = some e1 → es[j]? = some e2 → e1.a = some ⟨g, 0, none⟩ → e2.a = some ⟨g, 0, none⟩ → i = j) : MS w B es G1 o1 G2 o2 c1 c2 hd 0 :=
  ⟨h.1, fun e he => by
    obtain ⟨h1, _⟩ := h.2 e he
    rcases h1.2.2 with ⟨x, y⟩ | ⟨g, cap, cur, x, hb, hh, hnc, hcm, hcs, _⟩
    · simp only [Value.slice.injEq] at x
      exact ⟨by rw [x.2.2]; exact Nat.zero_le _, by omega, .inl ⟨x.1, x.2.2⟩⟩
    · simp only [Value.slice.injEq, true_and] at x
      obtain ⟨x1, rfl⟩ := x
      exact ⟨hcm, hnc, .inr ⟨g, cur, x1, by omega, hh, by omega⟩⟩, fun j e g _ _ hj => by omega, hnd⟩
theorem MS.facts {w : World} {B : Nat} {es : List Ent} {G1 o1 G2 o2 c1 c2 : Nat} {hd : Int} {k t : Nat} {e : Ent} (h : MS w B es G1 o1 G2 o2 c1 c2 hd k) (he : es[t]? = some e) :
    w.cell? ⟨B, 0, none⟩ = some (.slice (some ⟨G1, o1, none⟩) es.length c1) ∧ w.cell? ⟨G1, o1 + t, none⟩ = some (.slice e.a e.zs.length e.cap) := by
  have hl : t < (es.map Ent.val).length := by simpa using (List.getElem?_eq_some_iff.1 he).1
  refine ⟨h.br.q0, (h.br.o1.cell (a := none) t hl).trans ?_⟩
  rw [List.getElem?_map, he]
  rfl
theorem MS.next {w : World} {B : Nat} {es : List Ent} {G1 o1 G2 o2 c1 c2 : Nat} {hd : Int} {k : Nat} {e : Ent} (h : MS w B es G1 o1 G2 o2 c1 c2 hd k) (he : es[k]? = some e)
    (hp : ∀ g, e.a = some ⟨g, 0, none⟩ → ∀ i, i < e.cap → MarkAt w g i k) : MS w B es G1 o1 G2 o2 c1 c2 hd (k + 1) := by
  refine ⟨h.br, h.rows, fun j e1 g he1 ha hj i hi => ?_, h.nd⟩
  by_cases hjk : j = k
  · subst hjk
    rw [he] at he1
    cases he1
    exact hp g ha i hi
  · exact h.marks j e1 g he1 ha (by omega) i hi
theorem MS.cellThere {w : World} {B : Nat} {es : List Ent} {G1 o1 G2 o2 c1 c2 g : Nat} {hd : Int} {k x : Nat} {e : Ent} (h : MS w B es G1 o1 G2 o2 c1 c2 hd k) (he : e ∈ es) (ha : e.a = some ⟨g, 0, none⟩) (hx : x < e.cap) :
    (∃ v, w.cell? ⟨g, x, none⟩ = some v) ∧ w.frozen? ⟨g, x, none⟩ = false := by
  obtain ⟨_, _, a3⟩ := h.rows e he
  rcases a3 with ⟨a3, _⟩ | ⟨g', cur, x1, x2, hh, hs⟩
  · rw [a3] at ha; cases ha
  · rw [ha] at x1
    cases x1
    refine ⟨?_, frozen_of_row w g x cur 9 hh⟩
    rw [cell_of_row w g x cur 9 (0, 0) hh]
    exact ⟨cur[x]'(by omega), by simp [hs, hx]⟩
theorem cell_set {w : World} {g x y : Nat} {cur : Array Value} {v : Value} (hh : w.heap[g]? = some (Obj.cells cur 9 (0, 0))) (hx : x < cur.size) :
    (w.setCell ⟨g, x, none⟩ v).cell? ⟨g, y, none⟩ = if y = x then some v else w.cell? ⟨g, y, none⟩ := by
  rw [cell_of_row _ g y _ 9 (0, 0) (heap_setCell_same w g x cur 9 v hh), cell_of_row w g y cur 9 (0, 0) hh]
  by_cases h : y = x
  · subst h
    rw [if_pos rfl]
    simp [hx]
  · rw [if_neg h, Array.getElem?_setIfInBounds_ne (by omega)]
theorem MS.poke {w : World} {B : Nat} {es : List Ent} {G1 o1 G2 o2 c1 c2 g : Nat} {hd : Int} {k : Nat} {e : Ent} (h : MS w B es G1 o1 G2 o2 c1 c2 hd k) (he : es[k]? = some e) (ha : e.a = some ⟨g, 0, none⟩) (x : Nat) (v : Value) : MS (w.setCell ⟨g, x, none⟩ v) B es G1 o1 G2 o2 c1 c2 hd k := by
  have hoth : ∀ g', g' ≠ g → (w.setCell ⟨g, x, none⟩ v).heap[g']? = w.heap[g']? := fun g' hg => heap_setCell_other w ⟨g, x, none⟩ g' _ hg
  obtain ⟨_, _, b3⟩ := h.rows e (List.mem_of_getElem? he)
  rcases b3 with ⟨b3, _⟩ | ⟨g0, cur, y1, y2, hh, hs⟩
  · rw [b3] at ha; cases ha
  rw [ha] at y1
  cases y1
  have hsame := heap_setCell_same w g x cur 9 v hh
  refine ⟨h.br.kept5 fun g' T cu hT hg => hoth g' (fun e1 => ?_), fun e1 he1 => ?_, fun j e1 g' he1 ha1 hj i hi => ?_, h.nd⟩
  · subst e1
    rw [hh] at hg
    simp at hg
    exact hT hg.2.symm
  · obtain ⟨a1, a2, a3⟩ := h.rows e1 he1
    refine ⟨a1, a2, ?_⟩
    rcases a3 with a3 | ⟨g', cu, x1, x2, x3, x4⟩
    · exact .inl a3
    · by_cases hg : g' = g
      · subst hg
        rw [hh] at x3
        simp at x3
        subst x3
        exact .inr ⟨g', _, x1, x2, hsame, by simp [x4]⟩
      · exact .inr ⟨g', cu, x1, x2, by rw [hoth _ hg]; exact x3, x4⟩
  · have hne : g' ≠ g := fun hg => by
      subst hg
      have := h.nd j k e1 e g' he1 he ha1 ha
      omega
    unfold MarkAt
    rw [World.cell?_of_block (hoth g' hne)]
    exact h.marks j e1 g' he1 ha1 hj i hi
theorem MS.store {w : World} {B : Nat} {es : List Ent} {G1 o1 G2 o2 c1 c2 g : Nat} {hd : Int} {k t : Nat} {e : Ent} (h : MS w B es G1 o1 G2 o2 c1 c2 hd k) (he : es[k]? = some e) (ha : e.a = some ⟨g, 0, none⟩) (ht : t < e.cap)
    (hp : ∀ i, i < t → MarkAt w g i k) : MS (w.setCell ⟨g, t, none⟩ (.string (markS (k : Int)))) B es G1 o1 G2 o2 c1 c2 hd k ∧ ∀ i, i < t + 1 → MarkAt (w.setCell ⟨g, t, none⟩ (.string (markS (k : Int)))) g i k := by
  refine ⟨h.poke he ha _ _, ?_⟩
  obtain ⟨_, _, b3⟩ := h.rows e (List.mem_of_getElem? he)
  rcases b3 with ⟨b3, _⟩ | ⟨g0, cur, y1, y2, hh, hs⟩
  · rw [b3] at ha; cases ha
  rw [ha] at y1
  cases y1
  intro i hi
  unfold MarkAt
  rw [cell_set hh (by omega)]
  by_cases hit : i = t
  · subst hit
    rw [if_pos rfl]
  · rw [if_neg hit]
    exact hp i (by omega)
theorem MarkAt.alloc {w : World} {g i j : Nat} (h : MarkAt w g i j) (hg : g < w.heap.size) (o : Obj) : MarkAt (w.alloc o) g i j := by
  unfold MarkAt
  rw [World.cell?_of_block (Below.heap_alloc w o g hg)]
  exact h
theorem MS.blkLt {w : World} {B : Nat} {es : List Ent} {G1 o1 G2 o2 c1 c2 g : Nat} {hd : Int} {k : Nat} {e : Ent} (h : MS w B es G1 o1 G2 o2 c1 c2 hd k) (he : e ∈ es) (ha : e.a = some ⟨g, 0, none⟩) : g < w.heap.size := by
  obtain ⟨_, _, b3⟩ := h.rows e he
  rcases b3 with ⟨b3, _⟩ | ⟨g0, cur, y1, y2, hh, hs⟩
  · rw [b3] at ha; cases ha
  · rw [ha] at y1
    cases y1
    exact (Array.getElem?_eq_some_iff.1 hh).1
set_option maxRecDepth 100000 in
set_option maxHeartbeats 3200000 in
theorem apart_any (B : Nat) (es : List Ent) (G1 o1 G2 o2 c1 c2 : Nat) (held : Int) (w : World) (hS : BS w B es (some ⟨G1, o1, none⟩) (some ⟨G2, o2, none⟩) c1 c2 held) (hn : es.length ≤ 4000)
    (hnd : ∀ (i j : Nat) (e1 e2 : Ent) (g : Nat), es[i]? = some e1 → es[j]? = some e2 → e1.a = some ⟨g, 0, none⟩ → e2.a = some ⟨g, 0, none⟩ → i = j) :
    Calls Tryz.prog 30 #[.pointer (some ⟨B, 0, none⟩), .func (.func 31) #[] #[]] w fun e w' => e = .returned (.bool true) ∧ Below B w w' := by
  obtain ⟨n, hne⟩ : ∃ n, n = es.length := ⟨_, rfl⟩
  have hn' : n ≤ 4000 := by omega
  have hst := stays_any B es G1 o1 G2 o2 c1 c2 held w hS hn
  have HN := Hid.intro hne
  have HD := Hid.intro hnd
  have HST := Hid.intro hst
  clear hne hn hnd hS hst
  go_enter Tryz.func30, Tryz.ntmps30
  go_wp2_with (go_at_call 64; refine (HST.out).mono ?_; rintro e w1 ⟨rfl, hS1, k51, hb1⟩)
  have HS : Hid (MS w1 B es G1 o1 G2 o2 c1 c2 held 0) := MS.start hS1 HD.out
  clear hS1 k51 HST
  go_loopw [5] (fun i wr => ∃ k : Nat, k ≤ n ∧ i = .int .i64 k ∧ Hid (MS wr B es G1 o1 G2 o2 c1 c2 held k) ∧ Below B w wr) (fun i _ => n - (intOf i).toNat)
  case atStart => exact ⟨0, Nat.zero_le _, rfl, HS, hb1⟩
  case round =>
    obtain ⟨k, hk, rfl, HM, hb⟩ := hrel
    have q0 := HM.out.br.q0
    rw [← HN.out] at q0
    by_cases hlt : k < n
    · obtain ⟨e0, he0⟩ : ∃ e0, es[k]? = some e0 := ⟨es[k]'(by rw [← HN.out]; exact hlt), List.getElem?_eq_getElem _⟩
      have hmem : e0 ∈ es := List.mem_of_getElem? he0
      have p1 := (HM.out.facts he0).2
      obtain ⟨hcm, hzc, hrow⟩ := HM.out.rows e0 hmem
      have HE : Hid (es[k]? = some e0 ∧ e0 ∈ es) := ⟨he0, hmem⟩
      have i1 : (0 : Int) ≤ (k : Int) := by omega
      have i2 : (k : Int) < (n : Int) := by omega
      unfold maxLen at hcm
      clear he0 hmem
      rcases hrow with ⟨ha, hc0⟩ | ⟨g, cur, ha, hBg, hh, hcs⟩
      · have hz0 : e0.zs.length = 0 := by omega
        rw [ha, hc0, hz0] at p1
        have HA := Hid.intro ha
        clear ha hc0 hz0 hcm hzc
        go_wp2
        go_quiet (fail)
        go_wp2
        clear q0 p1
        go_loop [7] (fun j => j = .int .i64 0) (fun _ => 0)
        case atStart => rfl
        case round =>
          subst hrel
          have HX : Hid (MS (wr.drewN nq) B es G1 o1 G2 o2 c1 c2 held (k + 1)) := (HM.out.drewN nq).next HE.out.1 (fun g hg => by rw [HA.out] at hg; cases hg)
          go_wp2
          go_roundw
          case rel => exact ⟨k + 1, by omega, by go_num, HX, below_drewN hb nq⟩
          case measure => simp [intOf]; omega
      · have HA := Hid.intro ha
        rw [ha] at p1
        clear ha hh hcs
        go_wp2
        go_quiet (fail)
        go_wp2
        clear q0 p1
        go_loopw [7] (fun j wx => ∃ t : Nat, t ≤ e0.cap ∧ j = .int .i64 t ∧ Hid (MS wx B es G1 o1 G2 o2 c1 c2 held k) ∧ Hid (∀ i, i < t → MarkAt wx g i k) ∧ Below B w wx) (fun j _ => e0.cap - (intOf j).toNat)
        case atStart => exact ⟨0, Nat.zero_le _, rfl, HM.out.drewN _, fun i hi => by omega, below_drewN hb _⟩
        case round =>
          obtain ⟨t, ht, rfl, hMx, hpx, hbx⟩ := hrel
          by_cases htl : t < e0.cap
          · have hMa := hMx.out.alloc (markO (k : Int))
            obtain ⟨⟨v0, z0⟩, y0⟩ := hMa.cellThere HE.out.2 HA.out (x := t) htl
            have HX : Hid (MS ((wr.alloc (markO (k : Int))).setCell ⟨g, t, none⟩ (.string (markS (k : Int)))) B es G1 o1 G2 o2 c1 c2 held k ∧ ∀ i, i < t + 1 → MarkAt ((wr.alloc (markO (k : Int))).setCell ⟨g, t, none⟩ (.string (markS (k : Int)))) g i k) :=
              hMa.store HE.out.1 HA.out htl (fun i hi => (hpx.out i hi).alloc (hMx.out.blkLt HE.out.2 HA.out) _)
            have hBs : B ≤ wr.heap.size := Nat.le_of_lt hMx.out.br.lt
            have i3 : (0 : Int) ≤ (t : Int) := by omega
            have i4 : (t : Int) < (e0.cap : Int) := by omega
            clear hMa hMx hpx HM
            go_wp2_with (go_at_call 31; refine (mark_any _ _ _ (by omega)).mono ?_; rintro e w' ⟨rfl, rfl⟩)
            go_roundw
            case rel => exact ⟨t + 1, by omega, by go_num, HX.out.1, HX.out.2, Below.setCell (p := ⟨g, t, none⟩) (hbx.alloc hBs _) (by show B ≤ g; omega) _⟩
            case measure => simp [intOf]; omega
          · have e : t = e0.cap := by omega
            subst e
            have HX : Hid (MS wr B es G1 o1 G2 o2 c1 c2 held (k + 1)) := hMx.out.next HE.out.1 (fun g' hg' => by rw [HA.out] at hg'; cases hg'; exact hpx.out)
            clear hMx hpx
            go_wp2
            go_roundw
            case rel => exact ⟨k + 1, by omega, by go_num, HX, hbx⟩
            case measure => simp [intOf]; omega
    · have e : k = n := by omega
      subst e
      go_wp2
      clear q0
      go_loopw [8] (fun i wx => ∃ r : Nat, r ≤ k ∧ i = .int .i64 r ∧ Hid (MS wx B es G1 o1 G2 o2 c1 c2 held k) ∧ Below B w wx) (fun i _ => k - (intOf i).toNat)
      case atStart => exact ⟨0, Nat.zero_le _, rfl, HM, hb⟩
      case round =>
        clear HM
        obtain ⟨r, hr, rfl, HM2, hbr⟩ := hrel
        have q0 := HM2.out.br.q0
        rw [← HN.out] at q0
        by_cases hlr : r < k
        · obtain ⟨e0, he0⟩ : ∃ e0, es[r]? = some e0 := ⟨es[r]'(by rw [← HN.out]; exact hlr), List.getElem?_eq_getElem _⟩
          have hmem : e0 ∈ es := List.mem_of_getElem? he0
          have p1 := (HM2.out.facts he0).2
          obtain ⟨hcm, hzc, hrow⟩ := HM2.out.rows e0 hmem
          have HE : Hid (es[r]? = some e0 ∧ e0 ∈ es) := ⟨he0, hmem⟩
          have i1 : (0 : Int) ≤ (r : Int) := by omega
          have i2 : (r : Int) < (k : Int) := by omega
          unfold maxLen at hcm
          clear he0 hmem
          rcases hrow with ⟨ha, hc0⟩ | ⟨g, cur, ha, hBg, hh, hcs⟩
          · have hz0 : e0.zs.length = 0 := by omega
            rw [ha, hc0, hz0] at p1
            clear ha hc0 hz0 hcm hzc
            go_wp2
            go_quiet (fail)
            go_wp2
            clear q0 p1
            go_loop [10] (fun j => j = .int .i64 0) (fun _ => 0)
            case atStart => rfl
            case round =>
              subst hrel
              have HX : Hid (MS (wr.drewN nq) B es G1 o1 G2 o2 c1 c2 held k) := HM2.out.drewN nq
              go_wp2
              go_roundw
              case rel => exact ⟨r + 1, by omega, by go_num, HX, below_drewN hbr nq⟩
              case measure => simp [intOf]; omega
          · have HA := Hid.intro ha
            rw [ha] at p1
            clear ha hh hcs
            go_wp2
            go_quiet (fail)
            go_wp2
            clear q0 p1
            go_loopw [10] (fun j wx => ∃ t : Nat, t ≤ e0.cap ∧ j = .int .i64 t ∧ Hid (MS wx B es G1 o1 G2 o2 c1 c2 held k) ∧ Below B w wx) (fun j _ => e0.cap - (intOf j).toNat)
            case atStart => exact ⟨0, Nat.zero_le _, rfl, HM2.out.drewN _, below_drewN hbr _⟩
            case round =>
              obtain ⟨t, ht, rfl, HX, hbx⟩ := hrel
              by_cases htl : t < e0.cap
              · have z0 : wr.cell? ⟨g, t, none⟩ = some (.string (markS (r : Int))) := HX.out.marks r e0 g HE.out.1 HA.out hlr t htl
                have i3 : (0 : Int) ≤ (t : Int) := by omega
                have i4 : (t : Int) < (e0.cap : Int) := by omega
                go_wp2
                have hBs : B ≤ wr.heap.size := Nat.le_of_lt HX.out.br.lt
                go_region_held3 (fun w' => w'.cell? ⟨g, t, none⟩ = some (.string (markS (r : Int)))) (go_keep)
                  ((go_at_call 31; refine (mark_any _ _ _ (by omega)).mono ?_; rintro e w' ⟨rfl, rfl⟩))
                all_goals
                  go_wp2
                  go_roundw
                  case rel => exact ⟨t + 1, by omega, by go_num, (HX.out.alloc _).kept (fun _ _ => rfl), (hbx.alloc hBs _).drew⟩
                  case measure => simp [intOf]; omega
              · go_wp2
                go_roundw
                case rel => exact ⟨r + 1, by omega, by go_num, HX, hbx⟩
                case measure => simp [intOf]; omega
        · have g0 := HM2.out.br.fz 0
          have g1 := HM2.out.br.fz 1
          have g2 := HM2.out.br.fz 2
          have q1 := HM2.out.br.q1
          have q2 := HM2.out.br.q2
          go_wp2
          go_ret
          exact ⟨rfl, Below.setCell (p := ⟨B, 2, none⟩) (Below.setCell (p := ⟨B, 1, none⟩) (Below.setCell (p := ⟨B, 0, none⟩) hbr (Nat.le_refl _) _) (Nat.le_refl _) _) (Nat.le_refl _) _⟩
end Go.Proofs.YtogkchgjpflmjaaGreatDoor.Bk
/- A book of lists of texts, as a law walks it. -/
namespace Go.Proofs.YtogkchgjpflmjaaGreatDoor.Bk
open Go.ChangeShapes Go.WideShapes Go.ChangeAt Go.RowKit Go.Sort
set_option linter.unusedVariables false
set_option maxRecDepth 100000
def Apart (es : List Ent) : Prop := ∀ (i j : Nat) (e1 e2 : Ent) (g : Nat), es[i]? = some e1 → es[j]? = some e2 → e1.a = some ⟨g, 0, none⟩ → e2.a = some ⟨g, 0, none⟩ → i = j
def Books (w0 w : World) (B m F : Nat) : Prop :=
  B = w0.heap.size ∧ Below B w0 w ∧ F ≤ w.heap.size ∧ B < F ∧ ∃ es a1 a2 c1 c2 held, es.length ≤ m ∧ (0 < m → es ≠ []) ∧ BS w B es a1 a2 c1 c2 held ∧ Apart es ∧ ∀ e ∈ es, ∀ g, e.a = some ⟨g, 0, none⟩ → g < F
theorem Books.start (w : World) : Books w (w.alloc (.cells #[.slice none 0 0, .slice none 0 0, .int .i64 0, .bool false] 62)) w.heap.size 0 (w.heap.size + 1) := by
  refine ⟨rfl, (Below.refl _ _).alloc (Nat.le_refl _) _, by simp, by omega, [], none, none, 0, 0, 0, Nat.le_refl _, fun h => by omega, ⟨⟨?_, rfl, rfl, ⟨Nat.zero_le _, .inl ⟨rfl, rfl, rfl⟩⟩, ⟨Nat.zero_le _, .inl ⟨rfl, rfl, rfl⟩⟩, fun g hg => by cases hg⟩, fun e he => by cases he⟩, fun i j e1 e2 g h1 => by simp at h1, fun e he => by cases he⟩
  exact heap_alloc_new w _
theorem Books.more {w0 w w1 : World} {B m : Nat} (h : Books w0 w B m w.heap.size) (hb : Below w.heap.size w w1) : Books w0 w1 B m w.heap.size := by
  obtain ⟨h1, h2, h3, h4, es, a1, a2, c1, c2, held, e1, e2, ⟨e3, e4⟩, e5, e6⟩ := h
  have hk : K5 w w1 := fun k cur hk => hb.block k (Array.getElem?_eq_some_iff.1 hk).1
  exact ⟨h1, h2.trans (hb.mono (by omega)), hb.size, h4, es, a1, a2, c1, c2, held, e1, e2, ⟨e3.kept fun k hk => hb.block k hk, fun e he => (e4 e he).kept hk⟩, e5, e6⟩
theorem Books.grow {w0 w : World} {B m F : Nat} (h : Books w0 w B m F) : Books w0 w B m w.heap.size := by
  obtain ⟨h1, h2, h3, h4, es, a1, a2, c1, c2, held, e1, e2, e3, e5, e6⟩ := h
  exact ⟨h1, h2, Nat.le_refl _, by omega, es, a1, a2, c1, c2, held, e1, e2, e3, e5, fun e he g hg => by have := e6 e he g hg; omega⟩
theorem apart_snoc {es : List Ent} {x : Ent} {F : Nat} (h : Apart es) (hF : ∀ e ∈ es, ∀ g, e.a = some ⟨g, 0, none⟩ → g < F) (hx : ∀ g, x.a = some ⟨g, 0, none⟩ → F ≤ g) : Apart (es ++ [x]) := by
  have key : ∀ (i : Nat) (e : Ent), (es ++ [x])[i]? = some e → (es[i]? = some e) ∨ (i = es.length ∧ e = x) := by
    intro i e hi
    rw [List.getElem?_append] at hi
    split at hi
    · exact .inl hi
    · have : i - es.length = 0 := by
        apply Decidable.byContradiction
        intro hn
        rw [List.getElem?_eq_none (by simp; omega)] at hi
        cases hi
      rw [this] at hi
      simp at hi
      exact .inr ⟨by omega, hi.symm⟩
  intro i j e1 e2 g h1 h2 g1 g2
  rcases key i e1 h1 with k1 | ⟨k1, rfl⟩
  · rcases key j e2 h2 with k2 | ⟨k2, rfl⟩
    · exact h i j e1 e2 g k1 k2 g1 g2
    · have := hF e1 (List.mem_of_getElem? k1) g g1
      have := hx g g2
      omega
  · rcases key j e2 h2 with k2 | ⟨k2, rfl⟩
    · have := hF e2 (List.mem_of_getElem? k2) g g2
      have := hx g g1
      omega
    · omega
theorem apart_drop {es : List Ent} (h : Apart es) (n : Nat) : Apart (es.drop n) := by
  intro i j e1 e2 g h1 h2 g1 g2
  rw [List.getElem?_drop] at h1 h2
  have := h _ _ e1 e2 g h1 h2 g1 g2
  omega
theorem keep_books {w0 w : World} {B m F cap : Nat} {a0 : Option Addr} {L : List (List UInt8)} (h : Books w0 w B m F) (hm : m ≤ 99) (hr : OwnT w F a0 cap L) (hL : L.length ≤ 20000) :
    Calls Tryz.prog 29 #[.pointer (some ⟨B, 0, none⟩), .slice a0 L.length cap] w fun e w' => e = .returned (.tuple #[]) ∧ Books w0 w' B (m + 1) w'.heap.size := by
  obtain ⟨h1, h2, h3, h4, es, a1, a2, c1, c2, held, e1, e2, e3, e5, e6⟩ := h
  have hcap : cap ≤ 9223372036854775807 := by
    rcases hr.2.2 with ⟨x, _⟩ | ⟨g, c, cur, x, _, _, _, hcm, _⟩
    · simp only [Value.slice.injEq] at x; omega
    · simp only [Value.slice.injEq, true_and] at x; unfold maxLen at hcm; omega
  have hgF : ∀ g, a0 = some ⟨g, 0, none⟩ → F ≤ g ∧ g < w.heap.size := fun g hg => by
    subst hg
    exact World.ownsRow.lt hr.2 g rfl
  refine (keep_any B cap a0 L es a1 a2 c1 c2 held w e3 (by omega) (hr.mono (by omega)) hL hcap).mono ?_
  rintro e w' ⟨rfl, wa, wc, j, b1, b2, d1, d2, hd, hj, hS, hk, hb⟩
  refine ⟨rfl, h1, h2.trans hb, Nat.le_refl _, by have := hb.size; omega, _, b1, b2, d1, d2, hd, ?_, fun _ => ?_, hS, ?_, fun e he g hg => ?_⟩
  · simp
    omega
  · intro hnil
    have := congrArg List.length hnil
    simp at this
    omega
  · exact apart_drop (apart_snoc e5 e6 (fun g hg => (hgF g hg).1)) j
  · have hs := hb.size
    rcases List.mem_append.1 (List.mem_of_mem_drop he) with h | h
    · have := e6 e h g hg
      omega
    · simp at h
      subst h
      have := (hgF g hg).2
      omega
theorem apart_books {w0 w : World} {B m F : Nat} (h : Books w0 w B m F) (hm : m ≤ 100) (h0 : 0 < m) :
    Calls Tryz.prog 30 #[.pointer (some ⟨B, 0, none⟩), .func (.func 31) #[] #[]] w fun e w' => e = .returned (.bool true) ∧ Below B w0 w' := by
  obtain ⟨h1, h2, h3, h4, es, a1, a2, c1, c2, held, e1, e2, e3, e5, e6⟩ := h
  have hne := e2 h0
  obtain ⟨G1, o1, rfl⟩ := e3.1.o1.some_of (by simpa using hne)
  obtain ⟨G2, o2, rfl⟩ := e3.1.o2.some_of (by simpa using hne)
  refine (apart_any B es G1 o1 G2 o2 c1 c2 held w e3 (by omega) e5).mono ?_
  rintro e w' ⟨rfl, hb⟩
  exact ⟨rfl, h2.trans hb⟩
end Go.Proofs.YtogkchgjpflmjaaGreatDoor.Bk
namespace Go.Proofs.YtogkchgjpflmjaaGreatDoor
open Go.ChangeShapes Go.WideShapes Go.ChangeAt Go.RowKit Go.Sort
set_option linter.unusedVariables false
set_option maxRecDepth 100000
theorem setCell_self {w : World} {g o : Nat} {v : Value} {cs : Array Value} {T : TypeId} {r : Nat × Nat} (hb : w.heap[g]? = some (.cells cs T r)) (hc : cs[o]? = some v) : w.setCell ⟨g, o, none⟩ v = w := by
  have hcs : cs.setIfInBounds o v = cs := by
    obtain ⟨h1, h2⟩ := Array.getElem?_eq_some_iff.1 hc
    rw [Array.setIfInBounds, dif_pos h1, ← h2, Array.set_getElem_self]
  obtain ⟨hl, he⟩ := Array.getElem?_eq_some_iff.1 hb
  have hm : w.heap.modify g (fun | .cells c elem frozen => .cells (if (⟨g, o, none⟩ : Addr).spot.isSome then c else c.setIfInBounds o v) elem frozen | o => o) = w.heap := by
    apply Array.ext
    · simp
    · intro i h1 h2
      rw [Array.getElem_modify]
      split
      · rename_i hgi
        subst hgi
        rw [he]
        simp [hcs]
      · rfl
  unfold World.setCell
  exact congrArg (fun h => { w with heap := h }) hm
theorem nms_at {w0 : World} {ga : Option Addr} {gc n : Nat} {ns : List (List UInt8)} {wr : World} (h : NmS w0 ga gc ns n wr) {i : Nat} (hi : i < n) : ∃ g x, ga = some ⟨g, 0, none⟩ ∧ ns[i]? = some x ∧ w0.heap.size ≤ g ∧ g < wr.heap.size ∧ wr.cell? ⟨g, i, none⟩ = some (.string (str x)) ∧ wr.frozen? ⟨g, i, none⟩ = false ∧ ∀ w2, Below wr.heap.size wr w2 → w2.setCell ⟨g, i, none⟩ (.string (str x)) = w2 := by
  have hl := h.len
  obtain ⟨x, hx⟩ : ∃ x, ns[i]? = some x := ⟨ns[i]'(by omega), List.getElem?_eq_getElem _⟩
  rcases h.own.2 with ⟨hv, h0⟩ | ⟨g, cap, cur, hv, hlo, hg, h1, h2, h3, h4⟩
  · omega
  · injection hv with hv1 hv2 hv3
    subst hv1
    have hglt := (Array.getElem?_eq_some_iff.1 hg).1
    have hc : wr.cell? ⟨g, i, none⟩ = some (.string (str x)) := by
      rw [h.own.cellAt i (by omega), List.getElem?_map, hx]
      rfl
    refine ⟨g, x, rfl, hx, hlo, hglt, hc, ?_, fun w2 hb => ?_⟩
    · simp [World.frozen?, hg]
    · refine setCell_self ((hb.block g hglt).trans hg) ?_
      have hc2 := hc
      simp [World.cell?, hg] at hc2
      exact hc2
set_option maxHeartbeats 4000000 in
theorem names_ok (ta : Option Addr) (tc : Nat) (da : Option Addr) (dc : Nat) (ea : Option Addr) (ec : Nat) (ga : Option Addr) (gc : Nat) (u : UVal) (hu : HeldU u) (hs : ∀ s ∈ u.names, s.length ≤ 1100000) (w : World) (hT : Tab w) (hI : UnitIn w ta da ea ga u) (hn : RightN u 0) :
    Calls Tryz.prog 11 #[.agg (unitV ta tc da dc ea ec ga gc u)] w fun e w' => ∃ a' c', e = .returned (.slice a' (sortS u.names).length c') ∧ NmS w a' c' (sortS u.names) (sortS u.names).length w' := by
  have hB0 : Below w.heap.size w (w.alloc (.cells (unitV ta tc da dc ea ec ga gc u) 26)) := below_alloc w _
  have hI0 := hI.below hB0
  have hr := Hid.intro (unitRight_is ta tc da dc ea ec ga gc u hu _ (hT.alloc (.cells (unitV ta tc da dc ea ec ga gc u) 26)) hI0 0 hn)
  have hs9 := Hid.intro (fun w1 (hb : Below (w.alloc (.cells (unitV ta tc da dc ea ec ga gc u) 26)).heap.size (w.alloc (.cells (unitV ta tc da dc ea ec ga gc u) 26)) w1) => sortedNames_any ta tc da dc ea ec ga gc u hu w1 (hI0.below hb))
  have hBH := Hid.intro hB0
  have hx := heap_alloc_new w (.cells (unitV ta tc da dc ea ec ga gc u) 26)
  obtain ⟨c0, c1, c2, c3⟩ := four_read hx
  have hfr := Hid.intro (fun w1 (hb : Below (w.alloc (.cells (unitV ta tc da dc ea ec ga gc u) 26)).heap.size (w.alloc (.cells (unitV ta tc da dc ea ec ga gc u) 26)) w1) => four_read ((hb.block _ (blk_lt hx)).trans hx))
  have hlen := sortS_len u.names
  have hsm : Hid (∀ s ∈ sortS u.names, s.length ≤ 1100000) := fun s h => hs s ((sortS_perm _).mem_iff.1 h)
  have hmany : Hid ((sortS u.names).length ≤ 4000000) := by
    have l1 := labN_len u.text
    have l2 := labN_len u.data
    have l3 := hu.text.1
    have l4 := hu.data.1
    have l5 := hu.equs.1
    show (sortS u.names).length ≤ 4000000
    rw [hlen]
    unfold UVal.names
    rw [List.length_append, List.length_append, List.length_map]
    omega
  clear hB0 hI hI0 hT hn hu hs hx hlen
  unfold unitV at *
  generalize sortS u.names = ns at *
  generalize u.text.length = n1 at *
  generalize u.data.length = n2 at *
  generalize u.equs.length = n3 at *
  generalize u.globs.length = n4 at *
  go_enter Tryz.func11, Tryz.ntmps11
  go_wp2_with (first
    | (go_at_call 14
       (with_reducible refine (hr.out).mono ?_)
       rintro e w1 ⟨rfl, hb1⟩
       clear c0 c1 c2 c3
       obtain ⟨c0, c1, c2, c3⟩ := hfr.out w1 hb1
       have hb1H := Hid.intro (hBH.out.trans (hb1.mono hBH.out.size))
       have q := Hid.intro (hs9.out w1 hb1)
       clear hb1)
    | (go_at_call 38
       (with_reducible refine (q.out).mono ?_)
       rintro e w2 ⟨a', c', rfl, hN⟩
       have hN0 : Hid (NmS w a' c' ns ns.length w2) := ⟨hb1H.out.trans (hN.bel.mono hb1H.out.size), own_weaken hN.own hb1H.out.size⟩
       clear hN))
  all_goals first | omega | skip
  have hclone := Hid.intro (fun (x : List UInt8) (h : x ∈ ns) w1 => clone_any (str x) w1 (Nat.le_trans (hsm.out x h) (by omega)))
  clear c0 c1 c2 c3
  generalize ns.length = n0 at *
  go_loopw [4, 5, 13] (fun v4 v5 v13 wr => ∃ i : Nat, i ≤ n0 ∧ v13 = .int .i64 (i : Int) ∧ Hid (NmS w a' c' ns n0 wr)) (fun v4 v5 v13 wr => n0 - (intOf v13).toNat)
  case atStart => exact ⟨0, by omega, rfl, hN0⟩
  case round =>
    obtain ⟨i, hi, rfl, hS⟩ := hrel
    have hm4 := hmany.out
    by_cases hlt : i < n0
    · obtain ⟨g, x, hga, hx, hlo, hgl, hcell, hfz, hset⟩ := nms_at hS.out hlt
      subst hga
      have hlt2 : (i : Int) < (n0 : Int) := by omega
      have i0 : (0 : Int) ≤ (i : Int) := by omega
      have hcl := Hid.intro (hclone.out x (List.mem_of_getElem? hx) wr)
      have hsetH := Hid.intro hset
      have hglH := Hid.intro hgl
      have hfzH := Hid.intro hfz
      have hcellH := Hid.intro hcell
      clear hx hlo hset hgl hfz
      go_wp2_with (go_at_call 39; (with_reducible refine (hcl.out).mono ?_); rintro e w3 ⟨rfl, hb3⟩; have k0 := (hb3.cell (p := ⟨g, i, none⟩) hglH.out).trans hcellH.out; have k1 := (World.frozen?_of_block (a := ⟨g, i, none⟩) (hb3.block g hglH.out)).trans hfzH.out; have hw3 := hsetH.out w3 hb3; have hS3 := Hid.intro (hS.out.below hb3); clear hb3)
      all_goals first | omega | skip
      go_roundw
      case rel => exact ⟨i + 1, by omega, by go_num, hS3⟩
      case measure => simp [intOf]; omega
    · have hin : i = n0 := by omega
      subst hin
      have hlt3 : ¬ ((i : Int) < (i : Int)) := by omega
      go_wp2_with fail
      all_goals first | omega | skip
      go_ret
      have e9 : i = ns.length := hS.out.len
      rw [← e9]
      exact ⟨_, _, rfl, hS.out⟩
end Go.Proofs.YtogkchgjpflmjaaGreatDoor

/- spandrelkeep's Spoil: what lies in some blocks is written over, the rest stays. -/
import Derived.Test.YtmndccbeddaphaaGreatDoorBStays
import Derived.Test.YtmndccbeddaphaaGreatDoorOrd4
import Derived.Test.YtmndccbeddaphaaGreatDoorOrd14
namespace Go.Proofs.YtmndccbeddaphaaGreatDoor.Bk
open Go.Proofs.YtmndccbeddaphaaGreatDoor Go.Proofs.YtmndccbeddaphaaGreatDoor.O
open Go.ChangeShapes Go.WideShapes Go.ChangeAt Go.RowKit
set_option linter.unusedVariables false
theorem BR.kept5 {w w' : World} {B n1 n2 : Nat} {vs1 vs2 : List Value} {a1 a2 : Option Addr} {c1 c2 : Nat} {hd : Int} (h : BR w B vs1 vs2 n1 n2 a1 a2 c1 c2 hd)
    (hk : ∀ (k : Nat) (T : TypeId) (cur : Array Value), T ≠ 5 → w.heap[k]? = some (Obj.cells cur T (0, 0)) → w'.heap[k]? = w.heap[k]?) : BR w' B vs1 vs2 n1 n2 a1 a2 c1 c2 hd := by
  have ho : ∀ {a c vs}, Outer w (B + 1) a c vs → ∀ g, blk a = some g → w'.heap[g]? = w.heap[g]? := by
    intro a c vs h g hg
    rcases h.2 with ⟨rfl, _⟩ | ⟨G, off, cur, rfl, _, hh, _⟩
    · cases hg
    · simp [blk] at hg
      subst hg
      exact hk G 22 cur (by decide) hh
  exact ⟨by rw [hk B 57 _ (by decide) h.blkB]; exact h.blkB, h.l1, h.l2, h.o1.kept (ho h.o1), h.o2.kept (ho h.o2), h.ne⟩
def MarkAt (w : World) (g i j : Nat) : Prop := w.cell? ⟨g, i, none⟩ = some (.int .u8 (markB j i))
structure MS (w : World) (B : Nat) (es : List Ent) (G1 o1 G2 o2 c1 c2 : Nat) (hd : Int) (k : Nat) : Prop where
  br : BR w B (es.map Ent.val) (es.map Ent.wal) es.length es.length (some ⟨G1, o1, none⟩) (some ⟨G2, o2, none⟩) c1 c2 hd
  rows : ∀ e ∈ es, e.cap ≤ maxLen ∧ e.zs.length ≤ e.cap ∧ ((e.a = none ∧ e.cap = 0) ∨ ∃ g cur, e.a = some ⟨g, 0, none⟩ ∧ B < g ∧ w.heap[g]? = some (Obj.cells cur 5 (0, 0)) ∧ cur.size = e.cap)
  marks : ∀ (j : Nat) (e : Ent) (g : Nat), es[j]? = some e → e.a = some ⟨g, 0, none⟩ → j < k → ∀ i, i < e.cap → MarkAt w g i j
  nd : ∀ (i j : Nat) (e1 e2 : Ent) (g : Nat), es[i]? = some e1 → es[j]? = some e2 → e1.a = some ⟨g, 0, none⟩ → e2.a = some ⟨g, 0, none⟩ → i = j
theorem MS.kept {w w' : World} {B : Nat} {es : List Ent} {G1 o1 G2 o2 c1 c2 : Nat} {hd : Int} {k : Nat} (h : MS w B es G1 o1 G2 o2 c1 c2 hd k) (hk : ∀ g, g < w.heap.size → w'.heap[g]? = w.heap[g]?) : MS w' B es G1 o1 G2 o2 c1 c2 hd k := by
  refine ⟨h.br.kept hk, fun e he => ?_, fun j e g he ha hj i hi => ?_, h.nd⟩
  · obtain ⟨a1, a2, a3⟩ := h.rows e he
    refine ⟨a1, a2, ?_⟩
    rcases a3 with a3 | ⟨g, cur, x1, x2, x3, x4⟩
    · exact .inl a3
    · exact .inr ⟨g, cur, x1, x2, by rw [hk g (Array.getElem?_eq_some_iff.1 x3).1]; exact x3, x4⟩
  · obtain ⟨_, _, a3⟩ := h.rows e (List.mem_of_getElem? he)
    rcases a3 with ⟨a3, _⟩ | ⟨g', cur, x1, x2, x3, x4⟩
    · rw [a3] at ha; cases ha
    · rw [ha] at x1
      cases x1
      unfold MarkAt
      rw [World.cell?_of_block (hk g (Array.getElem?_eq_some_iff.1 x3).1)]
      exact h.marks j e g he ha hj i hi
theorem MS.drewN {w : World} {B : Nat} {es : List Ent} {G1 o1 G2 o2 c1 c2 : Nat} {hd : Int} {k : Nat} (h : MS w B es G1 o1 G2 o2 c1 c2 hd k) (q : Nat) : MS (w.drewN q) B es G1 o1 G2 o2 c1 c2 hd k := h.kept fun _ _ => rfl
theorem MS.alloc {w : World} {B : Nat} {es : List Ent} {G1 o1 G2 o2 c1 c2 : Nat} {hd : Int} {k : Nat} (h : MS w B es G1 o1 G2 o2 c1 c2 hd k) (o : Obj) : MS (w.alloc o) B es G1 o1 G2 o2 c1 c2 hd k := h.kept fun g hg => Below.heap_alloc w o g hg
theorem MS.start {w : World} {B : Nat} {es : List Ent} {G1 o1 G2 o2 c1 c2 : Nat} {hd : Int} (h : BS w B es (some ⟨G1, o1, none⟩) (some ⟨G2, o2, none⟩) c1 c2 hd)
    (hnd : ∀ (i j : Nat) (e1 e2 : Ent) (g : Nat), es[i]? = some e1 → es[j]? = some e2 → e1.a = some ⟨g, 0, none⟩ → e2.a = some ⟨g, 0, none⟩ → i = j) : MS w B es G1 o1 G2 o2 c1 c2 hd 0 :=
  ⟨h.1, fun e he => by
    obtain ⟨h1, _⟩ := h.2 e he
    rcases h1.2.2 with ⟨x, y⟩ | ⟨g, cap, cur, x, hb, hh, hnc, hcm, hcs, _⟩
    · simp only [Value.slice.injEq] at x
      exact ⟨by rw [x.2.2]; exact Nat.zero_le _, by omega, .inl ⟨x.1, x.2.2⟩⟩
    · simp only [Value.slice.injEq, true_and] at x
      obtain ⟨x1, rfl⟩ := x
      exact ⟨hcm, hnc, .inr ⟨g, cur, x1, by omega, hh, by omega⟩⟩, fun j e g _ _ hj => by omega, hnd⟩
theorem MS.facts {w : World} {B : Nat} {es : List Ent} {G1 o1 G2 o2 c1 c2 : Nat} {hd : Int} {k t : Nat} {e : Ent} (h : MS w B es G1 o1 G2 o2 c1 c2 hd k) (he : es[t]? = some e) :
    w.cell? ⟨B, 0, none⟩ = some (.slice (some ⟨G1, o1, none⟩) es.length c1) ∧ w.cell? ⟨G1, o1 + t, none⟩ = some (.slice e.a e.zs.length e.cap) := by
  have hl : t < (es.map Ent.val).length := by simpa using (List.getElem?_eq_some_iff.1 he).1
  refine ⟨h.br.q0, (h.br.o1.cell (a := none) t hl).trans ?_⟩
  rw [List.getElem?_map, he]
  rfl
theorem MS.next {w : World} {B : Nat} {es : List Ent} {G1 o1 G2 o2 c1 c2 : Nat} {hd : Int} {k : Nat} {e : Ent} (h : MS w B es G1 o1 G2 o2 c1 c2 hd k) (he : es[k]? = some e)
    (hp : ∀ g, e.a = some ⟨g, 0, none⟩ → ∀ i, i < e.cap → MarkAt w g i k) : MS w B es G1 o1 G2 o2 c1 c2 hd (k + 1) := by
  refine ⟨h.br, h.rows, fun j e1 g he1 ha hj i hi => ?_, h.nd⟩
  by_cases hjk : j = k
  · subst hjk
    rw [he] at he1
    cases he1
    exact hp g ha i hi
  · exact h.marks j e1 g he1 ha (by omega) i hi
theorem MS.cellThere {w : World} {B : Nat} {es : List Ent} {G1 o1 G2 o2 c1 c2 g : Nat} {hd : Int} {k x : Nat} {e : Ent} (h : MS w B es G1 o1 G2 o2 c1 c2 hd k) (he : e ∈ es) (ha : e.a = some ⟨g, 0, none⟩) (hx : x < e.cap) :
    (∃ v, w.cell? ⟨g, x, none⟩ = some v) ∧ w.frozen? ⟨g, x, none⟩ = false := by
  obtain ⟨_, _, a3⟩ := h.rows e he
  rcases a3 with ⟨a3, _⟩ | ⟨g', cur, x1, x2, hh, hs⟩
  · rw [a3] at ha; cases ha
  · rw [ha] at x1
    cases x1
    refine ⟨?_, frozen_of_row w g x cur 5 hh⟩
    rw [cell_of_row w g x cur 5 (0, 0) hh]
    exact ⟨cur[x]'(by omega), by simp [hs, hx]⟩
theorem cell_set {w : World} {g x y : Nat} {cur : Array Value} {v : Value} (hh : w.heap[g]? = some (Obj.cells cur 5 (0, 0))) (hx : x < cur.size) :
    (w.setCell ⟨g, x, none⟩ v).cell? ⟨g, y, none⟩ = if y = x then some v else w.cell? ⟨g, y, none⟩ := by
  rw [cell_of_row _ g y _ 5 (0, 0) (heap_setCell_same w g x cur 5 v hh), cell_of_row w g y cur 5 (0, 0) hh]
  by_cases h : y = x
  · subst h
    rw [if_pos rfl]
    simp [hx]
  · rw [if_neg h, Array.getElem?_setIfInBounds_ne (by omega)]
theorem MS.poke {w : World} {B : Nat} {es : List Ent} {G1 o1 G2 o2 c1 c2 g : Nat} {hd : Int} {k : Nat} {e : Ent} (h : MS w B es G1 o1 G2 o2 c1 c2 hd k) (he : es[k]? = some e) (ha : e.a = some ⟨g, 0, none⟩) (x : Nat) (v : Value) : MS (w.setCell ⟨g, x, none⟩ v) B es G1 o1 G2 o2 c1 c2 hd k := by
  have hoth : ∀ g', g' ≠ g → (w.setCell ⟨g, x, none⟩ v).heap[g']? = w.heap[g']? := fun g' hg => heap_setCell_other w ⟨g, x, none⟩ g' _ hg
  obtain ⟨_, _, b3⟩ := h.rows e (List.mem_of_getElem? he)
  rcases b3 with ⟨b3, _⟩ | ⟨g0, cur, y1, y2, hh, hs⟩
  · rw [b3] at ha; cases ha
  rw [ha] at y1
  cases y1
  have hsame := heap_setCell_same w g x cur 5 v hh
  refine ⟨h.br.kept5 fun g' T cu hT hg => hoth g' (fun e1 => ?_), fun e1 he1 => ?_, fun j e1 g' he1 ha1 hj i hi => ?_, h.nd⟩
  · subst e1
    rw [hh] at hg
    simp at hg
    exact hT hg.2.symm
  · obtain ⟨a1, a2, a3⟩ := h.rows e1 he1
    refine ⟨a1, a2, ?_⟩
    rcases a3 with a3 | ⟨g', cu, x1, x2, x3, x4⟩
    · exact .inl a3
    · by_cases hg : g' = g
      · subst hg
        rw [hh] at x3
        simp at x3
        subst x3
        exact .inr ⟨g', _, x1, x2, hsame, by simp [x4]⟩
      · exact .inr ⟨g', cu, x1, x2, by rw [hoth _ hg]; exact x3, x4⟩
  · have hne : g' ≠ g := fun hg => by
      subst hg
      have := h.nd j k e1 e g' he1 he ha1 ha
      omega
    unfold MarkAt
    rw [World.cell?_of_block (hoth g' hne)]
    exact h.marks j e1 g' he1 ha1 hj i hi
theorem MS.store {w : World} {B : Nat} {es : List Ent} {G1 o1 G2 o2 c1 c2 g : Nat} {hd : Int} {k t : Nat} {e : Ent} (h : MS w B es G1 o1 G2 o2 c1 c2 hd k) (he : es[k]? = some e) (ha : e.a = some ⟨g, 0, none⟩) (ht : t < e.cap)
    (hp : ∀ i, i < t → MarkAt w g i k) : MS (w.setCell ⟨g, t, none⟩ (.int .u8 (markB k t))) B es G1 o1 G2 o2 c1 c2 hd k ∧ ∀ i, i < t + 1 → MarkAt (w.setCell ⟨g, t, none⟩ (.int .u8 (markB k t))) g i k := by
  refine ⟨h.poke he ha _ _, ?_⟩
  obtain ⟨_, _, b3⟩ := h.rows e (List.mem_of_getElem? he)
  rcases b3 with ⟨b3, _⟩ | ⟨g0, cur, y1, y2, hh, hs⟩
  · rw [b3] at ha; cases ha
  rw [ha] at y1
  cases y1
  intro i hi
  unfold MarkAt
  rw [cell_set hh (by omega)]
  by_cases hit : i = t
  · subst hit
    rw [if_pos rfl]
  · rw [if_neg hit]
    exact hp i (by omega)
theorem MS.blkLt {w : World} {B : Nat} {es : List Ent} {G1 o1 G2 o2 c1 c2 g : Nat} {hd : Int} {k : Nat} {e : Ent} (h : MS w B es G1 o1 G2 o2 c1 c2 hd k) (he : e ∈ es) (ha : e.a = some ⟨g, 0, none⟩) : g < w.heap.size := by
  obtain ⟨_, _, b3⟩ := h.rows e he
  rcases b3 with ⟨b3, _⟩ | ⟨g0, cur, y1, y2, hh, hs⟩
  · rw [b3] at ha; cases ha
  · rw [ha] at y1
    cases y1
    exact (Array.getElem?_eq_some_iff.1 hh).1
set_option maxRecDepth 100000 in
set_option maxHeartbeats 3200000 in
theorem apart_any (B : Nat) (es : List Ent) (G1 o1 G2 o2 c1 c2 : Nat) (held : Int) (w : World) (hS : BS w B es (some ⟨G1, o1, none⟩) (some ⟨G2, o2, none⟩) c1 c2 held) (hn : es.length ≤ 4000)
    (hnd : ∀ (i j : Nat) (e1 e2 : Ent) (g : Nat), es[i]? = some e1 → es[j]? = some e2 → e1.a = some ⟨g, 0, none⟩ → e2.a = some ⟨g, 0, none⟩ → i = j) :
    Calls Tryz.prog 25 #[.pointer (some ⟨B, 0, none⟩), .func (.func 26) #[] #[]] w fun e w' => e = .returned (.bool true) ∧ Below B w w' := by
  obtain ⟨n, hne⟩ : ∃ n, n = es.length := ⟨_, rfl⟩
  have hn' : n ≤ 4000 := by omega
  have hst := stays_any B es G1 o1 G2 o2 c1 c2 held w hS hn
  have HN := Hid.intro hne
  have HD := Hid.intro hnd
  have HST := Hid.intro hst
  clear hne hn hnd hS hst
  go_enter Tryz.func25, Tryz.ntmps25
  go_wp2_with (go_at_call 58; refine (HST.out).mono ?_; rintro e w1 ⟨rfl, hS1, k51, hb1⟩)
  have HS : Hid (MS w1 B es G1 o1 G2 o2 c1 c2 held 0) := MS.start hS1 HD.out
  clear hS1 k51 HST
  go_loopw [5] (fun i wr => ∃ k : Nat, k ≤ n ∧ i = .int .i64 k ∧ Hid (MS wr B es G1 o1 G2 o2 c1 c2 held k) ∧ Below B w wr) (fun i _ => n - (intOf i).toNat)
  case atStart => exact ⟨0, Nat.zero_le _, rfl, HS, hb1⟩
  case round =>
    obtain ⟨k, hk, rfl, HM, hb⟩ := hrel
    have q0 := HM.out.br.q0
    rw [← HN.out] at q0
    by_cases hlt : k < n
    · obtain ⟨e0, he0⟩ : ∃ e0, es[k]? = some e0 := ⟨es[k]'(by rw [← HN.out]; exact hlt), List.getElem?_eq_getElem _⟩
      have hmem : e0 ∈ es := List.mem_of_getElem? he0
      have p1 := (HM.out.facts he0).2
      obtain ⟨hcm, hzc, hrow⟩ := HM.out.rows e0 hmem
      have HE : Hid (es[k]? = some e0 ∧ e0 ∈ es) := ⟨he0, hmem⟩
      have i1 : (0 : Int) ≤ (k : Int) := by omega
      have i2 : (k : Int) < (n : Int) := by omega
      unfold maxLen at hcm
      clear he0 hmem
      rcases hrow with ⟨ha, hc0⟩ | ⟨g, cur, ha, hBg, hh, hcs⟩
      · have hz0 : e0.zs.length = 0 := by omega
        rw [ha, hc0, hz0] at p1
        have HA := Hid.intro ha
        clear ha hc0 hz0 hcm hzc
        go_wp2
        go_quiet (fail)
        go_wp2
        clear q0 p1
        go_loop [7] (fun j => j = .int .i64 0) (fun _ => 0)
        case atStart => rfl
        case round =>
          subst hrel
          have HX : Hid (MS (wr.drewN nq) B es G1 o1 G2 o2 c1 c2 held (k + 1)) := (HM.out.drewN nq).next HE.out.1 (fun g hg => by rw [HA.out] at hg; cases hg)
          go_wp2
          go_roundw
          case rel => exact ⟨k + 1, by omega, by go_num, HX, below_drewN hb nq⟩
          case measure => simp [intOf]; omega
      · have HA := Hid.intro ha
        rw [ha] at p1
        clear ha hh hcs
        go_wp2
        go_quiet (fail)
        go_wp2
        clear q0 p1
        go_loopw [7] (fun j wx => ∃ t : Nat, t ≤ e0.cap ∧ j = .int .i64 t ∧ Hid (MS wx B es G1 o1 G2 o2 c1 c2 held k) ∧ Hid (∀ i, i < t → MarkAt wx g i k) ∧ Below B w wx) (fun j _ => e0.cap - (intOf j).toNat)
        case atStart => exact ⟨0, Nat.zero_le _, rfl, HM.out.drewN _, fun i hi => by omega, below_drewN hb _⟩
        case round =>
          obtain ⟨t, ht, rfl, hMx, hpx, hbx⟩ := hrel
          by_cases htl : t < e0.cap
          · obtain ⟨⟨v0, z0⟩, y0⟩ := hMx.out.cellThere HE.out.2 HA.out (x := t) htl
            have HX : Hid (MS (wr.setCell ⟨g, t, none⟩ (.int .u8 (markB k t))) B es G1 o1 G2 o2 c1 c2 held k ∧ ∀ i, i < t + 1 → MarkAt (wr.setCell ⟨g, t, none⟩ (.int .u8 (markB k t))) g i k) :=
              hMx.out.store HE.out.1 HA.out htl hpx.out
            have i3 : (0 : Int) ≤ (t : Int) := by omega
            have i4 : (t : Int) < (e0.cap : Int) := by omega
            clear hMx hpx HM
            go_wp2_with (go_at_call 26; refine (bytes_any _ _ _ (by omega) (by omega)).mono ?_; rintro e w' ⟨rfl, rfl⟩)
            go_roundw
            case rel => exact ⟨t + 1, by omega, by go_num, HX.out.1, HX.out.2, Below.setCell (p := ⟨g, t, none⟩) hbx (by show B ≤ g; omega) _⟩
            case measure => simp [intOf]; omega
          · have e : t = e0.cap := by omega
            subst e
            have HX : Hid (MS wr B es G1 o1 G2 o2 c1 c2 held (k + 1)) := hMx.out.next HE.out.1 (fun g' hg' => by rw [HA.out] at hg'; cases hg'; exact hpx.out)
            clear hMx hpx
            go_wp2
            go_roundw
            case rel => exact ⟨k + 1, by omega, by go_num, HX, hbx⟩
            case measure => simp [intOf]; omega
    · have e : k = n := by omega
      subst e
      go_wp2
      clear q0
      go_loopw [8] (fun i wx => ∃ r : Nat, r ≤ k ∧ i = .int .i64 r ∧ Hid (MS wx B es G1 o1 G2 o2 c1 c2 held k) ∧ Below B w wx) (fun i _ => k - (intOf i).toNat)
      case atStart => exact ⟨0, Nat.zero_le _, rfl, HM, hb⟩
      case round =>
        clear HM
        obtain ⟨r, hr, rfl, HM2, hbr⟩ := hrel
        have q0 := HM2.out.br.q0
        rw [← HN.out] at q0
        by_cases hlr : r < k
        · obtain ⟨e0, he0⟩ : ∃ e0, es[r]? = some e0 := ⟨es[r]'(by rw [← HN.out]; exact hlr), List.getElem?_eq_getElem _⟩
          have hmem : e0 ∈ es := List.mem_of_getElem? he0
          have p1 := (HM2.out.facts he0).2
          obtain ⟨hcm, hzc, hrow⟩ := HM2.out.rows e0 hmem
          have HE : Hid (es[r]? = some e0 ∧ e0 ∈ es) := ⟨he0, hmem⟩
          have i1 : (0 : Int) ≤ (r : Int) := by omega
          have i2 : (r : Int) < (k : Int) := by omega
          unfold maxLen at hcm
          clear he0 hmem
          rcases hrow with ⟨ha, hc0⟩ | ⟨g, cur, ha, hBg, hh, hcs⟩
          · have hz0 : e0.zs.length = 0 := by omega
            rw [ha, hc0, hz0] at p1
            clear ha hc0 hz0 hcm hzc
            go_wp2
            go_quiet (fail)
            go_wp2
            clear q0 p1
            go_loop [10] (fun j => j = .int .i64 0) (fun _ => 0)
            case atStart => rfl
            case round =>
              subst hrel
              have HX : Hid (MS (wr.drewN nq) B es G1 o1 G2 o2 c1 c2 held k) := HM2.out.drewN nq
              go_wp2
              go_roundw
              case rel => exact ⟨r + 1, by omega, by go_num, HX, below_drewN hbr nq⟩
              case measure => simp [intOf]; omega
          · have HA := Hid.intro ha
            rw [ha] at p1
            clear ha hh hcs
            go_wp2
            go_quiet (fail)
            go_wp2
            clear q0 p1
            go_loopw [10] (fun j wx => ∃ t : Nat, t ≤ e0.cap ∧ j = .int .i64 t ∧ Hid (MS wx B es G1 o1 G2 o2 c1 c2 held k) ∧ Below B w wx) (fun j _ => e0.cap - (intOf j).toNat)
            case atStart => exact ⟨0, Nat.zero_le _, rfl, HM2.out.drewN _, below_drewN hbr _⟩
            case round =>
              obtain ⟨t, ht, rfl, HX, hbx⟩ := hrel
              by_cases htl : t < e0.cap
              · have z0 : wr.cell? ⟨g, t, none⟩ = some (.int .u8 (markB r t)) := HX.out.marks r e0 g HE.out.1 HA.out hlr t htl
                have i3 : (0 : Int) ≤ (t : Int) := by omega
                have i4 : (t : Int) < (e0.cap : Int) := by omega
                go_wp2
                go_quiet ((go_at_call 26; exact Calls.quiet_of_same (bytes_any _ _ _ (by omega) (by omega))))
                go_wp2
                go_roundw
                case rel => exact ⟨t + 1, by omega, by go_num, HX.out.drewN _, below_drewN hbx _⟩
                case measure => simp [intOf]; omega
              · go_wp2
                go_roundw
                case rel => exact ⟨r + 1, by omega, by go_num, HX, hbx⟩
                case measure => simp [intOf]; omega
        · have g0 := HM2.out.br.fz 0
          have g1 := HM2.out.br.fz 1
          have g2 := HM2.out.br.fz 2
          have q1 := HM2.out.br.q1
          have q2 := HM2.out.br.q2
          go_wp2
          go_ret
          exact ⟨rfl, Below.setCell (p := ⟨B, 2, none⟩) (Below.setCell (p := ⟨B, 1, none⟩) (Below.setCell (p := ⟨B, 0, none⟩) hbr (Nat.le_refl _) _) (Nat.le_refl _) _) (Nat.le_refl _) _⟩
end Go.Proofs.YtmndccbeddaphaaGreatDoor.Bk
namespace Go.Proofs.YtmndccbeddaphaaGreatDoor.Bk
open Go.Proofs.YtmndccbeddaphaaGreatDoor Go.Proofs.YtmndccbeddaphaaGreatDoor.O
open Go.ChangeShapes Go.WideShapes Go.ChangeAt Go.RowKit
set_option linter.unusedVariables false
def Apart (es : List Ent) : Prop := ∀ (i j : Nat) (e1 e2 : Ent) (g : Nat), es[i]? = some e1 → es[j]? = some e2 → e1.a = some ⟨g, 0, none⟩ → e2.a = some ⟨g, 0, none⟩ → i = j
def Books (w0 w : World) (B m F : Nat) : Prop :=
  B = w0.heap.size ∧ Below B w0 w ∧ F ≤ w.heap.size ∧ B < F ∧ ∃ es a1 a2 c1 c2 held, es.length ≤ m ∧ (0 < m → es ≠ []) ∧ BS w B es a1 a2 c1 c2 held ∧ Apart es ∧ ∀ e ∈ es, ∀ g, e.a = some ⟨g, 0, none⟩ → g < F
theorem Books.start (w : World) : Books w (w.alloc (.cells #[.slice none 0 0, .slice none 0 0, .int .i64 0, .bool false] 57)) w.heap.size 0 (w.heap.size + 1) := by
  refine ⟨rfl, (Below.refl _ _).alloc (Nat.le_refl _) _, by simp, by omega, [], none, none, 0, 0, 0, Nat.le_refl _, fun h => by omega, ⟨⟨?_, rfl, rfl, ⟨Nat.zero_le _, .inl ⟨rfl, rfl, rfl⟩⟩, ⟨Nat.zero_le _, .inl ⟨rfl, rfl, rfl⟩⟩, fun g hg => by cases hg⟩, fun e he => by cases he⟩, fun i j e1 e2 g h1 => by simp at h1, fun e he => by cases he⟩
  exact heap_alloc_new w _
theorem Books.more {w0 w w1 : World} {B m : Nat} (h : Books w0 w B m w.heap.size) (hb : Below w.heap.size w w1) : Books w0 w1 B m w.heap.size := by
  obtain ⟨h1, h2, h3, h4, es, a1, a2, c1, c2, held, e1, e2, ⟨e3, e4⟩, e5, e6⟩ := h
  have hk : K5 w w1 := fun k cur hk => hb.block k (Array.getElem?_eq_some_iff.1 hk).1
  exact ⟨h1, h2.trans (hb.mono (by omega)), hb.size, h4, es, a1, a2, c1, c2, held, e1, e2, ⟨e3.kept fun k hk => hb.block k hk, fun e he => (e4 e he).kept hk⟩, e5, e6⟩
theorem Books.grow {w0 w : World} {B m F : Nat} (h : Books w0 w B m F) : Books w0 w B m w.heap.size := by
  obtain ⟨h1, h2, h3, h4, es, a1, a2, c1, c2, held, e1, e2, e3, e5, e6⟩ := h
  exact ⟨h1, h2, Nat.le_refl _, by omega, es, a1, a2, c1, c2, held, e1, e2, e3, e5, fun e he g hg => by have := e6 e he g hg; omega⟩
theorem apart_snoc {es : List Ent} {x : Ent} {F : Nat} (h : Apart es) (hF : ∀ e ∈ es, ∀ g, e.a = some ⟨g, 0, none⟩ → g < F) (hx : ∀ g, x.a = some ⟨g, 0, none⟩ → F ≤ g) : Apart (es ++ [x]) := by
  have key : ∀ (i : Nat) (e : Ent), (es ++ [x])[i]? = some e → (es[i]? = some e) ∨ (i = es.length ∧ e = x) := by
    intro i e hi
    rw [List.getElem?_append] at hi
    split at hi
    · exact .inl hi
    · have : i - es.length = 0 := by
        apply Decidable.byContradiction
        intro hn
        rw [List.getElem?_eq_none (by simp; omega)] at hi
        cases hi
      rw [this] at hi
      simp at hi
      exact .inr ⟨by omega, hi.symm⟩
  intro i j e1 e2 g h1 h2 g1 g2
  rcases key i e1 h1 with k1 | ⟨k1, rfl⟩
  · rcases key j e2 h2 with k2 | ⟨k2, rfl⟩
    · exact h i j e1 e2 g k1 k2 g1 g2
    · have := hF e1 (List.mem_of_getElem? k1) g g1
      have := hx g g2
      omega
  · rcases key j e2 h2 with k2 | ⟨k2, rfl⟩
    · have := hF e2 (List.mem_of_getElem? k2) g g2
      have := hx g g1
      omega
    · omega
theorem apart_drop {es : List Ent} (h : Apart es) (n : Nat) : Apart (es.drop n) := by
  intro i j e1 e2 g h1 h2 g1 g2
  rw [List.getElem?_drop] at h1 h2
  have := h _ _ e1 e2 g h1 h2 g1 g2
  omega
theorem keep_books {w0 w : World} {B m F cap : Nat} {a0 : Option Addr} {L : List Int} (h : Books w0 w B m F) (hm : m ≤ 99) (hr : OwnT w F a0 cap L) (hL : L.length ≤ 1048576) :
    Calls Tryz.prog 22 #[.pointer (some ⟨B, 0, none⟩), .slice a0 L.length cap] w fun e w' => e = .returned (.tuple #[]) ∧ Books w0 w' B (m + 1) w'.heap.size := by
  obtain ⟨h1, h2, h3, h4, es, a1, a2, c1, c2, held, e1, e2, e3, e5, e6⟩ := h
  have hcap : cap ≤ 9223372036854775807 := by
    rcases hr.2.2 with ⟨x, _⟩ | ⟨g, c, cur, x, _, _, _, hcm, _⟩
    · simp only [Value.slice.injEq] at x; omega
    · simp only [Value.slice.injEq, true_and] at x; unfold maxLen at hcm; omega
  have hgF : ∀ g, a0 = some ⟨g, 0, none⟩ → F ≤ g ∧ g < w.heap.size := fun g hg => by
    subst hg
    exact World.ownsRow.lt hr.2 g rfl
  refine (keep_any B cap a0 L es a1 a2 c1 c2 held w e3 (by omega) (hr.mono (by omega)) hL hcap).mono ?_
  rintro e w' ⟨rfl, wa, wc, j, b1, b2, d1, d2, hd, hj, hS, hk, hb⟩
  refine ⟨rfl, h1, h2.trans hb, Nat.le_refl _, by have := hb.size; omega, _, b1, b2, d1, d2, hd, ?_, fun _ => ?_, hS, ?_, fun e he g hg => ?_⟩
  · simp
    omega
  · intro hnil
    have := congrArg List.length hnil
    simp at this
    omega
  · exact apart_drop (apart_snoc e5 e6 (fun g hg => (hgF g hg).1)) j
  · have hs := hb.size
    rcases List.mem_append.1 (List.mem_of_mem_drop he) with h | h
    · have := e6 e h g hg
      omega
    · simp at h
      subst h
      have := (hgF g hg).2
      omega
theorem apart_books {w0 w : World} {B m F : Nat} (h : Books w0 w B m F) (hm : m ≤ 100) (h0 : 0 < m) :
    Calls Tryz.prog 25 #[.pointer (some ⟨B, 0, none⟩), .func (.func 26) #[] #[]] w fun e w' => e = .returned (.bool true) ∧ Below B w0 w' := by
  obtain ⟨h1, h2, h3, h4, es, a1, a2, c1, c2, held, e1, e2, e3, e5, e6⟩ := h
  have hne := e2 h0
  obtain ⟨G1, o1, rfl⟩ := e3.1.o1.some_of (by simpa using hne)
  obtain ⟨G2, o2, rfl⟩ := e3.1.o2.some_of (by simpa using hne)
  refine (apart_any B es G1 o1 G2 o2 c1 c2 held w e3 (by omega) e5).mono ?_
  rintro e w' ⟨rfl, hb⟩
  exact ⟨rfl, h2.trans hb⟩
end Go.Proofs.YtmndccbeddaphaaGreatDoor.Bk
namespace Go.Proofs.YtmndccbeddaphaaGreatDoor
open Go.ChangeShapes Go.WideShapes Go.ChangeAt Go.RowKit Go.Sort
set_option linter.unusedVariables false
set_option linter.unusedSimpArgs false
set_option maxRecDepth 100000
structure Spx (lo hi : Nat) (F : Nat → TypeId → Prop) (w w' : World) : Prop where
  os : w'.os = w.os
  tape : w'.tape = w.tape
  output : w'.output = w.output
  size : w.heap.size ≤ w'.heap.size
  out : ∀ k, k < w.heap.size → (k < lo ∨ hi ≤ k) → w'.heap[k]? = w.heap[k]?
  shp : ∀ (k : Nat) (cur : Array Value) (T : TypeId), w.heap[k]? = some (.cells cur T (0, 0)) → ∃ cur' : Array Value, w'.heap[k]? = some (.cells cur' T (0, 0)) ∧ cur'.size = cur.size
  far : ∀ (k : Nat) (cur : Array Value) (T : TypeId), w.heap[k]? = some (.cells cur T (0, 0)) → ¬ F k T → w'.heap[k]? = w.heap[k]?
theorem Spx.refl (lo hi : Nat) (F : Nat → TypeId → Prop) (w : World) : Spx lo hi F w w := ⟨rfl, rfl, rfl, Nat.le_refl _, fun _ _ _ => rfl, fun _ cur _ h => ⟨cur, h, rfl⟩, fun _ _ _ _ _ => rfl⟩
theorem Spx.trans {lo hi : Nat} {F : Nat → TypeId → Prop} {a b c : World} (h : Spx lo hi F a b) (k : Spx lo hi F b c) : Spx lo hi F a c := by
  refine ⟨k.os.trans h.os, k.tape.trans h.tape, k.output.trans h.output, Nat.le_trans h.size k.size, fun i h1 h2 => (k.out i (Nat.lt_of_lt_of_le h1 h.size) h2).trans (h.out i h1 h2), fun i cur T hb => ?_, fun i cur T hb hF => ?_⟩
  · obtain ⟨c1, h1, h2⟩ := h.shp i cur T hb
    obtain ⟨c2, h3, h4⟩ := k.shp i c1 T h1
    exact ⟨c2, h3, h4.trans h2⟩
  · have e := h.far i cur T hb hF
    exact (k.far i cur T (e.trans hb) hF).trans e
theorem Spx.mono {lo hi : Nat} {F F' : Nat → TypeId → Prop} {w w' : World} (h : Spx lo hi F w w') (hF : ∀ k T, F k T → F' k T) : Spx lo hi F' w w' :=
  ⟨h.os, h.tape, h.output, h.size, h.out, h.shp, fun k cur T hb hn => h.far k cur T hb (fun x => hn (hF k T x))⟩
theorem Spx.set {lo hi : Nat} {F : Nat → TypeId → Prop} {w : World} {g : Nat} {cur : Array Value} {T : TypeId} (hb : w.heap[g]? = some (.cells cur T (0, 0))) (h1 : lo ≤ g) (h2 : g < hi) (hF : F g T) (j : Nat) (y : Value) : Spx lo hi F w (w.setCell ⟨g, j, none⟩ y) := by
  obtain ⟨r, hg⟩ := row_set hb j y
  refine ⟨hg.os, hg.tape, hg.output, hg.size, fun k hk ho => hg.block k hk (fun e => ?_), fun k cu T' hk => ?_, fun k cu T' hk hn => hg.block k (blk_lt hk) (fun e => ?_)⟩
  · cases e; omega
  · by_cases e : k = g
    · subst e
      rw [hb] at hk
      cases hk
      exact ⟨_, r, by simp⟩
    · exact ⟨cu, (hg.block k (blk_lt hk) (fun x => e (by cases x; rfl))).trans hk, rfl⟩
  · cases e
    rw [hb] at hk
    cases hk
    exact hn hF
theorem spx_below {lo hi : Nat} {F : Nat → TypeId → Prop} {w w' : World} (h : Below w.heap.size w w') : Spx lo hi F w w' :=
  ⟨h.os, h.tape, h.output, h.size, fun k hk _ => h.block k hk, fun k cur T hb => ⟨cur, (h.block k (blk_lt hb)).trans hb, rfl⟩, fun k cur T hb _ => h.block k (blk_lt hb)⟩
def STm (w : World) (lo hi : Nat) (v : Value) : Prop := ∃ a n c, v = .slice a n c ∧ n ≤ 4611686018427387904 ∧ (0 < n → ∃ g cur, a = some ⟨g, 0, none⟩ ∧ lo ≤ g ∧ g < hi ∧ w.heap[g]? = some (.cells cur 107 (0, 0)) ∧ n * 2 ≤ cur.size)
theorem STm.keep {w w' : World} {lo hi : Nat} {v : Value} {F : Nat → TypeId → Prop} (h : STm w lo hi v) (hs : Spx lo hi F w w') : STm w' lo hi v := by
  obtain ⟨a, n, c, hv, hn, h⟩ := h
  refine ⟨a, n, c, hv, hn, fun h0 => ?_⟩
  obtain ⟨g, cur, ha, h1, h2, hb, hl⟩ := h h0
  obtain ⟨cur', hb', hs'⟩ := hs.shp g cur 107 hb
  exact ⟨g, cur', ha, h1, h2, hb', by omega⟩
def SMid (w : World) (lo hi : Nat) (T : TypeId) (sz off g n i : Nat) : Prop := ∃ cur : Array Value, w.heap[g]? = some (.cells cur T (0, 0)) ∧ n * sz ≤ cur.size ∧ ∀ j, i ≤ j → j < n → ∃ v, cur[j * sz + off]? = some v ∧ STm w lo hi v
theorem SMid.keep {w w' : World} {lo hi : Nat} {T : TypeId} {sz off g n i : Nat} {F : Nat → TypeId → Prop} (h : SMid w lo hi T sz off g n i) (hs : Spx lo hi F w w') (hF : ¬ F g T) : SMid w' lo hi T sz off g n i := by
  obtain ⟨cur, hb, hl, h⟩ := h
  refine ⟨cur, (hs.far g cur T hb hF).trans hb, hl, fun j h1 h2 => ?_⟩
  obtain ⟨v, hv, ht⟩ := h j h1 h2
  exact ⟨v, hv, ht.keep hs⟩
theorem SMid.up {w : World} {lo hi : Nat} {T : TypeId} {sz off g n i : Nat} (h : SMid w lo hi T sz off g n i) : SMid w lo hi T sz off g n (i + 1) := by
  obtain ⟨cur, hb, hl, h⟩ := h
  exact ⟨cur, hb, hl, fun j h1 h2 => h j (by omega) h2⟩
theorem SMid.set {w : World} {lo hi : Nat} {T : TypeId} {sz off g n i : Nat} (h : SMid w lo hi T sz off g n i) (h1 : lo ≤ g) (h2 : g < hi) {m : Nat} (hm : m < i * sz) (y : Value) : SMid (w.setCell ⟨g, m, none⟩ y) lo hi T sz off g n i := by
  obtain ⟨cur, hb, hl, h⟩ := h
  obtain ⟨r, _⟩ := row_set hb m y
  refine ⟨_, r, by simpa using hl, fun j h3 h4 => ?_⟩
  obtain ⟨v, hv, ht⟩ := h j h3 h4
  refine ⟨v, ?_, ht.keep (Spx.set (F := fun _ _ => True) hb h1 h2 trivial m y)⟩
  have := Nat.mul_le_mul_right sz h3
  rw [Array.getElem?_setIfInBounds_ne (by omega)]
  exact hv
theorem spx_row {lo hi : Nat} {T : TypeId} {sz off g n i : Nat} {F : Nat → TypeId → Prop} (h1 : lo ≤ g) (h2 : g < hi) (hF : F g T) : ∀ (vs : List Value) {w : World} (k : Nat), SMid w lo hi T sz off g n i → k + vs.length ≤ i * sz → SMid (setRow9 w g k vs) lo hi T sz off g n i ∧ Spx lo hi F w (setRow9 w g k vs) := by
  intro vs
  induction vs with
  | nil => intro w k h _; exact ⟨h, Spx.refl _ _ _ _⟩
  | cons v vs ih =>
    intro w k h hk
    simp only [List.length_cons] at hk
    have hs := h.set h1 h2 (m := k) (by omega) v
    obtain ⟨cur, hb, _⟩ := h
    obtain ⟨r1, r2⟩ := ih (k + 1) hs (by omega)
    exact ⟨r1, (Spx.set hb h1 h2 hF k v).trans r2⟩
def SRw (w : World) (lo hi : Nat) (T : TypeId) (sz off : Nat) (a : Option Addr) (n i : Nat) : Prop := i < n → ∃ g, a = some ⟨g, 0, none⟩ ∧ lo ≤ g ∧ g < hi ∧ SMid w lo hi T sz off g n i
theorem SRw.keep {w w' : World} {lo hi : Nat} {T : TypeId} {sz off n i : Nat} {a : Option Addr} {F : Nat → TypeId → Prop} (h : SRw w lo hi T sz off a n i) (hs : Spx lo hi F w w') (hF : ∀ g, a = some ⟨g, 0, none⟩ → ¬ F g T) : SRw w' lo hi T sz off a n i := by
  intro hi'
  obtain ⟨g, ha, h1, h2, h⟩ := h hi'
  exact ⟨g, ha, h1, h2, h.keep hs (hF g ha)⟩
def SGl (w : World) (lo hi : Nat) (a : Option Addr) (n : Nat) : Prop := 0 < n → ∃ g cur, a = some ⟨g, 0, none⟩ ∧ lo ≤ g ∧ g < hi ∧ w.heap[g]? = some (.cells cur 9 (0, 0)) ∧ n ≤ cur.size
theorem SGl.keep {w w' : World} {lo hi n : Nat} {a : Option Addr} {F : Nat → TypeId → Prop} (h : SGl w lo hi a n) (hs : Spx lo hi F w w') : SGl w' lo hi a n := by
  intro h0
  obtain ⟨g, cur, ha, h1, h2, hb, hl⟩ := h h0
  obtain ⟨cur', hb', hs'⟩ := hs.shp g cur 9 hb
  exact ⟨g, cur', ha, h1, h2, hb', by omega⟩
theorem stm_own {w : World} {lo hi n : Nat} {v : Value} {xs : List Value} (h : w.ownsRow lo 107 2 v n xs) (hn : n ≤ 4611686018427387904) (hh : w.heap.size ≤ hi) : STm w lo hi v := by
  rcases h.2 with ⟨hv, h0⟩ | ⟨g, cap, cur, hv, hlo, hb, hc, _, hs, _⟩
  · exact ⟨none, 0, 0, hv, by omega, fun h => by omega⟩
  · exact ⟨_, n, cap, hv, hn, fun _ => ⟨g, cur, rfl, hlo, Nat.lt_of_lt_of_le (blk_lt hb) hh, hb, by omega⟩⟩
theorem srw_items {w : World} {lo hi n c : Nat} {a : Option Addr} {p : List (Itm × Value)} (h : ItOwn lo w (.slice a n c) p) (hp : p.length = n) (hf : ∀ q ∈ p, q.1.e.terms.length ≤ 4611686018427387904) (hh : w.heap.size ≤ hi) : SRw w lo hi 86 10 7 a n 0 := by
  intro h0
  have hr := h.row
  rw [hp] at hr
  rcases hr.2 with ⟨hv, h0'⟩ | ⟨g, cap, cur, hv, hlo, hb, hc, _, hs, ht⟩
  · omega
  · cases hv
    refine ⟨g, rfl, hlo, Nat.lt_of_lt_of_le (blk_lt hb) hh, cur, hb, by rw [hs]; exact Nat.mul_le_mul_right 10 hc, fun j _ hj => ?_⟩
    have hq : p[j]? = some (p[j]'(by omega)) := List.getElem?_eq_getElem _
    have hat : (rowI p)[j * 10 + 7]? = some (p[j]'(by omega)).2 := flat_at (fun q : Itm × Value => (itmCells q.1 q.2).toList) 10 (fun _ => rfl) p j 7 _ hq (by omega)
    rw [← ht, List.getElem?_take_of_lt (by omega)] at hat
    refine ⟨_, by rw [← Array.getElem?_toList]; exact hat, stm_own (h.each _ (List.getElem_mem _)) (hf _ (List.getElem_mem _)) hh⟩
theorem srw_equs {w : World} {lo hi n c : Nat} {a : Option Addr} {p : List ((List UInt8 × Lin) × Value)} (h : EqOw lo w (.slice a n c) p) (hp : p.length = n) (hf : ∀ q ∈ p, q.1.2.terms.length ≤ 4611686018427387904) (hh : w.heap.size ≤ hi) : SRw w lo hi 90 3 1 a n 0 := by
  intro h0
  have hr := h.row
  rw [hp] at hr
  rcases hr.2 with ⟨hv, h0'⟩ | ⟨g, cap, cur, hv, hlo, hb, hc, _, hs, ht⟩
  · omega
  · cases hv
    refine ⟨g, rfl, hlo, Nat.lt_of_lt_of_le (blk_lt hb) hh, cur, hb, by rw [hs]; exact Nat.mul_le_mul_right 3 hc, fun j _ hj => ?_⟩
    have hq : p[j]? = some (p[j]'(by omega)) := List.getElem?_eq_getElem _
    have hat : (rowE p)[j * 3 + 1]? = some (p[j]'(by omega)).2 := flat_at (fun q : Eqv × Value => (eqCells q.1 q.2).toList) 3 (fun _ => rfl) p j 1 _ hq (by omega)
    rw [← ht, List.getElem?_take_of_lt (by omega)] at hat
    refine ⟨_, by rw [← Array.getElem?_toList]; exact hat, stm_own (h.each _ (List.getElem_mem _)) (hf _ (List.getElem_mem _)) hh⟩
theorem sgl_own {w : World} {lo hi n c : Nat} {a : Option Addr} {xs : List Value} (h : w.ownsRow lo 9 1 (.slice a n c) n xs) (hh : w.heap.size ≤ hi) : SGl w lo hi a n := by
  intro h0
  rcases h.2 with ⟨hv, h0'⟩ | ⟨g, cap, cur, hv, hlo, hb, hc, _, hs, _⟩
  · omega
  · cases hv
    exact ⟨g, cur, rfl, hlo, Nat.lt_of_lt_of_le (blk_lt hb) hh, hb, by omega⟩
end Go.Proofs.YtmndccbeddaphaaGreatDoor

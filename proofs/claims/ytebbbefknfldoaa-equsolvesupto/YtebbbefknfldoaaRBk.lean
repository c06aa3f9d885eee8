/- The document's Back, walked. -/
import Derived.Test.YtebbbefknfldoaaMtM
import Derived.Test.YtebbbefknfldoaaCyc1
import Derived.Deep.DeepCutAuto
/- The document's met, walked. -/
namespace Go.Proofs.Ytebbbefknfldoaa
open Go.ChangeShapes Go.WideShapes Go.ChangeAt Go.RowKit
set_option linter.unusedVariables false
set_option linter.unusedSimpArgs false
set_option maxRecDepth 100000
def boolR (n : Nat) (m : Nat → Nat) : Array Value := ((List.range n).map fun i => Value.bool (m i != 0)).toArray
theorem boolR_size (n : Nat) (m : Nat → Nat) : (boolR n m).size = n := by simp [boolR]
theorem boolR_get (n : Nat) (m : Nat → Nat) (i : Nat) (hi : i < n) : (boolR n m)[i]? = some (.bool (m i != 0)) := by simp [boolR, hi]
theorem boolR_set (n : Nat) (m : Nat → Nat) (i : Nat) (hi : i < n) : (boolR n m).setIfInBounds i (.bool true) = boolR n (Ta.upd m i 1) := by
  unfold boolR
  rw [List.setIfInBounds_toArray]
  congr 1
  apply List.ext_getElem?
  intro j
  rw [List.getElem?_set, List.getElem?_map, List.getElem?_map]
  by_cases hj : i = j
  · subst hj
    simp [hi, Ta.upd]
  · rw [if_neg hj]
    by_cases hj2 : j < n
    · simp [hj2, Ta.upd, Ne.symm hj]
    · rw [List.getElem?_eq_none (by simp; omega)]
      rfl
structure MM (w wr : World) (n : Nat) (m : Nat → Nat) (ws : List Nat) (aw : Option Addr) (cw : Nat) : Prop where
  bel : Below w.heap.size w wr
  seen : wr.heap[w.heap.size]? = some (.cells (boolR n m) 4 (0, 0))
  row : wr.ownsRow w.heap.size 3 1 (.slice aw ws.length cw) ws.length (rowN ws)
open Classical in
noncomputable def leftW (n gs : Nat) (wr : World) : Nat := Ta.left n fun j => if wr.cell? ⟨gs, j, none⟩ = some (.bool true) then 1 else 0
theorem MM.left {w wr : World} {n : Nat} {m : Nat → Nat} {ws : List Nat} {aw : Option Addr} {cw : Nat} (h : MM w wr n m ws aw cw) : leftW n w.heap.size wr = Ta.left n m := by
  unfold leftW Ta.left
  congr 1
  refine List.filter_congr fun j hj => ?_
  have hj := List.mem_range.1 hj
  dsimp only
  rw [cell_of_row wr w.heap.size j _ 4 (0, 0) h.seen, boolR_get n m j hj]
  by_cases h0 : m j = 0 <;> simp [h0]
def lenV : Value → Nat
  | .slice _ n _ => n
  | _ => 0
theorem MM.pop {w wr : World} {n k : Nat} {m : Nat → Nat} {ws : List Nat} {aw : Option Addr} {cw : Nat} (h : MM w wr n m (ws ++ [k]) aw cw) : MM w wr n m ws aw cw := by
  have h1 := own_cut h.row ws.length (by simp) (by simp)
  rw [show (rowN (ws ++ [k])).take ws.length = rowN ws by unfold rowN; simp] at h1
  exact ⟨h.bel, h.seen, h1⟩
theorem MM.push {w wr w2 : World} {n j : Nat} {m : Nat → Nat} {ws : List Nat} {aw a2 : Option Addr} {cw c2 : Nat} (h : MM w wr n m ws aw cw) (hj : j < n)
    (ho : w2.ownsRow w.heap.size 3 1 (.slice a2 (ws.length + 1) c2) (ws.length + 1) (rowN ws ++ [.int .i64 (j : Int)])) (hg : ((wr.setCell ⟨w.heap.size, j, none⟩ (.bool true)).alloc (.cells #[.int .i64 (j : Int)] 3)).grownBy w2 (Value.slice aw ws.length cw).ownBlock) :
    MM w w2 n (Ta.upd m j 1) (ws ++ [j]) a2 c2 := by
  obtain ⟨s1, k1⟩ := row_set h.seen j (.bool true)
  rw [boolR_set n m j hj] at s1
  have hlt := wblk_lt h.seen
  have hb1 : Below w.heap.size w (wr.setCell ⟨w.heap.size, j, none⟩ (.bool true)) := h.bel.setCell (p := ⟨w.heap.size, j, none⟩) (Nat.le_refl _) _
  have hb2 : Below w.heap.size w ((wr.setCell ⟨w.heap.size, j, none⟩ (.bool true)).alloc (.cells #[.int .i64 (j : Int)] 3)) := hb1.alloc hb1.size _
  have hne : (Value.slice aw ws.length cw).ownBlock ≠ some w.heap.size := fun e => by
    obtain ⟨cur, hc⟩ := own_type h.row e
    rw [h.seen] at hc
    cases hc
  refine ⟨hb2.grown hg hb2.size (fun g e => (h.row.lt g e).1), ?_, ?_⟩
  · rw [hg.block _ (by simp; omega) (fun e => hne e.symm), Below.heap_alloc _ _ _ (by simp; omega)]
    exact s1
  · rw [List.length_append, List.length_singleton]
    have : rowN (ws ++ [j]) = rowN ws ++ [.int .i64 (j : Int)] := by simp [rowN]
    rw [this]
    exact ho
theorem made4 (n : Nat) (hn : n ≤ 1000) (W : World) : (Instr.makeSlice 115 (.int .i64 (n : Int)) (.int .i64 (n : Int))).run Try.prog W = .ok (.slice (some ⟨W.heap.size, 0, none⟩) n n) (W.alloc (.cells (boolR n fun _ => 0) 4)) := by
  obtain ⟨i4, hi4, hz0, hz1, hz2⟩ := info_parts (P := Try.prog) (e := 4) (z := .bool false) (size := 1) (bytes := 1) (by kernel_rfl)
  have h := run_make (P := Try.prog) W 115 4 i4 (.bool false) (by kernel_rfl) hi4 hz0 .i64 .i64 (n : Int) (n : Int) (by omega) (by omega) (by rw [hz2]; omega) (by omega)
  rw [hz1] at h
  simp only [Int.toNat_natCast, Nat.mul_one] at h
  have e : madeCells (Value.bool false).cells n = boolR n fun _ => 0 := by
    apply Array.ext_getElem?
    intro j
    by_cases hj : j < n
    · rw [boolR_get n _ j hj]
      have : (madeCells (Value.bool false).cells n)[j]? = some ((Value.bool false).cells[j % (Value.bool false).cells.size]!) := by simp [madeCells, hj]
      rw [this]
      have h1 : (Value.bool false).cells.size = 1 := rfl
      rw [h1, Nat.mod_one]
      rfl
    · rw [Array.getElem?_eq_none (by rw [size_madeCells]; omega), Array.getElem?_eq_none (by rw [boolR_size]; omega)]
  rw [e] at h
  exact h
theorem cutI (a : Option Addr) (len c n : Nat) (h : n ≤ c) (w : World) : (Instr.slice 65 (.slice a len c) none (some (.int .i64 (n : Int))) none).run Try.prog w = .ok (.slice a n c) w := by
  rw [run_slice_h w 65 a len c (by kernel_rfl) .i64 (n : Int) (by omega) (by omega)]
  have : (sizeOf (Try.prog.elem 65)).run Try.prog w = .ok 1 w := by kernel_rfl
  rw [this]
  simp only [Result.andThen, sliced]
  cases a with
  | none => simp
  | some a => simp [Addr.add]
def leadsT (l : List Eqv) (ts : List Tm) : List Nat := ts.filterMap fun t => (atF l t.name).map Int.toNat
theorem leadsT_take (l : List Eqv) {ts : List Tm} {i : Nat} {t : Tm} (h : ts[i]? = some t) : leadsT l (ts.take (i + 1)) = leadsT l (ts.take i) ++ ((atF l t.name).map Int.toNat).toList := by
  unfold leadsT
  rw [List.take_add_one, h, List.filterMap_append]
  cases h2 : atF l t.name <;> simp [h2]
theorem adjF_leads {l : List Eqv} {k : Nat} {q : Eqv} (hq : l[k]? = some q) : adjF l k = leadsT l q.2.terms := by unfold adjF; rw [hq]; rfl
def MJS (w wr : World) (l : List Eqv) (f t k : Nat) (ts : List Tm) (B i : Nat) (v8 : Value) : Prop := ∃ m ws aw cw, v8 = .slice aw ws.length cw ∧ MJ (adjF l) l.length f t k (leadsT l (ts.take i)) m ws ∧ MM w wr l.length m ws aw cw ∧ 2 * Ta.left l.length m + ws.length ≤ B
def MIS (w wr : World) (l : List Eqv) (f t : Nat) (v8 : Value) : Prop := ∃ m ws aw cw, v8 = .slice aw ws.length cw ∧ MI (adjF l) l.length f t m ws ∧ MM w wr l.length m ws aw cw ∧ 2 * Ta.left l.length m + ws.length ≤ 2 * l.length + 1
set_option maxHeartbeats 16000000 in
theorem met_any (l : List Eqv) (la : Option Addr) (lc : Nat) (hl : l.length ≤ 1000) (hnd : (l.map (·.1)).Nodup) (hts : ∀ q ∈ l, q.2.terms.length ≤ 9000000) (f t : Nat) (hf : f < l.length) (w : World) (hE : EqIn w la l) :
    Calls Try.prog 53 #[.slice la l.length lc, .int .i64 (f : Int), .int .i64 (t : Int)] w fun e w' => Below w.heap.size w w' ∧ ∃ b, e = .returned (.bool b) ∧ (b = true ↔ Met (adjF l) f t) := by
  have hmk := made4 l.length hl
  have hfind : Hid (∀ W nm, Below w.heap.size w W → Calls Try.prog 34 #[.slice la l.length lc, .string (str nm)] W fun e w' => e = .returned (.int .i64 ((atF l nm).getD (-1))) ∧ w' = W) := fun W nm hb => by
    have := find_any la lc l nm (by omega) W (hE.below hb)
    rw [findF_at hnd] at this
    exact this
  have hEH := Hid.intro hE
  have htsH := Hid.intro hts
  have hstart : Hid (MIS w ((w.alloc (.cells (boolR l.length fun _ => 0) 4)).alloc (.cells #[.int .i64 (f : Int)] 3)) l f t (.slice (some ⟨w.heap.size + 1, 0, none⟩) 1 1)) := by
    refine ⟨_, [f], _, _, rfl, MI.start hf, ⟨((below_alloc w _).alloc (by simp) _), ?_, ?_⟩, ?_⟩
    · rw [Below.heap_alloc _ _ _ (by simp)]
      exact heap_alloc_new w _
    · refine ⟨rfl, .inr ⟨w.heap.size + 1, 1, #[.int .i64 (f : Int)], rfl, by omega, ?_, Nat.le_refl _, by unfold maxLen; omega, rfl, rfl⟩⟩
      have := heap_alloc_new (w.alloc (.cells (boolR l.length fun _ => 0) 4)) (.cells #[.int .i64 (f : Int)] 3)
      simpa using this
    · have : Ta.left l.length (fun _ => 0) ≤ l.length := Nat.le_trans (List.length_filter_le _ _) (by simp)
      simp only [List.length_singleton]
      omega
  obtain ⟨i3, hi3, hz0, hz1, hz2⟩ := info_parts info3
  obtain ⟨n, hn⟩ : ∃ n, n = l.length := ⟨_, rfl⟩
  have hnH := Hid.intro hn
  rw [← hn] at hmk hfind hl hf ⊢
  clear hE hts hnd hn
  go_enter Try.func53, Try.ntmps53
  go_wp2
  all_goals first | omega | skip
  rw [← hnH.out] at hstart
  generalize ((w.alloc (.cells (boolR n fun _ => 0) 4)).alloc (.cells #[.int .i64 (f : Int)] 3)) = W0 at *
  clear hmk
  go_loopw [8] (fun v8 wr => Hid (MIS w wr l f t v8)) (fun v8 wr => 2 * leftW n w.heap.size wr + lenV v8)
  case atStart => exact hstart
  case round =>
    clear hstart
    obtain ⟨m, ws, aw, cw, rfl, hMI, hMM, hbd⟩ := hrel.out
    clear hrel
    rcases List.eq_nil_or_concat ws with rfl | ⟨ws0, k, rfl⟩
    · have hno := Hid.intro hMI.no
      have hbl := Hid.intro hMM.bel
      simp only [List.length_nil]
      clear hMI hMM
      go_wp2
      all_goals first | omega | skip
      go_ret
      exact ⟨hbl.out, _, rfl, by simp; exact hno.out⟩
    · rw [List.concat_eq_append] at *
      obtain ⟨gw, rfl, hlc, hcl⟩ := own_addr hMM.row (by simp)
      have c1 := hcl ws0.length (.int .i64 (k : Int)) (by simp [rowN])
      have hkn := hMI.lt k (by simp)
      obtain ⟨q, hq⟩ : ∃ q, l[k]? = some q := ⟨_, List.getElem?_eq_getElem hkn⟩
      obtain ⟨ln, hln⟩ : ∃ ln, ln = ws0.length := ⟨_, rfl⟩
      have hlnH := Hid.intro hln
      have hln2 : ln ≤ 3000 := by have := hnH.out; simp at hbd; omega
      have hbdH : Hid (2 * Ta.left l.length m + ln + 1 ≤ 2 * l.length + 1) := by show _ ≤ _; simp at hbd; omega
      clear hbd
      have hleft : Hid (leftW n w.heap.size wr = Ta.left l.length m) := by
        have := hMM.left
        rw [← hnH.out] at this ⊢
        exact this
      have hMJ := Hid.intro hMI.pop
      have hMM2 := Hid.intro hMM.pop
      have hcut := cutI (some ⟨gw, 0, none⟩) (ln + 1) cw ln (by rw [hln]; simp at hlc; omega)
      obtain ⟨gl, ol, rfl, hgl, va, vc, _, s1, _, hTl⟩ := eqIn_at hEH.out hq
      obtain ⟨tl, htl⟩ : ∃ tl, tl = q.2.terms.length := ⟨_, rfl⟩
      have htlH := Hid.intro htl
      have htb : tl ≤ 9000000 := by rw [htl]; exact htsH.out q (List.mem_of_getElem? hq)
      rw [← htl] at s1
      have hrd : Hid (∀ W, Below w.heap.size w W → W.cell? ⟨gl, ol + k * 3 + 1, none⟩ = some (.slice va tl vc)) := fun W hb => (hb.cell (p := ⟨gl, _, none⟩) hgl).trans s1
      have htm : Hid (∀ i, i < tl → ∃ gt ot x, va = some ⟨gt, ot, none⟩ ∧ q.2.terms[i]? = some x ∧ ∀ W, Below w.heap.size w W → W.cell? ⟨gt, ot + i * 2, none⟩ = some (.string (str x.name))) := fun i hi => by
        obtain ⟨x, hx⟩ : ∃ x, q.2.terms[i]? = some x := ⟨_, List.getElem?_eq_getElem (by omega)⟩
        rcases hTl with h0 | ⟨gt, ot, h1, h2, h3⟩
        · rw [h0] at hx; cases hx
        · exact ⟨gt, ot, x, h1, hx, fun W hb => (hb.cell (p := ⟨gt, _, none⟩) h2).trans (h3 i x hx).name⟩
      have hadj := Hid.intro (adjF_leads hq)
      have h0J : Hid (MJS w wr l f t k q.2.terms (2 * Ta.left l.length m + ln) 0 (.slice (some ⟨gw, 0, none⟩) ln cw)) := ⟨m, ws0, _, cw, by rw [hln], by simpa [leadsT] using hMJ.out, hMM2.out, by omega⟩
      have hlen1 : (ws0 ++ [k]).length = ln + 1 := by simp [hln]
      rw [hlen1]
      rw [← hln] at c1
      clear hcl hlc hMI hMM hTl s1 hln htl hMJ hMM2 hlen1
      go_wp2
      all_goals first | omega | skip
      generalize hBm : 2 * Ta.left l.length m + ln = Bm at h0J
      have hBmH := Hid.intro hBm
      clear c1 hcut hBm
      go_loopw [8, 10] (fun v8 v10 wr => ∃ i : Nat, i ≤ tl ∧ v10 = .int .i64 (i : Int) ∧ Hid (MJS w wr l f t k q.2.terms Bm i v8)) (fun _ v10 _ => tl - (intOf v10).toNat)
      case atStart => exact ⟨0, by omega, by first | rfl | go_num, h0J⟩
      case round =>
        clear h0J
        have hkn2 : k < n := by rw [hnH.out]; exact hkn
        have hkn3 : (k : Int) < (n : Int) := by omega
        obtain ⟨i, hi, rfl, hJ⟩ := hrel
        obtain ⟨m2, ws2, aw2, cw2, rfl, hJ1, hM1, hb1⟩ := hJ.out
        clear hJ
        have hbl := Hid.intro hM1.bel
        have k1 := hrd.out wr hbl.out
        have hadl := Hid.intro (fun j hj => adj_lt l k j hj)
        have hsn := Hid.intro (fun j (hj : j < n) => (cell_of_row wr w.heap.size j _ 4 (0, 0) hM1.seen).trans (boolR_get l.length m2 j (by rw [← hnH.out]; exact hj)))
        have hfz := fun j => frozen_of_row wr w.heap.size j _ 4 hM1.seen
        obtain ⟨n2, hn2⟩ : ∃ n2, n2 = ws2.length := ⟨_, rfl⟩
        have hn2H := Hid.intro hn2
        have hn2b : n2 ≤ 3000 := by have := hBmH.out; have := hbdH.out; have := hnH.out; omega
        rw [← hn2]
        replace hJ1 := Hid.intro hJ1
        replace hM1 := Hid.intro hM1
        replace hb1 := Hid.intro hb1
        clear hn2
        by_cases hit : i < tl
        · obtain ⟨gt, ot, x, hva, hx, hnm⟩ := htm.out i hit
          subst hva
          have k2 := hnm wr hbl.out
          have hit2 : (i : Int) < (tl : Int) := by omega
          have htk := Hid.intro (leadsT_take l hx)
          have hfc0 := hfind.out wr x.name hbl.out
          clear hnm
          cases hat : atF l x.name with
          | none =>
            rw [hat] at hfc0
            have hfc := Hid.intro hfc0
            clear hfc0
            have hne : ¬ ((-1 : Int) = (t : Int)) := by omega
            have hfin : Hid (MJS w wr l f t k q.2.terms Bm (i + 1) (.slice aw2 n2 cw2)) := ⟨m2, ws2, aw2, cw2, by rw [hn2H.out], by rw [htk.out, hat]; simpa using hJ1.out, hM1.out, hb1.out⟩
            clear hat hfz
            go_wp2_with (go_at_call 34; (with_reducible refine (hfc.out).mono ?_); rintro e w1 ⟨rfl, hw1⟩; subst w1)
            all_goals first | omega | skip
            go_roundw
            case rel => exact ⟨i + 1, by omega, by go_num, hfin⟩
            case measure => simp [intOf]; omega
          | some z =>
            obtain ⟨j, hj, rfl, hjn⟩ := atF_some hat
            have hjn2 : j < n := by rw [hnH.out]; exact hj
            have hja : Hid (j ∈ adjF l k) := by
              show j ∈ adjF l k
              rw [hadj.out]
              exact List.mem_filterMap.2 ⟨x, List.mem_of_getElem? hx, by rw [hat]; rfl⟩
            have ht2 : Hid (leadsT l (q.2.terms.take (i + 1)) = leadsT l (q.2.terms.take i) ++ [j]) := by
              show leadsT l (q.2.terms.take (i + 1)) = leadsT l (q.2.terms.take i) ++ [j]
              have := htk.out
              rw [hat] at this
              simpa using this
            rw [hat] at hfc0
            have hfc := Hid.intro hfc0
            have kS := hsn.out j hjn2
            clear hfc0 hat htk
            by_cases hjt : j = t
            · subst hjt
              have hmet := Hid.intro (hJ1.out.met hja.out)
              clear kS hfz
              go_wp2_with (go_at_call 34; (with_reducible refine (hfc.out).mono ?_); rintro e w1 ⟨rfl, hw1⟩; subst w1)
              all_goals first | omega | skip
              go_ret
              exact ⟨hbl.out, _, rfl, by simp; exact hmet.out⟩
            · have hjt2 : ¬ ((j : Int) = (t : Int)) := by omega
              have hj0 : (0 : Int) ≤ (j : Int) := by omega
              have hjt3 := Hid.intro hjt
              clear hjt
              by_cases hm0 : m2 j = 0
              · rw [show (m2 j != 0) = false by simp [hm0]] at kS
                obtain ⟨s1, g1⟩ := row_set (hM1.out.seen) j (.bool true)
                have hown : Hid (((wr.setCell ⟨w.heap.size, j, none⟩ (.bool true)).alloc (.cells #[.int .i64 (j : Int)] 3)).ownsRow w.heap.size 3 1 (.slice aw2 n2 cw2) n2 (rowN ws2)) := by
                  have h1 := own_row hM1.out.row (k := some w.heap.size) (fun g hg e => by
                    cases e
                    obtain ⟨cur, hc⟩ := own_type hM1.out.row hg
                    rw [hM1.out.seen] at hc
                    cases hc) g1
                  rw [hn2H.out]
                  exact h1.alloc _
                have hsrc : Hid (∀ j' u, ([.int .i64 (j : Int)] : List Value)[j']? = some u → ((wr.setCell ⟨w.heap.size, j, none⟩ (.bool true)).alloc (.cells #[.int .i64 (j : Int)] 3)).cell? ((⟨wr.heap.size, 0, none⟩ : Addr).add j') = some u) := fun j' u hu => by
                  have := cells_new (wr.setCell ⟨w.heap.size, j, none⟩ (.bool true)) #[.int .i64 (j : Int)] 3 j' u hu
                  simpa using this
                have hlo : w.heap.size ≤ ((wr.setCell ⟨w.heap.size, j, none⟩ (.bool true)).alloc (.cells #[.int .i64 (j : Int)] 3)).heap.size := by have := hbl.out.size; simp; omega
                have hloH := Hid.intro hlo
                have hfin : Hid (∀ a5 c5 w5, w5.ownsRow w.heap.size 3 1 (.slice a5 (n2 + 1) c5) (n2 + 1) (rowN ws2 ++ [.int .i64 (j : Int)]) → ((wr.setCell ⟨w.heap.size, j, none⟩ (.bool true)).alloc (.cells #[.int .i64 (j : Int)] 3)).grownBy w5 (Value.slice aw2 n2 cw2).ownBlock → MJS w w5 l f t k q.2.terms Bm (i + 1) (.slice a5 (n2 + 1) c5)) := fun a5 c5 w5 h1 h2 => by
                  rw [hn2H.out] at h1 h2
                  refine ⟨Ta.upd m2 j 1, ws2 ++ [j], a5, c5, by rw [List.length_append, List.length_singleton, hn2H.out], ?_, hM1.out.push hj h1 h2, ?_⟩
                  · rw [ht2.out]
                    exact hJ1.out.push hjt3.out hj hja.out
                  · have := left_push (n := l.length) hj hm0
                    have := hb1.out
                    rw [List.length_append, List.length_singleton]
                    omega
                clear s1 g1 hlo hm0
                go_wp2_with (first
                  | (go_at_call 34; (with_reducible refine (hfc.out).mono ?_); rintro e w1 ⟨rfl, hw1⟩; subst w1)
                  | (at_builtin; go_must (refine wpList_app rfl (.tmp 69) (.tmp 71) 65 rfl w.heap.size 3 i3 _ 1 8 Try.underlying65 hi3 hz0 hz1 hz2 rfl (by decide) (.slice aw2 n2 cw2) n2 (rowN ws2) rfl hown.out (.slice (some ⟨wr.heap.size, 0, none⟩) 1 1) 1 [.int .i64 (j : Int)] rfl (.inr ⟨_, _, rfl, hsrc.out⟩) rfl (by simp [Value.oneCell']) (by unfold maxLen; omega) (by omega) hloH.out ?_; intro v5 w5 ho5 hg5 hw5; obtain ⟨a5, c5, rfl⟩ := own_slice ho5; have hC5 := Hid.intro (hfin.out a5 c5 w5 ho5 hg5); clear ho5 hg5 hw5)))
                all_goals first | omega | skip
                go_roundw
                case rel => exact ⟨i + 1, by omega, by go_num, hC5⟩
                case measure => simp [intOf]; omega
              · rw [show (m2 j != 0) = true by simp [hm0]] at kS
                have hfin : Hid (MJS w wr l f t k q.2.terms Bm (i + 1) (.slice aw2 n2 cw2)) := ⟨m2, ws2, aw2, cw2, by rw [hn2H.out], by rw [ht2.out]; exact hJ1.out.seen hjt3.out hm0, hM1.out, hb1.out⟩
                clear hm0 hfz
                go_wp2_with (go_at_call 34; (with_reducible refine (hfc.out).mono ?_); rintro e w1 ⟨rfl, hw1⟩; subst w1)
                all_goals first | omega | skip
                go_roundw
                case rel => exact ⟨i + 1, by omega, by go_num, hfin⟩
                case measure => simp [intOf]; omega
        · obtain rfl : i = tl := by omega
          have hlt2 : ¬ (i : Int) < (i : Int) := by omega
          have hfin : Hid (MIS w wr l f t (.slice aw2 n2 cw2)) := by
            refine ⟨m2, ws2, aw2, cw2, by rw [hn2H.out], hJ1.out.out (fun j hj => ?_), hM1.out, ?_⟩
            · rw [hadj.out] at hj
              rw [htlH.out, List.take_length]
              exact hj
            · have := hb1.out; have := hBmH.out; have := hbdH.out; omega
          have hme : Hid (2 * leftW n w.heap.size wr + n2 ≤ Bm) := by
            have h1 := hM1.out.left
            have h2 := hb1.out
            have h3 := hn2H.out
            rw [← hnH.out] at h1 h2
            show _ ≤ _
            omega
          clear hfz hit
          go_wp2
          all_goals first | omega | skip
          go_roundw
          case rel => exact hfin
          case measure =>
            have h1 := hme.out
            have h2 := hleft.out
            have h3 := hBmH.out
            show 2 * leftW n w.heap.size wr + n2 < 2 * leftW n w.heap.size _ + (ln + 1)
            omega
end Go.Proofs.Ytebbbefknfldoaa
namespace Go.Proofs.Ytebbbefknfldoaa
open Go.ChangeShapes Go.WideShapes Go.ChangeAt Go.RowKit
set_option linter.unusedVariables false
set_option linter.unusedSimpArgs false
set_option maxRecDepth 100000
theorem own_keptR {w w' : World} {B : Nat} {e : TypeId} {size : Nat} {v : Value} {n : Nat} {xs : List Value} (h : w.ownsRow B e size v n xs) (hb : Below w.heap.size w w') : w'.ownsRow B e size v n xs := by
  refine ⟨h.1, ?_⟩
  rcases h.2 with h | ⟨g, cap, cu, h1, hB, hh, hr⟩
  · exact .inl h
  · exact .inr ⟨g, cap, cu, h1, hB, (hb.block g (wblk_lt hh)).trans hh, hr⟩
open Classical in
noncomputable def backL (l : List Eqv) : List Nat := (List.range l.length).filter fun i => decide (Ta.Cyc (adjF l) i)
open Classical in
theorem backL_mem {l : List Eqv} (i : Nat) : i ∈ backL l ↔ i < l.length ∧ Ta.Cyc (adjF l) i := by
  unfold backL
  rw [List.mem_filter]
  simp
open Classical in
noncomputable def backT (l : List Eqv) (n : Nat) : List Nat := (List.range n).filter fun i => decide (Ta.Cyc (adjF l) i)
theorem backT_yes {l : List Eqv} {n : Nat} (h : Ta.Cyc (adjF l) n) : backT l (n + 1) = backT l n ++ [n] := by
  unfold backT
  rw [List.range_succ, List.filter_append]
  simp [h]
theorem backT_no {l : List Eqv} {n : Nat} (h : ¬ Ta.Cyc (adjF l) n) : backT l (n + 1) = backT l n := by
  unfold backT
  rw [List.range_succ, List.filter_append]
  simp [h]
theorem backT_len (l : List Eqv) (n : Nat) : (backT l n).length ≤ n := Nat.le_trans (List.length_filter_le _ _) (by simp)
def BSt (w wr : World) (l : List Eqv) (i : Nat) (v : Value) : Prop := Below w.heap.size w wr ∧ wr.ownsRow w.heap.size 3 1 v (backT l i).length (rowN (backT l i))
set_option maxHeartbeats 16000000 in
theorem back_any (l : List Eqv) (la : Option Addr) (lc : Nat) (hl : l.length ≤ 1000) (hnd : (l.map (·.1)).Nodup) (hts : ∀ q ∈ l, q.2.terms.length ≤ 9000000) (w : World) (hE : EqIn w la l) :
    Calls Try.prog 33 #[.slice la l.length lc] w fun e w' => Below w.heap.size w w' ∧ ∃ v, e = .returned v ∧ w'.ownsRow w.heap.size 3 1 v (backL l).length (rowN (backL l)) := by
  have hmet : Hid (∀ W i, i < l.length → Below w.heap.size w W → Calls Try.prog 53 #[.slice la l.length lc, .int .i64 (i : Int), .int .i64 (i : Int)] W fun e w' => Below W.heap.size W w' ∧ ∃ b, e = .returned (.bool b) ∧ (b = true ↔ Ta.Cyc (adjF l) i)) := fun W i hi hb => met_any l la lc hl hnd hts i i hi W (hE.below hb)
  obtain ⟨i3, hi3, hz0, hz1, hz2⟩ := info_parts info3
  have h0 : Hid (BSt w w l 0 (.slice none 0 0)) := ⟨Below.refl _ _, World.ownsRow_nil _ _ _ _⟩
  have hfull : Hid (backT l l.length = backL l) := rfl
  obtain ⟨n, hn⟩ : ∃ n, n = l.length := ⟨_, rfl⟩
  have hnH := Hid.intro hn
  rw [← hn] at hmet hl ⊢
  clear hE hts hnd hn
  go_enter Try.func33, Try.ntmps33
  go_wp2
  all_goals first | omega | skip
  go_loopw [3, 4] (fun v3 v4 wr => ∃ i : Nat, i ≤ n ∧ v4 = .int .i64 (i : Int) ∧ Hid (BSt w wr l i v3)) (fun _ v4 _ => n - (intOf v4).toNat)
  case atStart => exact ⟨0, by omega, by first | rfl | go_num, h0⟩
  case round =>
    clear h0
    obtain ⟨i, hi, rfl, hB⟩ := hrel
    obtain ⟨a3, c3, rfl⟩ := own_slice hB.out.2
    by_cases hin : i < n
    · have hin2 : (i : Int) < (n : Int) := by omega
      have hc := Hid.intro (hmet.out wr i hin hB.out.1)
      obtain ⟨nb, hnb⟩ : ∃ nb, nb = (backT l i).length := ⟨_, rfl⟩
      have hnb2 : nb ≤ 1000 := by have := backT_len l i; omega
      have hnbH := Hid.intro hnb
      rw [← hnb]
      clear hnb
      by_cases hy : Ta.Cyc (adjF l) i
      · have hone : Hid (∀ w1, Below wr.heap.size wr w1 → (w1.alloc (.cells #[.int .i64 (i : Int)] 3)).ownsRow w.heap.size 3 1 (.slice a3 nb c3) nb (rowN (backT l i)) ∧ w.heap.size ≤ (w1.alloc (.cells #[.int .i64 (i : Int)] 3)).heap.size) := fun w1 hb => by
          have h1 := own_keptR hB.out.2 hb
          refine ⟨by rw [hnbH.out]; exact h1.alloc _, ?_⟩
          have := hb.size
          have := hB.out.1.size
          simp
          omega
        have hfin : Hid (∀ w1 v5 w5, Below wr.heap.size wr w1 → w5.ownsRow w.heap.size 3 1 v5 (nb + 1) (rowN (backT l i) ++ [.int .i64 (i : Int)]) → (w1.alloc (.cells #[.int .i64 (i : Int)] 3)).grownBy w5 (Value.slice a3 nb c3).ownBlock → BSt w w5 l (i + 1) v5) := fun w1 v5 w5 hb h1 h2 => by
          have hb1 : Below w.heap.size w (w1.alloc (.cells #[.int .i64 (i : Int)] 3)) := (hB.out.1.trans (hb.mono hB.out.1.size)).alloc (by have := hb.size; have := hB.out.1.size; omega) _
          refine ⟨hb1.grown h2 hb1.size (fun g e => ?_), ?_⟩
          · have := hB.out.2.lt g (by rw [← hnbH.out]; exact e)
            exact this.1
          · rw [backT_yes hy, List.length_append, List.length_singleton, ← hnbH.out]
            have : rowN (backT l i ++ [i]) = rowN (backT l i) ++ [.int .i64 (i : Int)] := by simp [rowN]
            rw [this]
            exact h1
        have hyH := Hid.intro hy
        clear hB hy
        go_wp2_with (first
          | (go_at_call 53; (with_reducible refine (hc.out).mono ?_); rintro e w1 ⟨hb1, b, rfl, hb⟩; obtain rfl : b = true := hb.2 hyH.out; replace hb1 := Hid.intro hb1; clear hb)
          | (at_builtin; go_must (refine wpList_app rfl (.tmp 15) (.tmp 17) 65 rfl w.heap.size 3 i3 _ 1 8 Try.underlying65 hi3 hz0 hz1 hz2 rfl (by decide) (.slice a3 nb c3) nb (rowN (backT l i)) rfl (hone.out w1 hb1.out).1 (.slice (some ⟨w1.heap.size, 0, none⟩) 1 1) 1 [.int .i64 (i : Int)] rfl (.inr ⟨_, _, rfl, cells_new w1 #[.int .i64 (i : Int)] 3⟩) rfl (by simp [Value.oneCell']) (by unfold maxLen; omega) (by omega) (hone.out w1 hb1.out).2 ?_; intro v5 w5 ho5 hg5 hw5; have hC5 := Hid.intro (hfin.out w1 v5 w5 hb1.out ho5 hg5); obtain ⟨a5, c5, rfl⟩ := own_slice ho5; clear ho5 hg5 hw5)))
        all_goals first | omega | skip
        go_roundw
        case rel => exact ⟨i + 1, by omega, by go_num, hC5⟩
        case measure => simp [intOf]; omega
      · have hfin : Hid (∀ w1, Below wr.heap.size wr w1 → BSt w w1 l (i + 1) (.slice a3 nb c3)) := fun w1 hb => by
          refine ⟨hB.out.1.trans (hb.mono hB.out.1.size), ?_⟩
          rw [backT_no hy, hnbH.out]
          exact own_keptR hB.out.2 hb
        have hyH := Hid.intro hy
        clear hB hy
        go_wp2_with (go_at_call 53; (with_reducible refine (hc.out).mono ?_); rintro e w1 ⟨hb1, b, rfl, hb⟩; obtain rfl : b = false := (Bool.eq_false_iff.2 fun h => hyH.out (hb.1 h)); have hC5 := Hid.intro (hfin.out w1 hb1); clear hb hb1)
        all_goals first | omega | skip
        go_roundw
        case rel => exact ⟨i + 1, by omega, by go_num, hC5⟩
        case measure => simp [intOf]; omega
    · obtain rfl : i = n := by omega
      have hlt2 : ¬ (i : Int) < (i : Int) := by omega
      clear hin
      go_wp2
      all_goals first | omega | skip
      go_ret
      refine ⟨hB.out.1, _, rfl, ?_⟩
      have := hB.out.2
      rw [← hfull.out, ← hnH.out]
      exact this
end Go.Proofs.Ytebbbefknfldoaa

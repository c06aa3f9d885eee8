/- Ds: what the document's Right wants besides. -/
import Derived.Test.YtmndccbeddaphaaGreatDoorZT5
import Derived.Test.YtmndccbeddaphaaGreatDoorOcGets0
import Derived.Test.YtmndccbeddaphaaGreatDoorCp
/- T6: what the document's Right wants besides. -/
namespace Go.Proofs.YtmndccbeddaphaaGreatDoor
open Go.ChangeShapes Go.WideShapes Go.ChangeAt Go.RowKit
set_option linter.unusedVariables false
set_option maxRecDepth 100000
set_option maxHeartbeats 1000000 in
theorem refRight_o (k : Int) (s : ByteArray) (op a b m f : Int) (va : Option Addr) (vc ln : Nat) (c n sec : Int) (h0 : sec ≠ 0) (h1 : sec ≠ 1) (w : World) :
    Calls Tryz.prog 52 #[itV k s op a b m f va ln vc c n, .int .i64 sec] w fun e w' => e = .returned (.int .i64 1) ∧ Below w.heap.size w w' := by
  have hb0 := Hid.intro (below_alloc w (.cells (itA k s op a b m f va ln vc c n) 86))
  have n0 : ¬ sec = 0 := h0
  have n1 : ¬ sec = 1 := h1
  have s0 : (sec == 0) = false := by simp [n0]
  have s1 : (sec == 1) = false := by simp [n1]
  have b0 : (sec != 0) = true := by simp [n0]
  have b1 : (sec != 1) = true := by simp [n1]
  clear h0 h1
  go_enter Tryz.func52, Tryz.ntmps52
  go_wp2
  all_goals first | omega | skip
  go_ret
  exact ⟨rfl, hb0.out⟩
theorem docRight_any (k : Int) (s : ByteArray) (hs : s.size ≤ 1100000) (op a b m f : Int) (hm : -2147483648 ≤ m ∧ m ≤ 2147483647) (va : Option Addr) (vc : Nat) (ts : List Tm) (c n sec : Int) (w : World) (hL : TmLies w va ts) (hlen : ts.length ≤ 9000000) (hN : ∀ t ∈ ts, t.name.length ≤ 1100000) :
    Calls Tryz.prog 52 #[itV k s op a b m f va ts.length vc c n, .int .i64 sec] w fun e w' => e = .returned (.int .i64 (rightN sec (okB k s op a b m f ts c n sec))) ∧ Below w.heap.size w w' := by
  by_cases hsec : sec = 0 ∨ sec = 1
  · have hn : ¬ (sec ≠ 0 ∧ sec ≠ 1) := by omega
    rw [rightN, if_neg hn, ← doc_ok k s op a b m f ts c n sec hsec]
    by_cases hk : k = 2
    · subst hk
      exact refRight_2 s op a b m f hm va vc ts c n sec hsec w hL hlen hN
    · exact refRight_k k hk s hs op a b m f va vc ts c n sec hsec w hL hlen hN
  · have hn : sec ≠ 0 ∧ sec ≠ 1 := by omega
    rw [rightN, if_pos hn]
    exact refRight_o k s op a b m f va vc ts.length c n sec hn.1 hn.2 w
end Go.Proofs.YtmndccbeddaphaaGreatDoor
/- Dh: what the document's Right wants besides. -/
namespace Go.Proofs.YtmndccbeddaphaaGreatDoor
open Go.ChangeShapes Go.WideShapes Go.ChangeAt Go.RowKit Go.Sort
set_option linter.unusedVariables false
set_option maxRecDepth 100000
set_option maxHeartbeats 4000000 in
theorem has_same (a : Option Addr) (c : Nat) (l : List (List UInt8)) (hl : l.length ≤ 9000000) (s : List UInt8) (w : World) (hS : StIn w a l) :
    Calls Tryz.prog 57 #[.slice a l.length c, .string (str s)] w fun e w' => e = .returned (.bool (decide (s ∈ l))) ∧ w' = w := by
  obtain ⟨n0, hn0⟩ : ∃ n0, n0 = l.length := ⟨_, rfl⟩
  obtain ⟨bv, hbv⟩ : ∃ bv, bv = decide (s ∈ l) := ⟨_, rfl⟩
  rw [← hn0, ← hbv]
  rw [← hn0] at hl
  replace hn0 := Hid.intro hn0
  replace hbv := Hid.intro hbv
  have hSH := Hid.intro hS
  clear hS
  go_enter Tryz.func57, Tryz.ntmps57
  go_wp2
  all_goals first | omega | skip
  go_loopw [5] (fun v5 wr => ∃ i : Nat, i ≤ n0 ∧ v5 = .int .i64 (i : Int) ∧ Hid (s ∉ l.take i) ∧ wr = w) (fun v5 wr => n0 - (intOf v5).toNat)
  case atStart => exact ⟨0, by omega, rfl, Hid.intro (by simp), rfl⟩
  case round =>
    obtain ⟨i, hi, rfl, hno, rfl⟩ := hrel
    by_cases hlt : i < n0
    · obtain ⟨x, hx⟩ : ∃ x, l[i]? = some x := ⟨l[i]'(by rw [← hn0.out]; exact hlt), List.getElem?_eq_getElem _⟩
      obtain ⟨g, o, rfl, hg, hat⟩ := hSH.out.at hx
      have c0 := hat i x hx
      have hlt2 : (i : Int) < (n0 : Int) := by omega
      have z0 : (0 : Int) ≤ (i : Int) := by omega
      have hxH := Hid.intro hx
      clear hat hx
      by_cases he : x = s
      · have e1 : ((str x).toList == (str s).toList) = true := by rw [he]; simp
        have hres : Hid (bv = true) := by
          show _ = _
          rw [hbv.out]
          have := List.mem_of_getElem? hxH.out
          rw [he] at this
          simpa using this
        clear he
        go_wp2
        all_goals first | omega | skip
        go_ret
        rw [hres.out]
        exact ⟨rfl, rfl⟩
      · have e1 : ((str x).toList == (str s).toList) = false := by rw [str_toList, str_toList]; exact beq_false_of_ne he
        have hnext : Hid (s ∉ l.take (i + 1)) := Hid.intro (by
          rw [List.take_add_one, hxH.out]
          simp
          exact ⟨hno.out, fun e => he e.symm⟩)
        clear he
        go_wp2
        all_goals first | omega | skip
        go_roundw
        case rel => exact ⟨i + 1, by omega, by go_num, hnext, trivial⟩
        case measure => simp [intOf]; omega
    · have hin : i = n0 := by omega
      have hres : Hid (bv = false) := by
        show _ = _
        rw [hbv.out]
        have := hno.out
        rw [hin, hn0.out, List.take_length] at this
        simpa using this
      subst hin
      have hlt3 : ¬ ((i : Int) < (i : Int)) := by omega
      go_wp2
      all_goals first | omega | skip
      go_ret
      rw [hres.out]
      exact ⟨rfl, rfl⟩
theorem has_any (a : Option Addr) (c : Nat) (l : List (List UInt8)) (hl : l.length ≤ 9000000) (s : List UInt8) (w : World) (hS : StIn w a l) :
    Calls Tryz.prog 57 #[.slice a l.length c, .string (str s)] w fun e w' => e = .returned (.bool (decide (s ∈ l))) ∧ Below w.heap.size w w' :=
  (has_same a c l hl s w hS).mono fun e w' ⟨h1, h2⟩ => ⟨h1, by rw [h2]; exact Below.refl _ _⟩
set_option maxHeartbeats 4000000 in
theorem dlabels_any (a : Option Addr) (c : Nat) (l : List Itm) (hl : l.length ≤ 1100000) (w : World) (hI : ItIn w a l) :
    Calls Tryz.prog 100 #[.slice a l.length c] w fun e w' => ∃ a' c' k, e = .returned (.slice a' k c') ∧ NmS w a' c' (labN l) k w' := by
  obtain ⟨n0, hn0⟩ : ∃ n0, n0 = l.length := ⟨_, rfl⟩
  rw [← hn0]
  rw [← hn0] at hl
  replace hn0 := Hid.intro hn0
  have hIH := Hid.intro hI
  obtain ⟨i0, hi9, hz0, hz1, hz2⟩ := info_parts info9
  have hN0 : Hid (NmS w none 0 [] 0 w) := ⟨Below.refl _ _, World.ownsRow_nil _ _ _ _⟩
  clear hI
  go_enter Tryz.func100, Tryz.ntmps100
  go_wp2
  all_goals first | omega | skip
  go_loopw [3, 4] (fun v3 v4 wr => ∃ (i : Nat) (ha : Option Addr) (hc k : Nat), i ≤ n0 ∧ k ≤ i ∧ v3 = .slice ha k hc ∧ v4 = .int .i64 (i : Int) ∧ Hid (NmS w ha hc (labN (l.take i)) k wr)) (fun v3 v4 wr => n0 - (intOf v4).toNat)
  case atStart => exact ⟨0, none, 0, 0, by omega, by omega, rfl, rfl, by show NmS _ _ _ _ _ _; simpa [labN] using hN0.out⟩
  case round =>
    clear hN0
    obtain ⟨i, ha, hc, k, hi, hk, rfl, rfl, hS⟩ := hrel
    by_cases hlt : i < n0
    · obtain ⟨x, hx⟩ : ∃ x, l[i]? = some x := ⟨l[i]'(by rw [← hn0.out]; exact hlt), List.getElem?_eq_getElem _⟩
      rcases hIH.out.below hS.out.bel with h0 | ⟨g, o, rfl, hg, hat⟩
      · rw [h0] at hx; simp at hx
      obtain ⟨va, vc, hI, hTm⟩ := hat i x hx
      have c0 := hI.kind
      have c1 := hI.name
      have hlt2 : (i : Int) < (n0 : Int) := by omega
      have z0 : (0 : Int) ≤ (i : Int) := by omega
      have hnext := labN_take l i x hx
      clear hx hTm hat hg hI
      by_cases hk1 : x.kind = 1
      · have e1 : (x.kind == 1) = true := by simpa using hk1
        rw [if_pos hk1] at hnext
        replace hnext := Hid.intro hnext
        have hS2 := Hid.intro (hS.out.below (below_alloc wr (.cells #[.string (str x.name)] 9)))
        have hsrc : Hid (Src (wr.alloc (.cells #[.string (str x.name)] 9)) (.slice (some ⟨wr.heap.size, 0, none⟩) 1 1) 1 [encStr x.name]) := .inr ⟨_, _, rfl, cells_new wr #[.string (str x.name)] 9⟩
        have hbase : w.heap.size ≤ (wr.alloc (.cells #[.string (str x.name)] 9)).heap.size := hS2.out.bel.size
        clear hk1
        go_wp2_with (at_builtin; go_must (refine wpList_app rfl (.tmp 17) (.tmp 23) 28 rfl w.heap.size 9 i0 _ 1 16 Tryz.underlying28 hi9 hz0 hz1 hz2 rfl (by decide) (.slice ha k hc) k _ rfl hS2.out.own (.slice (some ⟨_, 0, none⟩) 1 1) 1 [encStr x.name] rfl hsrc.out rfl (by simp [Value.oneCell', encStr]) (by unfold maxLen; omega) (by omega) hbase ?_; intro v' w3 ho hg hw; obtain ⟨a', c', rfl, hN⟩ := hS2.out.push ho hg; replace hN := Hid.intro hN; clear ho hg hw))
        all_goals first | omega | skip
        go_roundw
        case rel => exact ⟨i + 1, a', c', k + 1, by omega, by omega, rfl, by go_num, by show NmS _ _ _ _ _ _; rw [hnext.out]; exact hN.out⟩
        case measure => simp [intOf]; omega
      · have e1 : (x.kind == 1) = false := by simpa using hk1
        rw [if_neg hk1, List.append_nil] at hnext
        replace hnext := Hid.intro hnext
        clear hk1 c1
        go_wp2
        all_goals first | omega | skip
        go_roundw
        case rel => exact ⟨i + 1, ha, hc, k, by omega, by omega, rfl, by go_num, by show NmS _ _ _ _ _ _; rw [hnext.out]; exact hS.out⟩
        case measure => simp [intOf]; omega
    · have hin : i = n0 := by omega
      subst hin
      have hlt3 : ¬ ((i : Int) < (i : Int)) := by omega
      go_wp2
      all_goals first | omega | skip
      go_ret
      have := hS.out
      rw [hn0.out, List.take_length] at this
      exact ⟨ha, hc, k, rfl, this⟩
theorem eqIn_at9 {w : World} {a : Option Addr} {l : List (List UInt8 × Lin)} (h : EqIn w a l) {i : Nat} {q : List UInt8 × Lin} (hi : l[i]? = some q) : ∃ g o, a = some ⟨g, o, none⟩ ∧ g < w.heap.size ∧ ∃ va vc, w.cell? ⟨g, o + i * 3, none⟩ = some (.string (str q.1)) ∧ w.cell? ⟨g, o + i * 3 + 1, none⟩ = some (.slice va q.2.terms.length vc) ∧ w.cell? ⟨g, o + i * 3 + 2, none⟩ = some (.int .u32 q.2.const) ∧ TmLies w va q.2.terms := by
  rcases h with h | ⟨g, o, h1, h2, h3⟩
  · subst h; cases hi
  · exact ⟨g, o, h1, h2, h3 i q hi⟩
set_option maxHeartbeats 4000000 in
theorem dall_any (ta : Option Addr) (tc : Nat) (da : Option Addr) (dc : Nat) (ea : Option Addr) (ec : Nat) (ga : Option Addr) (gc : Nat) (u : UVal) (hu : HeldU u) (w : World) (hI : UnitIn w ta da ea ga u) :
    Calls Tryz.prog 55 #[.agg (unitV ta tc da dc ea ec ga gc u)] w fun e w' => ∃ a' c', e = .returned (.slice a' u.names.length c') ∧ NmS w a' c' u.names u.names.length w' := by
  have hB0 : Below w.heap.size w (w.alloc (.cells (unitV ta tc da dc ea ec ga gc u) 30)) := below_alloc w _
  have hI0 := hI.below hB0
  have hx := heap_alloc_new w (.cells (unitV ta tc da dc ea ec ga gc u) 30)
  generalize hW0 : w.alloc (.cells (unitV ta tc da dc ea ec ga gc u) 30) = W0 at *
  have q1 : Hid (∀ W, Below W0.heap.size W0 W → Calls Tryz.prog 100 #[.slice ta u.text.length tc] W fun e w' => ∃ a' c' k, e = .returned (.slice a' k c') ∧ NmS W0 a' c' (labN u.text) k w') := fun W hb => (dlabels_any ta tc u.text hu.text.1 W (hI0.below hb).text).mono fun e w' ⟨a', c', k, h1, h2⟩ => ⟨a', c', k, h1, hb.trans (h2.bel.mono hb.size), own_weaken h2.own hb.size⟩
  have q2 : Hid (∀ W, Below W0.heap.size W0 W → Calls Tryz.prog 100 #[.slice da u.data.length dc] W fun e w' => ∃ a' c' k, e = .returned (.slice a' k c') ∧ NmS W a' c' (labN u.data) k w') := fun W hb => dlabels_any da dc u.data hu.data.1 W (hI0.below hb).data
  have hK : Hid (∀ W, Below W0.heap.size W0 W → W.cell? ⟨w.heap.size, 0, none⟩ = some (.slice ta u.text.length tc) ∧ W.cell? ⟨w.heap.size, 1, none⟩ = some (.slice da u.data.length dc) ∧ W.cell? ⟨w.heap.size, 2, none⟩ = some (.slice ea u.equs.length ec) ∧ W.cell? ⟨w.heap.size, 3, none⟩ = some (.slice ga u.globs.length gc)) := fun W hb => four_read ((hb.block _ (blk_lt hx)).trans hx)
  have hl1 : Hid ((labN u.text).length ≤ 1100000) := Nat.le_trans (labN_len _) hu.text.1
  have hl2 : Hid ((labN u.data).length ≤ 1100000) := Nat.le_trans (labN_len _) hu.data.1
  have hl3 : u.equs.length ≤ 1100000 := hu.equs.1
  have hE0 := Hid.intro hI0.equs
  have hBH := Hid.intro hB0
  obtain ⟨i0, hi9, hz0, hz1, hz2⟩ := info_parts info9
  obtain ⟨c0, c1, c2, c3⟩ := hK.out W0 (Below.refl _ _)
  have hnames : Hid (u.names = labN u.text ++ labN u.data ++ u.equs.map (·.1)) := rfl
  generalize u.names = nms at *
  generalize labN u.text = t1 at *
  generalize labN u.data = t2 at *
  unfold unitV at hW0 ⊢
  clear hI hI0 hB0 hx hu
  generalize u.text.length = n1 at *
  generalize u.data.length = n2 at *
  obtain ⟨n3, hn3⟩ : ∃ n3, n3 = u.equs.length := ⟨_, rfl⟩
  rw [← hn3] at hl3 hW0 hK c2 ⊢
  replace hn3 := Hid.intro hn3
  generalize u.equs = l at *
  generalize u.globs.length = n4 at *
  go_enter Tryz.func55, Tryz.ntmps55
  go_wp2
  all_goals first | omega | skip
  clear hW0
  go_region_held3 (fun W => W.cell? ⟨w.heap.size, 0, none⟩ = some (.slice ta n1 tc) ∧ W.cell? ⟨w.heap.size, 1, none⟩ = some (.slice da n2 dc)) (go_keep)
    ((first
      | (go_at_call 100; (with_reducible refine (q1.out _ (Below.refl _ _).drew).mono ?_); rintro e w1 ⟨a1, e1, k1, rfl, hN1⟩; obtain ⟨d0, d1, d2, d3⟩ := hK.out w1 hN1.bel; replace hN1 := Hid.intro hN1)
      | (go_at_call 100; (with_reducible refine (q2.out _ hN1.out.bel).mono ?_); rintro e w2 ⟨a2, e2, k2, rfl, hN2⟩; have hM1 : Hid (NmS W0 a1 e1 t1 k1 w2) := hN1.out.below hN2.bel; obtain ⟨g0, g1, g2, g3⟩ := hK.out w2 hM1.out.bel; replace hN2 := Hid.intro hN2)
      | (refine step_app _ rfl (.tmp 7) (.tmp 10) 28 rfl W0.heap.size 9 i0 _ 1 16 Tryz.underlying28 hi9 hz0 hz1 hz2 rfl (by decide) (.slice a1 k1 e1) k1 _ rfl hM1.out.own (.slice a2 k2 e2) k2 (t2.map encStr) rfl (own_src hN2.out.own) (by have := hN2.out.len; simp; omega) (by simp [Value.oneCell', encStr]) (by have := hN2.out.len; have := hM1.out.len; have := hl1.out; have := hl2.out; unfold maxLen; omega) (by have := hN2.out.len; have := hM1.out.len; have := hl1.out; have := hl2.out; omega) hM1.out.bel.size ?_; intro v' w3 ho hg hw; have hB3 : Hid (Below W0.heap.size W0 w3) := (hM1.out.bel.grown hg hM1.out.bel.size (fun j hj => (hM1.out.own.lt _ hj).1)); obtain ⟨m0, m1, m2, m3⟩ := hK.out w3 hB3.out; obtain ⟨a3, e3, rfl⟩ := own_slice ho; replace ho := Hid.intro ho; clear hg hw)))
  have hS0 : Hid (NmS W0 a3 e3 (t1 ++ t2) (k1 + k2) w3) := ⟨hB3.out, by have := ho.out; rwa [← List.map_append] at this⟩
  have hk12 : k1 + k2 ≤ 2200000 := by
    have := hM1.out.len
    have := hN2.out.len
    have := hl1.out
    have := hl2.out
    omega
  clear hN1 hM1 hN2 ho hB3 hl1 hl2 d0 d1 d2 d3 g0 g1 g2 g3 m0 m1 m3 c0 c1 c2 c3 q1 q2
  generalize k1 + k2 = k0 at *
  go_wp2
  all_goals first | omega | skip
  go_loopw [3, 4] (fun v3 v4 wr => ∃ (i : Nat) (ha : Option Addr) (hc k : Nat), i ≤ n3 ∧ k ≤ 2200000 + i ∧ v3 = .slice ha k hc ∧ v4 = .int .i64 (i : Int) ∧ Hid (NmS W0 ha hc (t1 ++ t2 ++ (l.take i).map (·.1)) k wr)) (fun v3 v4 wr => n3 - (intOf v4).toNat)
  case atStart => exact ⟨0, a3, e3, k0, by omega, by omega, rfl, rfl, by show NmS _ _ _ _ _ _; simpa using hS0.out⟩
  case round =>
    clear hS0 m2
    obtain ⟨i, ha, hc, k, hi, hk, rfl, rfl, hS⟩ := hrel
    obtain ⟨c0, c1, c2, c3⟩ := hK.out wr hS.out.bel
    clear c0 c1 c3
    by_cases hlt : i < n3
    · obtain ⟨x, hx⟩ : ∃ x, l[i]? = some x := ⟨l[i]'(by rw [← hn3.out]; exact hlt), List.getElem?_eq_getElem _⟩
      obtain ⟨g, o, rfl, hgl, va, vc, q0, _, _, _⟩ := eqIn_at9 (hE0.out.below hS.out.bel) hx
      have hlt2 : (i : Int) < (n3 : Int) := by omega
      have z0 : (0 : Int) ≤ (i : Int) := by omega
      have hnext : Hid (t1 ++ t2 ++ (l.take (i + 1)).map (·.1) = (t1 ++ t2 ++ (l.take i).map (·.1)) ++ [x.1]) := by
        show _ = _
        rw [List.take_add_one, hx]
        simp
      have hS2 := Hid.intro (hS.out.below (below_alloc wr (.cells #[.string (str x.1)] 9)))
      have hsrc : Hid (Src (wr.alloc (.cells #[.string (str x.1)] 9)) (.slice (some ⟨wr.heap.size, 0, none⟩) 1 1) 1 [encStr x.1]) := .inr ⟨_, _, rfl, cells_new wr #[.string (str x.1)] 9⟩
      have hbase : W0.heap.size ≤ (wr.alloc (.cells #[.string (str x.1)] 9)).heap.size := hS2.out.bel.size
      clear hx hgl
      go_wp2_with (at_builtin; go_must (refine wpList_app rfl (.tmp 19) (.tmp 26) 28 rfl W0.heap.size 9 i0 _ 1 16 Tryz.underlying28 hi9 hz0 hz1 hz2 rfl (by decide) (.slice ha k hc) k _ rfl hS2.out.own (.slice (some ⟨_, 0, none⟩) 1 1) 1 [encStr x.1] rfl hsrc.out rfl (by simp [Value.oneCell', encStr]) (by unfold maxLen; omega) (by omega) hbase ?_; intro v' w5 ho hg hw; obtain ⟨a', c', rfl, hN⟩ := hS2.out.push ho hg; replace hN := Hid.intro hN; clear ho hg hw))
      all_goals first | omega | skip
      go_roundw
      case rel => exact ⟨i + 1, a', c', k + 1, by omega, by omega, rfl, by go_num, by show NmS _ _ _ _ _ _; rw [hnext.out]; exact hN.out⟩
      case measure => simp [intOf]; omega
    · have hin : i = n3 := by omega
      subst hin
      have hlt3 : ¬ ((i : Int) < (i : Int)) := by omega
      go_wp2
      all_goals first | omega | skip
      go_ret
      have h5 := hS.out
      rw [hn3.out, List.take_length, ← hnames.out] at h5
      have e9 := h5.len
      rw [← e9]
      exact ⟨ha, hc, rfl, hBH.out.trans (h5.bel.mono hBH.out.size), own_weaken h5.own hBH.out.size⟩
end Go.Proofs.YtmndccbeddaphaaGreatDoor
/- The document's Sorted. -/
namespace Go.Proofs.YtmndccbeddaphaaGreatDoor
open Go.ChangeShapes Go.WideShapes Go.ChangeAt Go.RowKit Go.Sort
set_option linter.unusedVariables false
set_option maxRecDepth 100000
def posD (out : List (List UInt8)) (s : List UInt8) : Nat → Nat
  | 0 => 0
  | k + 1 => match out[k]? with
    | some x => if nlt s x = true then posD out s k else k + 1
    | none => k + 1
def putD (out : List (List UInt8)) (k : Nat) (s : List UInt8) : List (List UInt8) := out.take k ++ s :: out.drop k
def insD (out : List (List UInt8)) (s : List UInt8) : List (List UInt8) := if s ∈ out then out else putD out (posD out s out.length) s
def srtD (l : List (List UInt8)) : List (List UInt8) := l.foldl insD []
def Up (l : List (List UInt8)) : Prop := l.Pairwise fun x y => nlt x y = true
theorem posD_le (out : List (List UInt8)) (s : List UInt8) : ∀ k, posD out s k ≤ k := by
  intro k
  induction k with
  | zero => simp [posD]
  | succ k ih =>
    unfold posD
    split
    · split
      · omega
      · omega
    · omega
theorem posD_above (out : List (List UInt8)) (s : List UInt8) : ∀ k, ∀ i x, posD out s k ≤ i → i < k → out[i]? = some x → nlt s x = true := by
  intro k
  induction k with
  | zero => intro i x h1 h2; omega
  | succ k ih =>
    intro i x h1 h2 hx
    unfold posD at h1
    split at h1
    · rename_i y hy
      split at h1
      · rename_i hn
        rcases Nat.lt_or_ge i k with h | h
        · exact ih i x h1 h hx
        · obtain rfl : i = k := by omega
          rw [hx] at hy
          cases hy
          exact hn
      · omega
    · omega
theorem posD_at (out : List (List UInt8)) (s : List UInt8) : ∀ k, k ≤ out.length → posD out s k = 0 ∨ ∃ x, out[posD out s k - 1]? = some x ∧ nlt s x = false ∧ 0 < posD out s k := by
  intro k
  induction k with
  | zero => intro _; exact .inl rfl
  | succ k ih =>
    intro hk
    have hx : out[k]? = some (out[k]'(by omega)) := List.getElem?_eq_getElem _
    unfold posD
    rw [hx]
    simp only
    by_cases hn : nlt s (out[k]'(by omega)) = true
    · rw [if_pos hn]; exact ih (by omega)
    · rw [if_neg hn]; exact .inr ⟨_, hx, by simpa using hn, by omega⟩
theorem up_get {l : List (List UInt8)} (h : Up l) {i j : Nat} (hij : i < j) {x y : List UInt8} (hx : l[i]? = some x) (hy : l[j]? = some y) : nlt x y = true := by
  obtain ⟨hi, rfl⟩ := List.getElem?_eq_some_iff.1 hx
  obtain ⟨hj, rfl⟩ := List.getElem?_eq_some_iff.1 hy
  exact (List.pairwise_iff_getElem.1 h) i j hi hj hij
theorem insD_up {out : List (List UInt8)} {s : List UInt8} (h : Up out) : Up (insD out s) := by
  unfold insD
  split
  · exact h
  · rename_i hm
    unfold putD
    generalize hp : posD out s out.length = p
    have hple : p ≤ out.length := by rw [← hp]; exact posD_le _ _ _
    have hlo : ∀ x ∈ out.take p, nlt x s = true := fun x hx => by
      obtain ⟨i, hi⟩ := List.getElem?_of_mem hx
      have hil := (List.getElem?_eq_some_iff.1 hi).1
      simp at hil
      rw [List.getElem?_take_of_lt (by omega)] at hi
      rcases posD_at out s out.length (Nat.le_refl _) with h0 | ⟨y, hy, hn, hpos⟩
      · rw [hp] at h0; omega
      · rw [hp] at hy hpos
        have hle : nlt s x = false := by
          rcases Nat.lt_or_ge i (p - 1) with h1 | h1
          · exact nlt_le_trans (nlt_asymm (up_get h h1 hi hy)) hn
          · have e : i = p - 1 := by omega
            rw [e, hy] at hi
            cases hi
            exact hn
        rcases nlt_tri x s with h2 | h2 | h2
        · exact h2
        · exact absurd (by rw [← h2]; exact List.mem_of_getElem? hi) hm
        · rw [h2] at hle; cases hle
    have hhi : ∀ x ∈ out.drop p, nlt s x = true := fun x hx => by
      obtain ⟨i, hi⟩ := List.getElem?_of_mem hx
      rw [List.getElem?_drop] at hi
      exact posD_above out s out.length (p + i) x (by rw [hp]; omega) (List.getElem?_eq_some_iff.1 hi).1 hi
    refine List.pairwise_append.2 ⟨h.sublist (List.take_sublist _ _), List.pairwise_cons.2 ⟨hhi, h.sublist (List.drop_sublist _ _)⟩, fun x hx y hy => ?_⟩
    rcases List.mem_cons.1 hy with rfl | hy
    · exact hlo x hx
    · exact nlt_trans (hlo x hx) (hhi y hy)
theorem insD_mem {out : List (List UInt8)} {s t : List UInt8} : t ∈ insD out s ↔ t ∈ out ∨ t = s := by
  unfold insD
  split
  · rename_i h
    constructor
    · exact .inl
    · rintro (h1 | rfl)
      · exact h1
      · exact h
  · unfold putD
    rw [List.mem_append, List.mem_cons]
    constructor
    · rintro (h | h | h)
      · exact .inl (List.mem_of_mem_take h)
      · exact .inr h
      · exact .inl (List.mem_of_mem_drop h)
    · rintro (h | h)
      · rw [← List.take_append_drop (posD out s out.length) out] at h
        rcases List.mem_append.1 h with h | h
        · exact .inl h
        · exact .inr (.inr h)
      · exact .inr (.inl h)
theorem insD_len (out : List (List UInt8)) (s : List UInt8) : (insD out s).length = out.length + if s ∈ out then 0 else 1 := by
  unfold insD
  split
  · rfl
  · have := posD_le out s out.length
    unfold putD
    simp
    omega
theorem srtD_snoc (l : List (List UInt8)) (s : List UInt8) : srtD (l ++ [s]) = insD (srtD l) s := by
  unfold srtD
  rw [List.foldl_append]
  rfl
theorem srtD_facts (l : List (List UInt8)) : Up (srtD l) ∧ (∀ t, t ∈ srtD l ↔ t ∈ l) ∧ (srtD l).length ≤ l.length ∧ ((srtD l).length = l.length ↔ l.Nodup) := by
  induction hn : l.length generalizing l with
  | zero =>
    obtain rfl := List.length_eq_zero_iff.1 hn
    exact ⟨List.Pairwise.nil, fun t => Iff.rfl, Nat.le_refl _, by simp [srtD]⟩
  | succ n ih =>
    obtain ⟨r, s, rfl⟩ : ∃ r s, l = r ++ [s] := by
      have h0 : l ≠ [] := by rintro rfl; cases hn
      exact ⟨l.dropLast, l.getLast h0, (List.dropLast_concat_getLast h0).symm⟩
    have hr : r.length = n := by simpa using hn
    obtain ⟨h1, h2, h3, h4⟩ := ih r hr
    rw [srtD_snoc]
    refine ⟨insD_up h1, fun t => ?_, ?_, ?_⟩
    · rw [insD_mem, h2, List.mem_append, List.mem_singleton]
    · rw [insD_len]; split <;> omega
    · rw [insD_len, List.nodup_append]
      by_cases hm : s ∈ srtD r
      · rw [if_pos hm]
        constructor
        · intro h; omega
        · rintro ⟨_, _, hd⟩
          exact absurd rfl (hd s ((h2 s).1 hm) s (by simp))
      · rw [if_neg hm]
        constructor
        · intro h
          refine ⟨h4.1 (by omega), by simp, fun a ha b hb => ?_⟩
          rw [List.mem_singleton] at hb
          subst hb
          rintro rfl
          exact hm ((h2 a).2 ha)
        · rintro ⟨hd, _, _⟩
          have := h4.2 hd
          omega
end Go.Proofs.YtmndccbeddaphaaGreatDoor
namespace Go.Proofs.YtmndccbeddaphaaGreatDoor
open Go.ChangeShapes Go.WideShapes Go.ChangeAt Go.RowKit Go.Sort
set_option linter.unusedVariables false
set_option maxRecDepth 100000
theorem nms_set {w0 : World} {ga : Option Addr} {gc n : Nat} {ns : List (List UInt8)} {wr : World} (h : NmS w0 ga gc ns n wr) {i : Nat} (hi : i < n) : ∃ g, ga = some ⟨g, 0, none⟩ ∧ w0.heap.size ≤ g ∧ g < wr.heap.size ∧ (∀ j x, ns[j]? = some x → wr.cell? ⟨g, j, none⟩ = some (.string (str x))) ∧ wr.frozen? ⟨g, i, none⟩ = false ∧ ∀ s, NmS w0 ga gc (ns.set i s) n (wr.setCell ⟨g, i, none⟩ (.string (str s))) := by
  have hl := h.len
  rcases h.own.2 with ⟨hv, h0⟩ | ⟨g, cap, cur, hv, hlo, hg, h1, h2, h3, h4⟩
  · omega
  · injection hv with hv1 hv2 hv3
    subst hv1
    have hglt := (Array.getElem?_eq_some_iff.1 hg).1
    have hc : ∀ j x, ns[j]? = some x → wr.cell? ⟨g, j, none⟩ = some (.string (str x)) := fun j x hx => by
      rw [h.own.cellAt j (by have := (List.getElem?_eq_some_iff.1 hx).1; omega), List.getElem?_map, hx]
      rfl
    refine ⟨g, rfl, hlo, hglt, hc, by simp [World.frozen?, hg], fun s => ?_⟩
    obtain ⟨r1, r2⟩ := row_set hg i (.string (str s))
    refine ⟨h.bel.grown r2 h.bel.size (fun j hj => by cases hj; exact hlo), by simp; omega, .inr ⟨g, cap, _, by rw [hv3], hlo, r1, h1, h2, by simp [h3], ?_⟩⟩
    rw [Array.toList_setIfInBounds, List.take_set, h4, List.map_set]
    rfl
theorem putD_end (out : List (List UInt8)) (s : List UInt8) : putD out out.length s = out ++ [s] := by simp [putD]
theorem putD_set (out : List (List UInt8)) (k : Nat) (v s : List UInt8) (hk : k ≤ out.length) : (putD out k v).set k s = putD out k s := by
  unfold putD
  rw [List.set_append_right _ _ (by simp; omega)]
  have : k - (out.take k).length = 0 := by simp; omega
  rw [this]
  rfl
theorem putD_low (out : List (List UInt8)) (k : Nat) (v : List UInt8) (j : Nat) (hj : j < k) (hk : k ≤ out.length) : (putD out k v)[j]? = out[j]? := by
  unfold putD
  rw [List.getElem?_append_left (by simp; omega), List.getElem?_take_of_lt hj]
theorem putD_shift (out : List (List UInt8)) (k : Nat) (x : List UInt8) (hx : out[k]? = some x) : putD out (k + 1) x = putD out k x := by
  have hk := (List.getElem?_eq_some_iff.1 hx).1
  unfold putD
  rw [List.take_add_one, hx, List.append_assoc]
  congr 1
  rw [List.drop_eq_getElem_cons hk]
  have : out[k] = x := by
    rw [List.getElem?_eq_getElem hk] at hx
    exact Option.some.inj hx
  rw [this]
  rfl
set_option maxHeartbeats 8000000 in
theorem sorted_any (a : Option Addr) (c : Nat) (l : List (List UInt8)) (hl : l.length ≤ 4000000) (w : World) (hS : StIn w a l) :
    Calls Tryz.prog 56 #[.slice a l.length c] w fun e w' => ∃ a' c', e = .returned (.slice a' (srtD l).length c') ∧ NmS w a' c' (srtD l) (srtD l).length w' := by
  obtain ⟨n0, hn0⟩ : ∃ n0, n0 = l.length := ⟨_, rfl⟩
  rw [← hn0]
  rw [← hn0] at hl
  replace hn0 := Hid.intro hn0
  have hSH := Hid.intro hS
  obtain ⟨i0, hi9, hz0, hz1, hz2⟩ := info_parts info9
  have hN0 : Hid (NmS w none 0 [] 0 w) := ⟨Below.refl _ _, World.ownsRow_nil _ _ _ _⟩
  clear hS
  go_enter Tryz.func56, Tryz.ntmps56
  go_wp2
  all_goals first | omega | skip
  go_loopw [3, 4] (fun v3 v4 wr => ∃ (i : Nat) (ha : Option Addr) (hc k : Nat), i ≤ n0 ∧ k ≤ i ∧ v3 = .slice ha k hc ∧ v4 = .int .i64 (i : Int) ∧ Hid (NmS w ha hc (srtD (l.take i)) k wr)) (fun v3 v4 wr => n0 - (intOf v4).toNat)
  case atStart => exact ⟨0, none, 0, 0, by omega, by omega, rfl, rfl, by show NmS _ _ _ _ _ _; simpa [srtD] using hN0.out⟩
  case round =>
    clear hN0
    obtain ⟨i, ha, hc, k, hi, hk, rfl, rfl, hS⟩ := hrel
    by_cases hlt : i < n0
    · obtain ⟨x, hx⟩ : ∃ x, l[i]? = some x := ⟨l[i]'(by rw [← hn0.out]; exact hlt), List.getElem?_eq_getElem _⟩
      obtain ⟨g, o, rfl, hg, hat⟩ := hSH.out.at hx
      have hw0 := hat i x hx
      have hgw : Hid (g < wr.heap.size) := Nat.lt_of_lt_of_le hg hS.out.bel.size
      have c0 := (hS.out.bel.cell (p := ⟨g, o + i, none⟩) hg).trans hw0
      have hcell : Hid (∀ W, Below w.heap.size w W → W.cell? ⟨g, o + i, none⟩ = some (.string (str x))) := fun W hb => (hb.cell (p := ⟨g, o + i, none⟩) hg).trans hw0
      have hlt2 : (i : Int) < (n0 : Int) := by omega
      have z0 : (0 : Int) ≤ (i : Int) := by omega
      have hxH := Hid.intro hx
      have hkl : Hid (k = (srtD (l.take i)).length) := hS.out.len
      have hstep : Hid (srtD (l.take (i + 1)) = insD (srtD (l.take i)) x) := by
        show _ = _
        rw [List.take_add_one, hx]
        exact srtD_snoc _ _
      have hh : Hid (Calls Tryz.prog 57 #[.slice ha k hc, .string (str x)] wr fun e w' => e = .returned (.bool (decide (x ∈ srtD (l.take i)))) ∧ Below wr.heap.size wr w') := by
        have h6 := has_any ha hc (srtD (l.take i)) (by have := hkl.out; omega) x wr (own_stIn (by have := hS.out.own; rwa [hkl.out] at this))
        rw [← hkl.out] at h6
        exact h6
      clear hat hx hg
      generalize srtD (l.take i) = out at *
      by_cases hm : x ∈ out
      · rw [decide_eq_true hm] at hh
        have hsame : Hid (srtD (l.take (i + 1)) = out) := by
          show _ = _
          rw [hstep.out]
          unfold insD
          rw [if_pos hm]
        clear hm
        go_wp2_with (go_at_call 57; (with_reducible refine (hh.out).mono ?_); rintro e w1 ⟨rfl, hb1⟩; have hS1 := Hid.intro (hS.out.below hb1); clear hb1)
        all_goals first | omega | skip
        go_roundw
        case rel => exact ⟨i + 1, ha, hc, k, by omega, by omega, rfl, by go_num, by show NmS _ _ _ _ _ _; rw [hsame.out]; exact hS1.out⟩
        case measure => simp [intOf]; omega
      · rw [decide_eq_false hm] at hh
        have hins : Hid (insD out x = putD out (posD out x k) x) := by
          show _ = _
          unfold insD
          rw [if_neg hm, hkl.out]
        clear hm
        go_wp2_with (first
          | (go_at_call 57
             (with_reducible refine (hh.out).mono ?_)
             rintro e w1 ⟨rfl, hb1⟩
             have hS1 := Hid.intro (hS.out.below hb1)
             have c1 := (hb1.cell (p := ⟨g, o + i, none⟩) hgw.out).trans c0
             have hS2 := Hid.intro (hS1.out.below (below_alloc w1 (.cells #[.string (str x)] 9)))
             have hsrc : Hid (Src (w1.alloc (.cells #[.string (str x)] 9)) (.slice (some ⟨w1.heap.size, 0, none⟩) 1 1) 1 [encStr x]) := .inr ⟨_, _, rfl, cells_new w1 #[.string (str x)] 9⟩
             have hbase : w.heap.size ≤ (w1.alloc (.cells #[.string (str x)] 9)).heap.size := hS2.out.bel.size
             clear hb1)
          | (at_builtin; go_must (refine wpList_app rfl (.tmp 20) (.tmp 25) 28 rfl w.heap.size 9 i0 _ 1 16 Tryz.underlying28 hi9 hz0 hz1 hz2 rfl (by decide) (.slice ha k hc) k _ rfl hS2.out.own (.slice (some ⟨_, 0, none⟩) 1 1) 1 [encStr x] rfl hsrc.out rfl (by simp [Value.oneCell', encStr]) (by unfold maxLen; omega) (by omega) hbase ?_; intro v' w5 ho hg hw; obtain ⟨a', c', rfl, hN⟩ := hS2.out.push ho hg; replace hN := Hid.intro hN; clear ho hg hw)))
        all_goals first | omega | skip
        clear c1 hS1 hS2 hsrc hbase hh c0
        have hP0 : Hid (NmS w a' c' (putD out k x) (k + 1) w5) := by
          have := hN.out
          rwa [← putD_end, ← hkl.out] at this
        clear hN
        go_loopw [5] (fun v5 w6 => ∃ (kk : Nat) (v : List UInt8), kk ≤ k ∧ v5 = .int .i64 (kk : Int) ∧ Hid (posD out x k = posD out x kk) ∧ Hid (NmS w a' c' (putD out kk v) (k + 1) w6)) (fun v5 w6 => (intOf v5).toNat)
        case atStart => exact ⟨k, x, by omega, rfl, Hid.intro rfl, hP0⟩
        case round =>
          obtain ⟨kk, v, hkk, rfl, hpos, hP⟩ := hrel
          obtain ⟨q, hq, hqlo, hqlt, hqc, hqf, hqs⟩ := nms_set hP.out (i := kk) (by omega)
          subst hq
          have hsz : (putD out kk v).length = k + 1 := hP.out.len.symm
          obtain ⟨vk, hvk⟩ : ∃ vk, (putD out kk v)[kk]? = some vk := ⟨_, List.getElem?_eq_getElem (by omega)⟩
          have ck := hqc kk vk hvk
          have cl := hcell.out wr hP.out.bel
          have hkk2 : (kk : Int) < ((k + 1 : Nat) : Int) := by omega
          have kz : (0 : Int) ≤ (kk : Int) := by omega
          have hfinal : Hid (posD out x kk = kk → ∀ nq, NmS w (some ⟨q, 0, none⟩) c' (srtD (l.take (i + 1))) (k + 1) ((wr.drewN nq).setCell ⟨q, kk, none⟩ (.string (str x)))) := fun hend nq => by
            obtain ⟨q', hq', _, _, _, _, hqs'⟩ := nms_set (hP.out.below (below_drewN (Below.refl _ _) nq)) (i := kk) (by omega)
            cases hq'
            have h9 := hqs' x
            have e9 : posD out x k = kk := hpos.out.trans hend
            rw [putD_set out kk v x (by have := hkl.out; omega)] at h9
            rw [hstep.out, hins.out, e9]
            exact h9
          by_cases h0 : kk = 0
          · have hend : Hid (posD out x kk = kk) := by subst h0; exact Hid.intro rfl
            have hfin2 := Hid.intro (hfinal.out hend.out)
            subst h0
            clear hfinal hend hqs hqc hvk hsz hpos hP hqlo
            go_wp2
            go_quiet (fail)
            all_goals first | omega | skip
            have hfin3 := Hid.intro (hfin2.out nq)
            go_wp2
            all_goals first | omega | skip
            exact ⟨⟨i + 1, _, _, k + 1, by omega, by omega, rfl, by go_num, hfin3⟩, by simp [intOf]; omega⟩
          · obtain ⟨k1, hk1⟩ : ∃ k1, kk = k1 + 1 := ⟨kk - 1, by omega⟩
            obtain ⟨y, hy⟩ : ∃ y, out[k1]? = some y := ⟨_, List.getElem?_eq_getElem (by have := hkl.out; omega)⟩
            have cy := hqc k1 y (by rw [putD_low out kk v k1 (by omega) (by have := hkl.out; omega)]; exact hy)
            have hyH := Hid.intro hy
            have q2 : (kk : Int) - 1 = (k1 : Int) := by omega
            have q1 : IntKind.i64.wrap ((kk : Int) - 1) = (k1 : Int) := by rw [q2, IntKind.wrap_i64]; omega
            have q3 : wrap64 ((kk : Int) - 1) = (k1 : Int) := by rw [q2]; unfold wrap64; omega
            have p1 : decide (0 < kk) = true := by simp; omega
            have z1 : (k1 : Int) < ((k + 1 : Nat) : Int) := by omega
            have z2 : (0 : Int) ≤ (k1 : Int) := by omega
            have hk1H := Hid.intro hk1
            by_cases hn : nlt x y = true
            · have e1 : Op.bytesLess (str y).toList (str x).toList = false := by rw [str_toList, str_toList]; exact nlt_asymm hn
              have e2 : ((str y).toList == (str x).toList) = false := by rw [str_toList, str_toList]; exact beq_false_of_ne fun e => by rw [e, nlt_irrefl] at hn; cases hn
              have hposn : Hid (posD out x k = posD out x k1) := by
                show _ = _
                rw [hpos.out, hk1H.out]
                show posD out x (k1 + 1) = _
                rw [posD, hyH.out]
                simp only
                rw [if_pos hn]
              have hnext : Hid (∀ nq, NmS w (some ⟨q, 0, none⟩) c' (putD out k1 y) (k + 1) ((wr.drewN nq).setCell ⟨q, kk, none⟩ (.string (str y)))) := fun nq => by
                obtain ⟨q', hq', _, _, _, _, hqs'⟩ := nms_set (hP.out.below (below_drewN (Below.refl _ _) nq)) (i := kk) (by omega)
                cases hq'
                have h9 := hqs' y
                rw [putD_set out kk v y (by have := hkl.out; omega), hk1H.out, putD_shift out k1 y hyH.out] at h9
                rw [hk1H.out]
                exact h9
              clear hfinal hqs hqc hvk hsz hpos hP hqlo hn hy h0 hk1
              go_wp2
              all_goals first | omega | skip
              go_quiet (fail)
              all_goals first | omega | skip
              have hnx := Hid.intro (hnext.out nq)
              go_wp2
              all_goals first | omega | skip
              exact ⟨⟨k1, y, by have := hk1H.out; omega, rfl, hposn, hnx⟩, by have := hk1H.out; simp [intOf]; omega⟩
            · have hnf : nlt x y = false := by simpa using hn
              have hend : Hid (posD out x kk = kk) := by
                show _ = _
                rw [hk1H.out]
                show posD out x (k1 + 1) = _
                rw [posD, hyH.out]
                simp only
                rw [if_neg hn]
              have hfin2 := Hid.intro (hfinal.out hend.out)
              rcases nlt_tri y x with h7 | h7 | h7
              · have e1 : Op.bytesLess (str y).toList (str x).toList = true := by rw [str_toList, str_toList]; exact h7
                clear hfinal hend hqs hqc hvk hsz hpos hP hqlo hn hnf hy h0 hk1 h7
                go_wp2
                all_goals first | omega | skip
                go_quiet (fail)
                all_goals first | omega | skip
                have hfin3 := Hid.intro (hfin2.out nq)
                go_wp2
                all_goals first | omega | skip
                exact ⟨⟨i + 1, _, _, k + 1, by omega, by omega, rfl, by go_num, hfin3⟩, by simp [intOf]; omega⟩
              · have e2 : ((str y).toList == (str x).toList) = true := by rw [h7]; simp
                have e1 : Op.bytesLess (str y).toList (str x).toList = false := by rw [str_toList, str_toList, h7]; exact nlt_irrefl _
                clear hfinal hend hqs hqc hvk hsz hpos hP hqlo hn hnf hy h0 hk1 h7
                go_wp2
                all_goals first | omega | skip
                go_quiet (fail)
                all_goals first | omega | skip
                have hfin3 := Hid.intro (hfin2.out nq)
                go_wp2
                all_goals first | omega | skip
                exact ⟨⟨i + 1, _, _, k + 1, by omega, by omega, rfl, by go_num, hfin3⟩, by simp [intOf]; omega⟩
              · rw [hnf] at h7; cases h7
    · have hin : i = n0 := by omega
      subst hin
      have hlt3 : ¬ ((i : Int) < (i : Int)) := by omega
      go_wp2
      all_goals first | omega | skip
      go_ret
      have h5 := hS.out
      rw [hn0.out, List.take_length] at h5
      have e9 := h5.len
      rw [← e9]
      exact ⟨ha, hc, rfl, h5⟩
end Go.Proofs.YtmndccbeddaphaaGreatDoor

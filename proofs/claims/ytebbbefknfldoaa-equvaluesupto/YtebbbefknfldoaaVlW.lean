/- EquValues: its walk. -/
import Derived.Test.YtebbbefknfldoaaRCy
import Derived.Test.YtebbbefknfldoaaTurnW
import Derived.Test.YtebbbefknfldoaaRefRight
import Derived.Carry
import Derived.Deep.RegionHeld3
namespace Go.Proofs.Ytebbbefknfldoaa
open Go.ChangeShapes Go.WideShapes Go.ChangeAt Go.RowKit Go.Sort Go.Maps Go.WideMaps
set_option linter.unusedVariables false
set_option linter.unusedSimpArgs false
set_option maxRecDepth 100000
set_option maxHeartbeats 16000000 in
theorem vals_no (l : List Eqv) (la : Option Addr) (lc : Nat) (hI : InL l) (vs : List Int) (va : Option Addr) (vc : Nat) (w : World) (hE : EqIn w la l) (hno : ¬ RightP l ∨ vs = [] ∨ (RightP l ∧ vs ≠ [] ∧ vs.length ≤ 1048576 ∧ ∃ x, CycN l x)) :
    Calls Try.prog 5 #[.slice la l.length lc, .slice va vs.length vc] w fun e w' => e = .returned (.bool true) ∧ Below w.heap.size w w' := by
  have h15 := Hid.intro (hI.rightC la lc w hE)
  have h14 := Hid.intro known_any
  by_cases hR : RightP l
  rotate_left
  · rw [rightB_neg hR] at h15
    generalize vs.length = vn at *
    generalize l.length = n at *
    clear hR hno hI hE
    go_enter Try.func5, Try.ntmps5
    go_wp2_with (first | (go_at_call 15; (with_reducible refine (h15.out).mono ?_); rintro e w1 ⟨rfl, hb1⟩; replace hb1 := Hid.intro hb1) | (go_at_call 14; (with_reducible refine (h14.out _).mono ?_); rintro e w2 ⟨rfl, hb2⟩; replace hb2 := Hid.intro hb2))
    all_goals first | omega | skip
    go_ret
    exact ⟨rfl, hb1.out.trans (hb2.out.mono hb1.out.size)⟩
  · have hS := hI.right hR
    rw [rightB_pos hR] at h15
    by_cases hv : vs = []
    · subst hv
      simp only [List.length_nil] at *
      generalize l.length = n at *
      clear hR hno hI hE hS
      go_enter Try.func5, Try.ntmps5
      go_wp2_with (first | (go_at_call 15; (with_reducible refine (h15.out).mono ?_); rintro e w1 ⟨rfl, hb1⟩; replace hb1 := Hid.intro hb1) | (go_at_call 14; (with_reducible refine (h14.out _).mono ?_); rintro e w2 ⟨rfl, hb2⟩; replace hb2 := Hid.intro hb2))
      all_goals first | omega | skip
      go_ret
      exact ⟨rfl, hb1.out.trans (hb2.out.mono hb1.out.size)⟩
    · obtain ⟨hvl, hcx⟩ : vs.length ≤ 1048576 ∧ ∃ x, CycN l x := by
        rcases hno with h | h | h
        · exact absurd hR h
        · exact absurd h hv
        · exact ⟨h.2.2.1, h.2.2.2⟩
      have hvpos : 0 < vs.length := List.length_pos_iff.2 hv
      have s8 : Hid (∀ W, Hid (Below w.heap.size w W) → Calls Try.prog 8 #[.slice la l.length lc] W fun e w4 => ∃ m : Nat, e = .returned (.tuple #[.slice none 0 0, .int .i64 (m : Int), .int .i64 24]) ∧ Hid (Below w.heap.size w w4)) := fun W hb => by
        refine (solve_not hS hcx la lc W (hE.below hb.out)).mono ?_
        rintro e w4 ⟨m, rfl, _, hb4⟩
        exact ⟨m, rfl, hb.out.trans (hb4.mono hb.out.size)⟩
      have s10 : Hid (∀ W, Hid (Below w.heap.size w W) → Calls Try.prog 10 #[.slice la l.length lc] W fun e w6 => ∃ a6 n6 c6, e = .returned (.slice a6 n6 c6) ∧ 0 < n6 ∧ n6 ≤ 60 ∧ Hid (Below w.heap.size w w6)) := fun W hb => by
        refine (cycle_in hS la lc W (hE.below hb.out)).mono ?_
        rintro e w6 ⟨hb6, v, ss, rfl, ho, h1, h2, h3⟩
        obtain ⟨a6, c6, rfl⟩ := own_slice ho
        obtain ⟨x, hx⟩ := hcx
        have hlen : ss.length ≤ 60 := by
          have := nodup_le ss (l.map (·.1)) h2 (fun x hx => by
            obtain ⟨i, hi, _, e⟩ := (h3 x).1 hx
            rw [← e, nmOf_get (List.getElem?_eq_getElem hi)]
            exact List.mem_map.2 ⟨l[i], List.getElem_mem hi, rfl⟩)
          rw [List.length_map] at this
          have := hS.len
          omega
        exact ⟨a6, _, c6, rfl, List.length_pos_of_mem ((h3 x).2 hx), hlen, hb.out.trans (hb6.mono hb.out.size)⟩
      generalize vs.length = vn at *
      generalize l.length = n at *
      clear hR hno hI hE hS hv hcx
      go_enter Try.func5, Try.ntmps5
      go_wp2_with (first
        | (go_at_call 15; (with_reducible refine (h15.out).mono ?_); rintro e w1 ⟨rfl, hb1⟩; replace hb1 := Hid.intro hb1)
        | (go_at_call 8; (with_reducible refine (s8.out _ hb1).mono ?_); rintro e w3 ⟨m, rfl, hb3⟩)
        | (go_at_call 10; (with_reducible refine (s10.out _ hb3).mono ?_); rintro e w4 ⟨a6, n6, c6, rfl, hp6, hle6, hb4⟩)
        | (go_at_call 14; (with_reducible refine (h14.out _).mono ?_); rintro e w2 ⟨rfl, hb2⟩; replace hb2 := Hid.intro hb2))
      all_goals first | omega | skip
      go_ret
      exact ⟨rfl, hb4.out.trans (hb2.out.mono hb4.out.size)⟩
theorem leg_shortV {s : List UInt8} (h : legB (str s) = true) : s.length ≤ 32 := by
  simp only [legB, nameOK, Bool.and_eq_true, decide_eq_true_eq] at h
  have := h.1.2.2
  simpa [bs, str] using this
theorem eqIn_cells {w5 : World} {a : Option Addr} {l : List Eqv} (h : EqIn w5 a l) {i : Nat} {q : Eqv} (hq : l[i]? = some q) : ∃ g o va vc, a = some ⟨g, o, none⟩ ∧ g < w5.heap.size ∧ TmLies w5 va q.2.terms ∧ ∀ wr, Below w5.heap.size w5 wr → wr.cell? ⟨g, o + i * 3, none⟩ = some (.string (str q.1)) ∧ wr.cell? ⟨g, o + i * 3 + 1, none⟩ = some (.slice va q.2.terms.length vc) ∧ wr.cell? ⟨g, o + i * 3 + 2, none⟩ = some (.int .u32 q.2.const) := by
  obtain ⟨g, o, e, hg, va, vc, k0, k1, k2, k3⟩ := eqIn_at h hq
  exact ⟨g, o, va, vc, e, hg, k3, fun wr hb => ⟨(hb.cell (p := ⟨g, _, none⟩) hg).trans k0, (hb.cell (p := ⟨g, _, none⟩) hg).trans k1, (hb.cell (p := ⟨g, _, none⟩) hg).trans k2⟩⟩
theorem tmLies_cells {w5 : World} {a : Option Addr} {ts : List Tm} (h : TmLies w5 a ts) {k : Nat} {t : Tm} (ht : ts[k]? = some t) : ∃ g o, a = some ⟨g, o, none⟩ ∧ g < w5.heap.size ∧ ∀ wr, Below w5.heap.size w5 wr → wr.cell? ⟨g, o + k * 2, none⟩ = some (.string (str t.name)) := by
  rcases h with h | ⟨g, o, e, hg, hc⟩
  · rw [h] at ht; cases ht
  · exact ⟨g, o, e, hg, fun wr hb => (hb.cell (p := ⟨g, _, none⟩) hg).trans (hc k t ht).name⟩
set_option maxHeartbeats 64000000 in
theorem vals_yes (l : List Eqv) (la : Option Addr) (lc : Nat) (hI : InL l) (hnm : (nmsOf l).length ≤ 1048576) (vs : List Int) (va : Option Addr) (vc : Nat) (hv1 : ∀ v ∈ vs, 0 ≤ v ∧ v < 4294967296) (hv2 : vs ≠ []) (hv3 : vs.length ≤ 1048576) (hR : RightP l) (hcy : ∀ x, ¬ CycN l x) (w : World) (hE : EqIn w la l) (hV : IntLies w va vs) :
    Calls Try.prog 5 #[.slice la l.length lc, .slice va vs.length vc] w fun e w' => e = .returned (.bool true) ∧ Below w.heap.size w w' := by
  have h15 := Hid.intro (hI.rightC la lc w hE)
  rw [rightB_pos hR] at h15
  have h14 := Hid.intro known_any
  have hS := hI.right hR
  have hs := hS.slb hcy
  have hvpos : 0 < vs.length := List.length_pos_iff.2 hv2
  have hlg : ∀ s ∈ nmsOf l, legB (str s) = true := fun s hs => by
    obtain ⟨q, hq, hu⟩ := List.mem_flatMap.1 hs
    obtain ⟨t, ht, rfl⟩ := List.mem_map.1 hu
    exact right_legal (hR.2.1 q hq).2 t ht
  have hlgj : ∀ j, j < l.length → legB (str (nmOf l j)) = true := fun j hj => by
    rw [nmOf_get (List.getElem?_eq_getElem hj)]
    exact (hR.2.1 _ (List.getElem_mem hj)).1
  have hnl : ∀ s ∈ nmsOf l, s.length ≤ 1000000 := fun s hs => by
    have := leg_shortV (hlg s hs)
    omega
  have hnlj : ∀ j, j < l.length → (nmOf l j).length ≤ 1000000 := fun j hj => by
    have := leg_shortV (hlgj j hj)
    omega
  have s8 : Hid (∀ W, Hid (Below w.heap.size w W) → Calls Try.prog 8 #[.slice la l.length lc] W fun e w4 => ∃ g1, e = .returned (.tuple #[.slice (some ⟨g1, 0, none⟩) l.length l.length, .int .i64 0, .int .i64 0]) ∧ Hid (EqIn w4 (some ⟨g1, 0, none⟩) (solL l)) ∧ Hid (Below w.heap.size w w4)) := fun W hb => by
    refine (solve_good hS hcy la lc W (hE.below hb.out)).mono ?_
    rintro e w4 ⟨g1, rfl, hm, hb4⟩
    exact ⟨g1, rfl, hm, hb.out.trans (hb4.mono hb.out.size)⟩
  have s10 : Hid (∀ W, Hid (Below w.heap.size w W) → Calls Try.prog 10 #[.slice la l.length lc] W fun e w6 => ∃ a6 c6, e = .returned (.slice a6 0 c6) ∧ Hid (Below W.heap.size W w6)) := fun W hb => by
    refine (cycle_in hS la lc W (hE.below hb.out)).mono ?_
    rintro e w6 ⟨hb6, v, ss, rfl, ho, h1, h2, h3⟩
    have : ss = [] := List.eq_nil_iff_forall_not_mem.2 fun x hx => hcy x ((h3 x).1 hx)
    subst this
    obtain ⟨a6, c6, rfl⟩ := own_slice ho
    exact ⟨a6, c6, rfl, hb6⟩
  have hEH := Hid.intro hE
  have hVH := Hid.intro hV
  have hSH := Hid.intro hS
  have hsH := Hid.intro hs
  have hlgH := Hid.intro hlg
  have hlgjH := Hid.intro hlgj
  have hnlH := Hid.intro hnl
  have hnljH := Hid.intro hnlj
  have hv1H := Hid.intro hv1
  have hnmH := Hid.intro hnm
  have hn60 := hS.len
  obtain ⟨n, hn⟩ : ∃ n, n = l.length := ⟨_, rfl⟩
  have hnH := Hid.intro hn
  obtain ⟨vn, hvn⟩ : ∃ vn, vn = vs.length := ⟨_, rfl⟩
  have hvnH := Hid.intro hvn
  rw [← hn] at h15 s8 s10 hn60 ⊢
  rw [← hvn] at hvpos hv3 ⊢
  clear hn hvn hE hV hS hs hlg hlgj hnl hnlj hv1 hnm hI hR hcy hv2
  go_enter Try.func5, Try.ntmps5
  go_upto_region 8 with (first
    | (go_at_call 15; (with_reducible refine (h15.out).mono ?_); rintro e w1 ⟨rfl, hb1⟩; replace hb1 := Hid.intro hb1)
    | (go_at_call 8; (with_reducible refine (s8.out _ hb1).mono ?_); rintro e w3 ⟨g1, rfl, hM3, hb3⟩)
    | (go_at_call 10; (with_reducible refine (s10.out _ hb3).mono ?_); rintro e w4 ⟨a6, c6, rfl, hb4⟩))
  all_goals first | omega | skip
  have hM4 : Hid (EqIn w4 (some ⟨g1, 0, none⟩) (solL l)) := (hM3.out.below hb4.out)
  have hB4 : Hid (Below w.heap.size w w4) := (hb3.out.trans (hb4.out.mono hb3.out.size))
  have hE4 : Hid (EqIn w4 la l) := (hEH.out.below hB4.out)
  have hV4 : Hid (IntLies w4 va vs) := (hVH.out.below hB4.out (Nat.le_refl _))
  clear hM3 hb3 hb4 hb1 h15 s8 s10 hEH hVH
  have hmm := @run_makeMap Try.prog
  go_upto_region 10 with fail
  all_goals first | omega | skip
  have hst : Hid (V1 w4 ((w4.alloc (.map #[] 0)).alloc (.map #[] 0)) l w4.heap.size (w4.heap.size + 1) 0 0 (nmsOf (l.take 0))) := by
    have m1 := map_empty (World.ownsMap_made w4 Try.prog 9 (plainElem (H := Unit) Try.prog 27))
    have m2 := bl_empty (World.ownsMap_made (w4.alloc (.map #[] 0)) Try.prog 9 blE)
    rw [World.size_alloc] at m2
    exact ⟨(below_alloc w4 _).alloc (by simp) _, ⟨_, m1.below (below_alloc (w4.alloc (.map #[] 0)) _) (by simp), fun s hs => (by cases hs), fun s v h => (by cases h)⟩, _, m2, fun s => ⟨fun h => (by cases h), fun ⟨j, h, _⟩ => (by omega)⟩⟩
  have hb2e : w4.heap.size + 1 = w4.heap.size + 1 := rfl
  obtain ⟨b1, hb1⟩ : ∃ b1, b1 = w4.heap.size := ⟨_, rfl⟩
  obtain ⟨b2, hb2⟩ : ∃ b2, b2 = w4.heap.size + 1 := ⟨_, rfl⟩
  have hle1 : Hid (w4.heap.size ≤ b1) := Hid.intro (by omega)
  have hle2 : Hid (w4.heap.size ≤ b2) := Hid.intro (by omega)
  have hne12 : Hid (b1 ≠ b2) := Hid.intro (by omega)
  rw [← hb2, ← hb1] at hst
  rw [← hb2, ← hb1]
  generalize ((w4.alloc (.map #[] 0)).alloc (.map #[] 0)) = w5 at *
  clear hmm hb2e hb1 hb2
  have hup : Hid (∀ W, Below w4.heap.size w4 W → Below w.heap.size w W) := fun W hb => hB4.out.trans (hb.mono hB4.out.size)
  go_wp2
  all_goals first | omega | skip
  -- the equs' names and the values of the terms
  go_loopw [10] (fun v10 wr => ∃ i c : Nat, i ≤ n ∧ v10 = .int .i64 (i : Int) ∧ Hid (V1 w4 wr l b1 b2 c i (nmsOf (l.take i)) ∧ c ≤ (nmsOf (l.take i)).length)) (fun v10 _ => n - (intOf v10).toNat)
  case atStart => exact ⟨0, 0, by omega, by first | rfl | go_num, hst.out, Nat.zero_le _⟩
  case round =>
    clear hst
    obtain ⟨i, c, hi, rfl, hP⟩ := hrel
    by_cases hin : i < n
    · have hin2 : (i : Int) < (n : Int) := by omega
      have i0 : (0 : Int) ≤ (i : Int) := by omega
      have hil : i < l.length := by rw [← hnH.out]; exact hin
      obtain ⟨q, hq⟩ : ∃ q, l[i]? = some q := ⟨_, List.getElem?_eq_getElem hil⟩
      obtain ⟨gl, ol, qa, qc, rfl, hgl, hqT, hqc⟩ := eqIn_cells hE4.out hq
      obtain ⟨k0, k1, k2⟩ := hqc wr hP.out.1.bel
      obtain ⟨w6, hr6, hP6'⟩ := hP.out.1.ownPut hle1.out hle2.out hne12.out hil (by omega) (by have := hnljH.out i hil; omega)
      rw [nmOf_get hq] at hr6
      have hP6 : Hid (V1 w4 w6 l b1 b2 c (i + 1) (nmsOf (l.take i) ++ (q.2.terms.take 0).map (·.name)) ∧ c ≤ (nmsOf (l.take i)).length + 0) := by
        refine ⟨?_, hP.out.2⟩
        simpa using hP6'
      have hqcH := Hid.intro hqc
      have hqTH := Hid.intro hqT
      have hqH := Hid.intro hq
      have hsum : Hid ((nmsOf (l.take i)).length + q.2.terms.length ≤ 1048576) := by
        have h1 := nms_take_le l (i + 1)
        rw [nms_take hq, List.length_append, List.length_map] at h1
        have := hnmH.out
        exact Hid.intro (by omega)
      obtain ⟨tn, htn⟩ : ∃ tn, tn = q.2.terms.length := ⟨_, rfl⟩
      have htnH := Hid.intro htn
      rw [← htn] at k1 hqcH hsum
      have htn9 : tn ≤ 1048576 := by have := hsum.out; omega
      clear hP6' hqc hqT htn hq
      go_wp2
      all_goals first | omega | skip
      go_loopw [11] (fun v11 wr => ∃ k c : Nat, k ≤ tn ∧ v11 = .int .i64 (k : Int) ∧ Hid (V1 w4 wr l b1 b2 c (i + 1) (nmsOf (l.take i) ++ (q.2.terms.take k).map (·.name)) ∧ c ≤ (nmsOf (l.take i)).length + k)) (fun v11 _ => tn - (intOf v11).toNat)
      case atStart => exact ⟨0, c, by omega, by first | rfl | go_num, hP6⟩
      case round =>
        clear hP6 hP hr6 k0 k1 k2
        obtain ⟨k, c, hk, rfl, hP⟩ := hrel
        obtain ⟨k0, k1, k2⟩ := hqcH.out wr hP.out.1.bel
        by_cases hkn : k < tn
        · have hkn2 : (k : Int) < (tn : Int) := by omega
          have z0 : (0 : Int) ≤ (k : Int) := by omega
          obtain ⟨t, ht⟩ : ∃ t, q.2.terms[k]? = some t := ⟨_, List.getElem?_eq_getElem (by rw [← htnH.out]; exact hkn)⟩
          obtain ⟨gt, ot, rfl, hgt, htc⟩ := tmLies_cells hqTH.out ht
          have t0 := htc wr hP.out.1.bel
          obtain ⟨r, hrE⟩ : ∃ r, r = (i + k) % vn := ⟨_, rfl⟩
          have hrl : r < vn := by rw [hrE]; exact Nat.mod_lt _ hvpos
          obtain ⟨v, hv⟩ : ∃ v, vs[r]? = some v := ⟨_, List.getElem?_eq_getElem (by rw [← hvnH.out]; exact hrl)⟩
          obtain ⟨gv, ov, rfl, hgv, hvc⟩ : ∃ gv ov, va = some ⟨gv, ov, none⟩ ∧ gv < w4.heap.size ∧ w4.cell? ⟨gv, ov + r, none⟩ = some (.int .u32 v) := by
            rcases hV4.out with h | ⟨gv, ov, h1, h2, h3⟩
            · rw [h] at hv; cases hv
            · exact ⟨gv, ov, h1, h2, h3 r v hv⟩
          have p1 := (hP.out.1.bel.cell (p := ⟨gv, ov + r, none⟩) hgv).trans hvc
          have hdr : Below wr.heap.size wr wr.drew := (Below.refl _ wr).drew
          have htm : t.name ∈ nmsOf l := nms_mem (List.mem_of_getElem? hqH.out) (List.mem_of_getElem? ht)
          obtain ⟨w7, hr7, hP7', hg7⟩ := (hP.out.1.below hdr).atPut hle1.out hle2.out hne12.out (by have := hP.out.2; have := hsum.out; omega) t.name (by have := hnlH.out _ htm; omega) v (hv1H.out v (List.mem_of_getElem? hv))
          have hP7 : Hid (V1 w4 w7 l b1 b2 (c + 1) (i + 1) (nmsOf (l.take i) ++ (q.2.terms.take (k + 1)).map (·.name)) ∧ c + 1 ≤ (nmsOf (l.take i)).length + (k + 1)) := by
            have h2 := hP.out.2
            refine ⟨?_, by omega⟩
            rw [List.take_add_one, ht, List.map_append, ← List.append_assoc]
            exact hP7'
          obtain ⟨e0, e1, e2⟩ := hqcH.out w7 hP7.out.1.bel
          have s0 := htc w7 hP7.out.1.bel
          have s1 : w7.cell? ⟨gv, ov + r, none⟩ = some (.int .u32 v) := (hP7.out.1.bel.cell (p := ⟨gv, ov + r, none⟩) hgv).trans hvc
          have d1 : wr.drew.cell? ⟨gl, ol + i * 3 + 1, none⟩ = some (.slice (some ⟨gt, ot, none⟩) tn qc) := k1
          have d2 : wr.drew.cell? ⟨gt, ot + k * 2, none⟩ = some (.string (str t.name)) := t0
          have d3 : wr.drew.cell? ⟨gv, ov + r, none⟩ = some (.int .u32 v) := p1
          have htw : IntKind.i64.wrap (r : Int) = (r : Int) := by rw [IntKind.wrap_i64]; omega
          obtain ⟨mm, hmm⟩ : ∃ mm, mm = i + k := ⟨_, rfl⟩
          have htm1 : Int.tmod (mm : Int) (vn : Int) = (r : Int) := by rw [hrE, hmm]; exact (Int.ofNat_tmod (i + k) vn).symm
          have htm2 : (mm : Int) % (vn : Int) = (r : Int) := by
            have hm0 : (0 : Int) ≤ (mm : Int) := Int.natCast_nonneg mm
            rw [← htm1, Int.tmod_eq_emod_of_nonneg hm0]
          have hadd : IntKind.i64.wrap ((i : Int) + (k : Int)) = (mm : Int) := by rw [IntKind.wrap_i64]; omega
          have hvn0 : ¬ ((vn : Int) = 0) := by omega
          have hvn1 : ¬ (vn = 0) := by omega
          have i3 : (0 : Int) ≤ (r : Int) := by omega
          have i4 : (r : Int) < (vn : Int) := by omega
          clear hP7' hg7 hdr ht hv htc hvc hrE hgt hgv htm hmm
          go_upto_region 17 with fail
          all_goals first | omega | skip
          go_region_held3 (fun W => W.cell? ⟨gl, ol + i * 3 + 1, none⟩ = some (.slice (some ⟨gt, ot, none⟩) tn qc) ∧ W.cell? ⟨gt, ot + k * 2, none⟩ = some (.string (str t.name)) ∧ W.cell? ⟨gv, ov + r, none⟩ = some (.int .u32 v)) (go_keep) (fail)
          all_goals (go_wp2_with fail)
          all_goals first | omega | skip
          go_roundw
          case rel => exact ⟨k + 1, c + 1, by omega, by go_num, hP7⟩
          case measure => simp [intOf]; omega
        · obtain rfl : k = tn := by omega
          have hlt3 : ¬ ((k : Int) < (k : Int)) := by omega
          have hnext : Hid (V1 w4 wr l b1 b2 c (i + 1) (nmsOf (l.take (i + 1))) ∧ c ≤ (nmsOf (l.take (i + 1))).length) := by
            have h1 := hP.out.1
            have h2 := hP.out.2
            rw [htnH.out, List.take_length, ← nms_take hqH.out] at h1
            refine ⟨h1, ?_⟩
            rw [nms_take hqH.out, List.length_append, List.length_map, ← htnH.out]
            exact h2
          go_wp2
          all_goals first | omega | skip
          exact ⟨⟨i + 1, c, by omega, by go_num, hnext⟩, by simp [intOf]; omega⟩
    · obtain rfl : i = n := by omega
      have hlt3 : ¬ ((i : Int) < (i : Int)) := by omega
      obtain ⟨G, hG, hV3'⟩ : ∃ G, (∀ s, 0 ≤ G s ∧ G s < 4294967296) ∧ V3 w4 wr l b1 b2 0 0 G := by
        have h1 := hP.out.1
        have h2 := hP.out.2
        have h3 := nms_take_le l i
        have h4 := hnmH.out
        have h5 : l.take i = l := by rw [hnH.out, List.take_length]
        rw [h5] at h1 h2
        rw [hnH.out] at h1
        exact h1.three (by omega)
      have hst3 := Hid.intro hV3'
      clear hP hV3' hG
      go_wp2
      all_goals first | omega | skip
      -- what each comes to
      go_loopw [12] (fun v12 wr => ∃ j : Nat, j ≤ i ∧ v12 = .int .i64 (j : Int) ∧ Hid (V3 w4 wr l b1 b2 j 0 G)) (fun v12 _ => i - (intOf v12).toNat)
      case atStart => exact ⟨0, by omega, by first | rfl | go_num, hst3⟩
      case round =>
        clear hst3
        obtain ⟨j, hj, rfl, hP⟩ := hrel
        by_cases hjn : j < i
        · have hjn2 : (j : Int) < (i : Int) := by omega
          have j0 : (0 : Int) ≤ (j : Int) := by omega
          have hjl : j < l.length := by rw [← hnH.out]; exact hjn
          obtain ⟨q, hq⟩ : ∃ q, (solL l)[j]? = some q := ⟨_, List.getElem?_eq_getElem (by rw [solL_len]; exact hjl)⟩
          obtain ⟨gm, om, qa, qc, hgme, hgm, hqT, hqc⟩ := eqIn_cells hM4.out hq
          obtain ⟨rfl, rfl⟩ : gm = g1 ∧ om = 0 := by
            injection hgme with e
            injection e with e1 e2
            exact ⟨e1.symm, e2.symm⟩
          have hqe : q = (nmOf l j, (solF l (nmOf l j)).getD ⟨[], 0⟩) := by
            unfold solL at hq
            rw [List.getElem?_map, List.getElem?_range hjl] at hq
            have hq9 : (nmOf l j, (solF l (nmOf l j)).getD ⟨[], 0⟩) = q := by simpa using hq
            exact hq9.symm
          have hfr : Hid (∀ (wr : World) (k : Nat) (t : Tm), V3 w4 wr l b1 b2 j 0 G → q.2.terms[k]? = some t → (Instr.lookup 47 (.map (some b2)) (.string (str t.name)) false).run Try.prog wr = .ok (.bool false) wr) := fun wr k t hV ht => by
            have hm := List.mem_of_getElem? ht
            have hmn : t.name ∈ nmsOf l := (solL_mem hSH.out q (List.mem_of_getElem? hq)).2.2 t hm
            rw [hqe] at hm
            exact hV.free hsH.out hjl hm (by have := hnlH.out _ hmn; omega)
          have hcall : Hid (∀ wr, V3 w4 wr l b1 b2 j 0 G → Calls Try.prog 21 #[linV (.slice qa q.2.terms.length qc) q.2.const, .map (some b1)] wr fun e w' => e = .returned (.tuple #[.int .u32 (vvF l G j), .bool true]) ∧ Hid (V3 w4 w' l b1 b2 j 0 G) ∧ Hid (Below wr.heap.size wr w')) := fun wr hV => by
            refine (hV.valS hSH.out hq (fun s hs => by have := hnlH.out s hs; omega) qa qc (hqT.below hV.bel (Nat.le_refl _))).mono ?_
            rintro e w' ⟨rfl, hb⟩
            exact ⟨rfl, hV.below hb, hb⟩
          obtain ⟨ql, hql⟩ : ∃ ql, l[j]? = some ql := ⟨_, List.getElem?_eq_getElem hjl⟩
          obtain ⟨gl, ol, qla, qlc, rfl, hgl, _, hlc⟩ := eqIn_cells hE4.out hql
          have hnm1 : ql.1 = nmOf l j := (nmOf_get hql).symm
          have hnm2 : q.1 = nmOf l j := by rw [hqe]
          have hqcH : Hid (∀ wr, Below w4.heap.size w4 wr → wr.cell? ⟨gm, j * 3, none⟩ = some (.string (str (nmOf l j))) ∧ wr.cell? ⟨gm, j * 3 + 1, none⟩ = some (.slice qa q.2.terms.length qc) ∧ wr.cell? ⟨gm, j * 3 + 2, none⟩ = some (.int .u32 q.2.const) ∧ wr.cell? ⟨gl, ol + j * 3, none⟩ = some (.string (str (nmOf l j)))) := fun wr hb => by
            obtain ⟨a0, a1, a2⟩ := hqc wr hb
            obtain ⟨c0, _, _⟩ := hlc wr hb
            rw [Nat.zero_add] at a0 a1 a2
            rw [hnm2] at a0
            rw [hnm1] at c0
            exact ⟨a0, a1, a2, c0⟩
          have hqTH := Hid.intro hqT
          have hput : Hid (∀ wr, V3 w4 wr l b1 b2 j 0 G → ∃ w', (Instr.mapUpdate 46 (.map (some b1)) (.string (str (61 :: nmOf l j))) (.int .u32 (vvF l G j))).run Try.prog wr = .ok () w' ∧ Hid (V3 w4 w' l b1 b2 (j + 1) 0 G)) := fun wr hV =>
            hV.putE hle1.out hle2.out hne12.out hjl (by rw [← hnH.out]; exact hn60) (hnljH.out j hjl) hlgH.out hSH.out.nd
          have hcat : (ByteArray.mk #[61]) ++ str (nmOf l j) = str (61 :: nmOf l j) := by
            apply ByteArray.ext
            simp [str]
          have hnsz : (nmOf l j).length ≤ 1000000 := hnljH.out j hjl
          have hsz1 : (str (nmOf l j)).size = (nmOf l j).length := by simp [str, ByteArray.size]
          generalize nmOf l j = nm at *
          generalize vvF l G j = vj at *
          obtain ⟨tn, htn⟩ : ∃ tn, tn = q.2.terms.length := ⟨_, rfl⟩
          have htnH := Hid.intro htn
          rw [← htn] at hcall hqcH
          have htn9 : tn ≤ 9000000 := by
            obtain ⟨_, p1, p2⟩ := solL_mem hSH.out q (List.mem_of_getElem? hq)
            have := canon_len p1.terms p2
            have := hnmH.out
            omega
          generalize q.2.const = qk at *
          obtain ⟨k0, k1, k2, k3⟩ := hqcH.out wr hP.out.bel
          clear hqT hqc hq hqe hgme htn hlc hql hnm1 hnm2 hgl hgm
          go_wp2
          all_goals first | omega | skip
          go_loopw [13] (fun v13 wr => ∃ k : Nat, k ≤ tn ∧ v13 = .int .i64 (k : Int) ∧ Hid (V3 w4 wr l b1 b2 j 0 G)) (fun v13 _ => tn - (intOf v13).toNat)
          case atStart => exact ⟨0, by omega, by first | rfl | go_num, hP⟩
          case round =>
            clear hP k0 k1 k2 k3
            obtain ⟨k, hk, rfl, hP⟩ := hrel
            obtain ⟨k0, k1, k2, k3⟩ := hqcH.out wr hP.out.bel
            by_cases hkn : k < tn
            · have hkn2 : (k : Int) < (tn : Int) := by omega
              have z0 : (0 : Int) ≤ (k : Int) := by omega
              obtain ⟨t, ht⟩ : ∃ t, q.2.terms[k]? = some t := ⟨_, List.getElem?_eq_getElem (by rw [← htnH.out]; exact hkn)⟩
              obtain ⟨gt, ot, rfl, hgt, htc⟩ := tmLies_cells hqTH.out ht
              have t0 := htc wr hP.out.bel
              have hlk := hfr.out wr k t hP.out ht
              clear htc ht hgt
              go_wp2
              all_goals first | omega | skip
              exact ⟨⟨k + 1, by omega, by go_num, hP⟩, by simp [intOf]; omega⟩
            · obtain rfl : k = tn := by omega
              have hlt4 : ¬ ((k : Int) < (k : Int)) := by omega
              have h21 := Hid.intro (hcall.out wr hP.out)
              go_upto_region 27 with (go_at_call 21; (with_reducible refine (h21.out).mono ?_); rintro e w6 ⟨rfl, hP6, hb6⟩)
              all_goals first | omega | skip
              obtain ⟨m0, m1, m2, m3⟩ := hqcH.out w6 hP6.out.bel
              clear k0 k1 k2 k3 h21 hP hb6
              go_quiet (fail)
              have hP7 : Hid (V3 w4 (w6.drewN nq) l b1 b2 j 0 G) := hP6.out.below (below_drewN (Below.refl _ _) nq)
              generalize w6.drewN nq = w7 at *
              obtain ⟨n0, n1, n2, n3⟩ := hqcH.out w7 hP7.out.bel
              obtain ⟨w8, hr8, hP8⟩ := hput.out w7 hP7.out
              clear m0 m1 m2 m3
              go_wp2
              all_goals first | omega | skip
              exact ⟨⟨j + 1, by omega, by go_num, hP8⟩, by simp [intOf]; omega⟩
        · obtain rfl : j = i := by omega
          have hlt5 : ¬ ((j : Int) < (j : Int)) := by omega
          have hst5 : Hid (V3 w4 wr l b1 b2 l.length 0 G) := by rw [← hnH.out]; exact hP
          clear hP
          go_wp2
          all_goals first | omega | skip
          -- each under its own name
          go_loopw [16] (fun v16 wr => ∃ k : Nat, k ≤ j ∧ v16 = .int .i64 (k : Int) ∧ Hid (V3 w4 wr l b1 b2 l.length k G)) (fun v16 _ => j - (intOf v16).toNat)
          case atStart => exact ⟨0, by omega, by first | rfl | go_num, hst5⟩
          case round =>
            clear hst5
            obtain ⟨k, hk, rfl, hP⟩ := hrel
            by_cases hkn : k < j
            · have hkn2 : (k : Int) < (j : Int) := by omega
              have z0 : (0 : Int) ≤ (k : Int) := by omega
              have hkl : k < l.length := by rw [← hnH.out]; exact hkn
              obtain ⟨q, hq⟩ : ∃ q, l[k]? = some q := ⟨_, List.getElem?_eq_getElem hkl⟩
              obtain ⟨gl, ol, qa, qc, rfl, hgl, _, hqc⟩ := eqIn_cells hE4.out hq
              have k0 := (hqc wr hP.out.bel).1
              have hdr : Below wr.heap.size wr wr.drew := (Below.refl _ wr).drew
              obtain ⟨hlk, w7, hr7, hP7', hg7⟩ := (hP.out.below hdr).putN hle1.out hle2.out hne12.out hkl (by rw [← hnH.out]; exact hn60) (hnljH.out k hkl) hlgjH.out hSH.out.nd
              have hP7 := Hid.intro hP7'
              have s0 := (hqc w7 hP7.out.bel).1
              have hnq : q.1 = nmOf l k := (nmOf_get hq).symm
              rw [hnq] at k0 s0
              have d0 : wr.drew.cell? ⟨gl, ol + k * 3, none⟩ = some (.string (str (nmOf l k))) := k0
              have hcat : (ByteArray.mk #[61]) ++ str (nmOf l k) = str (61 :: nmOf l k) := by
                apply ByteArray.ext
                simp [str]
              have hnsz : (nmOf l k).length ≤ 1000000 := hnljH.out k hkl
              have hsz1 : (str (nmOf l k)).size = (nmOf l k).length := by simp [str, ByteArray.size]
              generalize nmOf l k = nm at *
              generalize vvF l G k = vk at *
              have hz5 : ¬ (9223372036854775807 < 1 + (str nm).size) := by omega
              clear hP7' hg7 hdr hq hqc hnq hgl hP hsz1 hnsz
              go_upto_region 33 with fail
              all_goals first | omega | skip
              go_region_held3 (fun W => W.cell? ⟨gl, ol + k * 3, none⟩ = some (.string (str nm))) (go_keep) (fail)
              all_goals (go_wp2_with fail)
              all_goals first | omega | skip
              go_roundw
              case rel => exact ⟨k + 1, by omega, by go_num, hP7⟩
              case measure => simp [intOf]; omega
            · obtain rfl : k = j := by omega
              have hlt6 : ¬ ((k : Int) < (k : Int)) := by omega
              have hst6 : Hid (V3 w4 wr l b1 b2 l.length l.length G) := by
                have := hP.out
                have h9 := hnH.out
                rw [← h9] at this ⊢
                exact this
              clear hP
              go_wp2
              all_goals first | omega | skip
              -- each comes to its expression
              go_loopw [17] (fun v17 wr => ∃ p : Nat, p ≤ k ∧ v17 = .int .i64 (p : Int) ∧ Hid (V3 w4 wr l b1 b2 l.length l.length G)) (fun v17 _ => k - (intOf v17).toNat)
              case atStart => exact ⟨0, by omega, by first | rfl | go_num, hst6⟩
              case round =>
                clear hst6
                obtain ⟨p, hp, rfl, hP⟩ := hrel
                by_cases hpn : p < k
                · have hpn2 : (p : Int) < (k : Int) := by omega
                  have z0 : (0 : Int) ≤ (p : Int) := by omega
                  have hpl : p < l.length := by rw [← hnH.out]; exact hpn
                  obtain ⟨q, hq⟩ : ∃ q, l[p]? = some q := ⟨_, List.getElem?_eq_getElem hpl⟩
                  obtain ⟨gl, ol, qa, qc, rfl, hgl, hqT, hqc⟩ := eqIn_cells hE4.out hq
                  obtain ⟨k0, k1, k2⟩ := hqc wr hP.out.bel
                  have h21 : Hid (Calls Try.prog 21 #[linV (.slice qa q.2.terms.length qc) q.2.const, .map (some b1)] wr fun e w' => e = .returned (.tuple #[.int .u32 (vvF l G p), .bool true]) ∧ Hid (V3 w4 w' l b1 b2 l.length l.length G) ∧ w'.cell? ⟨gl, ol + p * 3, none⟩ = some (.string (str (nmOf l p))) ∧ (Instr.lookup 46 (.map (some b1)) (.string (str (nmOf l p))) false).run Try.prog w' = .ok (.int .u32 (vvF l G p)) w') := by
                    refine (hP.out.valL hSH.out hsH.out hq (fun s hs => by have := hnlH.out s hs; omega) qa qc (hqT.below hP.out.bel (Nat.le_refl _))).mono ?_
                    rintro e w' ⟨rfl, hb⟩
                    have h1 := hP.out.below hb
                    refine ⟨rfl, h1, ?_, h1.lookN hpl (hnljH.out p hpl)⟩
                    have h2 := (hqc w' h1.bel).1
                    rw [← nmOf_get hq] at h2
                    exact h2
                  generalize q.2.terms.length = qn at *
                  generalize q.2.const = qk at *
                  generalize nmOf l p = nm at *
                  generalize vvF l G p = vp at *
                  clear hqc hqT hq hgl hP k0
                  go_wp2_with (go_at_call 21; (with_reducible refine (h21.out).mono ?_); rintro e w6 ⟨rfl, hP6, n0, hlk⟩)
                  all_goals first | omega | skip
                  go_roundw
                  case rel => exact ⟨p + 1, by omega, by go_num, hP6⟩
                  case measure => simp [intOf]; omega
                · obtain rfl : p = k := by omega
                  have hlt7 : ¬ ((p : Int) < (p : Int)) := by omega
                  go_wp2_with (go_at_call 14; (with_reducible refine (h14.out _).mono ?_); rintro e w9 ⟨rfl, hb9⟩; replace hb9 := Hid.intro hb9)
                  all_goals first | omega | skip
                  go_ret
                  have hBw := hup.out _ hP.out.bel
                  exact ⟨rfl, hBw.trans (hb9.out.mono hBw.size)⟩
theorem vals_any (l : List Eqv) (la : Option Addr) (lc : Nat) (hI : InL l) (hnm : (nmsOf l).length ≤ 1048576) (vs : List Int) (va : Option Addr) (vc : Nat) (hv1 : ∀ v ∈ vs, 0 ≤ v ∧ v < 4294967296) (hv3 : vs.length ≤ 1048576) (w : World) (hE : EqIn w la l) (hV : IntLies w va vs) :
    Calls Try.prog 5 #[.slice la l.length lc, .slice va vs.length vc] w fun e w' => e = .returned (.bool true) ∧ Below w.heap.size w w' := by
  by_cases hR : RightP l
  rotate_left
  · exact vals_no l la lc hI vs va vc w hE (.inl hR)
  · by_cases hv : vs = []
    · exact vals_no l la lc hI vs va vc w hE (.inr (.inl hv))
    · by_cases hc : ∀ x, ¬ CycN l x
      · exact vals_yes l la lc hI hnm vs va vc hv1 hv hv3 hR hc w hE hV
      · exact vals_no l la lc hI vs va vc w hE (.inr (.inr ⟨hR, hv, hv3, Classical.byContradiction fun h => hc fun x hx => h ⟨x, hx⟩⟩))
end Go.Proofs.Ytebbbefknfldoaa

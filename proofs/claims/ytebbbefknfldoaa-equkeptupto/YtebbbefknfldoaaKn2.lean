/- The law's known. -/
import Derived.Test.YtebbbefknfldoaaSlv1
import Derived.Test.YtebbbefknfldoaaRt
import Derived.Deep.DeepCutAuto
/- equ.Solve. -/
namespace Go.Proofs.Ytebbbefknfldoaa
open Go.ChangeShapes Go.WideShapes Go.ChangeAt Go.RowKit Go.Maps
set_option linter.unusedVariables false
set_option linter.unusedSimpArgs false
set_option maxRecDepth 100000
theorem nodup_of_len {α : Type} [DecidableEq α] : ∀ (l m : List α), m.Nodup → (∀ x ∈ m, x ∈ l) → l.length ≤ m.length → l.Nodup
  | [], m, _, _, _ => List.nodup_nil
  | x :: l, m, hm, hs, hl => by
    rw [List.length_cons] at hl
    have hx : x ∉ l := fun hx => by
      have := nodup_le m l hm (fun y hy => by
        rcases List.mem_cons.1 (hs y hy) with rfl | h
        · exact hx
        · exact h)
      omega
    refine List.nodup_cons.2 ⟨hx, nodup_of_len l (m.erase x) (hm.sublist (List.erase_sublist ..)) (fun y hy => ?_) ?_⟩
    · have h1 := (hm.mem_erase_iff).1 hy
      exact (List.mem_cons.1 (hs y h1.2)).resolve_left h1.1
    · by_cases hxm : x ∈ m
      · rw [List.length_erase_of_mem hxm]; omega
      · rw [List.erase_of_not_mem hxm]
        have := nodup_le m l hm (fun y hy => by
          rcases List.mem_cons.1 (hs y hy) with rfl | h
          · exact absurd hy hxm
          · exact h)
        omega
theorem order_is {l : List Eqv} (hnd : (l.map (·.1)).Nodup) (hl : l.length < Ta.big) (hlen : (walkL l).order.length ≤ l.length) : (walkL l).order.Nodup ∧ ∀ v, v ∈ (walkL l).order ↔ v < l.length := by
  obtain ⟨h1, _, _⟩ := walk_right hnd hl
  exact ⟨nodup_of_len _ (List.range l.length) List.nodup_range (fun x hx => (h1 x).2 (List.mem_range.1 hx)) (by simpa using hlen), h1⟩
theorem size_zero {w : World} {b n : Nat} {D : DataW Unit} (hown : w.ownsMap Try.prog 9 intE b n D) (h : ∀ x, has D (.string x) = false) : size D = 0 := by
  have hp := Collected.perm (D0 := D) (ss := []) (left := fun _ => false) ⟨List.nodup_nil, fun x => by simp [h x]⟩ hown lawS Try.underlying9 (fun _ => rfl)
  obtain ⟨es, hD, _⟩ := hown.entries lawS
  subst hD
  have := hp.length_eq
  rw [Maps.size_eq]
  simpa [strKeys] using this.symm
structure SolO (w : World) (l : List Eqv) (g : Nat) (v : Nat → Value) (w' : World) : Prop where
  bel : Below w.heap.size w w'
  out : OutIs w' g l.length (fun _ => True) (fun j => (nmOf l j, v j, ((svF l (walkL l).order (nmOf l j)).getD ⟨[], 0⟩).const))
  row : ∀ j, j < l.length → ∃ e, svF l (walkL l).order (nmOf l j) = some e ∧ w'.ownsRow w.heap.size 49 2 (v j) e.terms.length (rowT e.terms)
  ap : ∀ i, i < l.length → ∀ j, j < l.length → i ≠ j → ∀ b, (v i).ownBlock = some b → (v j).ownBlock ≠ some b
  gg : w.heap.size ≤ g
set_option maxHeartbeats 16000000 in
theorem solve_ok (l : List Eqv) (la : Option Addr) (lc : Nat) (hl : l.length ≤ 1000) (hnd : (l.map (·.1)).Nodup) (hheld : ∀ q ∈ l, q.1.length ≤ 140737488355328 ∧ CanL q.2) (hS : (nmsOf l).length ≤ 4400000) (hSn : ∀ s ∈ nmsOf l, s.length ≤ 140737488355328) (hback : ∀ x, ¬ CycN l x) (w : World) (hE : EqIn w la l) :
    Calls Try.prog 8 #[.slice la l.length lc] w fun e w' => ∃ g v, e = .returned (.tuple #[.slice (some ⟨g, 0, none⟩) l.length l.length, .int .i64 0, .int .i64 0]) ∧ SolO w l g v w' := by
  have hheld2 : ∀ q ∈ l, q.1.length ≤ 140737488355328 ∧ q.2.terms.length ≤ 4400000 ∧ ∀ t ∈ q.2.terms, t.name.length ≤ 140737488355328 := fun q hq => by
    have hs : ∀ t ∈ q.2.terms, t.name ∈ nmsOf l := fun t ht => List.mem_flatMap.2 ⟨q, hq, List.mem_map.2 ⟨t, ht, rfl⟩⟩
    exact ⟨(hheld q hq).1, Nat.le_trans (canon_len (hheld q hq).2.terms hs) hS, fun t ht => hSn _ (hs t ht)⟩
  have h28 := Hid.intro (walk_mem l la lc hl hnd hheld2 w hE)
  have hbk : Hid (∀ x, (backF l (walkL l).back x).isSome = false) := fun x => by
    cases h : (backF l (walkL l).back x).isSome with
    | false => rfl
    | true => exact absurd ((back_has hnd (Nat.lt_of_le_of_lt hl (by decide)) x).1 h) (hback x)
  obtain ⟨n0, hn0⟩ : ∃ n0, n0 = l.length := ⟨_, rfl⟩
  have hH := Hid.intro hn0
  have hl2 : n0 ≤ 1000 := by omega
  obtain ⟨i31, hi31, z0, z1, z2⟩ := info_parts info31
  have hmm : ∀ (z : Int) (W : World), (Instr.makeMap 69 (some (.int .i64 z))).run Try.prog W = .ok (.map (some W.heap.size)) (W.alloc (.map #[] 0)) := fun z W => run_makeMap_hint Try.underlying69 z W
  obtain ⟨M, hM, hms⟩ : ∃ M : Array Value, M.size = n0 * 3 ∧ ∀ W : World, (Instr.makeSlice 22 (.int .i64 (n0 : Int)) (.int .i64 (n0 : Int))).run Try.prog W = .ok (.slice (some ⟨W.heap.size, 0, none⟩) n0 n0) (W.alloc (.cells M 31)) := by
    refine ⟨madeCells (Value.agg #[.string ⟨#[]⟩, .slice none 0 0, .int .u32 0]).cells (n0 * 3), size_madeCells _ _, fun W => ?_⟩
    have h := run_make (P := Try.prog) W 22 31 i31 (.agg #[.string ⟨#[]⟩, .slice none 0 0, .int .u32 0]) Try.underlying22 hi31 z0 .i64 .i64 (n0 : Int) (n0 : Int) (by omega) (by omega) (by rw [z2]; omega) (by omega)
    rw [z1] at h
    simp only [Int.toNat_natCast] at h
    exact h
  rw [← hn0] at h28 ⊢
  have hlH := Hid.intro hl
  have hndH := Hid.intro hnd
  have hhH := Hid.intro hheld
  have hSH := Hid.intro hS
  have hSnH := Hid.intro hSn
  have hEH := Hid.intro hE
  clear hl hnd hheld hS hSn hE hback hheld2 hn0
  go_enter Try.func8, Try.ntmps8
  go_wp2_with (first
    | (go_at_call 28; (with_reducible refine (h28.out).mono ?_); rintro e w1 ⟨ao, no, co, B0, nb, hn, rfl, hW⟩; obtain ⟨D, hown, hD1, hD2⟩ := hW.map; have hz := hown.len Try.underlying66 3; rw [size_zero hown (fun x => (hD2 x).1.trans (hbk.out x))] at hz; have hWH := Hid.intro hW; have hnH := Hid.intro hn; have hDH := Hid.intro hD2; clear hW hn hD1 hD2))
  all_goals first | omega | skip
  have hord := Hid.intro (order_is hndH.out (Nat.lt_of_le_of_lt hlH.out (by decide)) hWH.out.len)
  have hS0 : Hid (SSt w l (walkL l).order ao co w1.heap.size (w1.heap.size + 1) 0 (fun _ => .slice none 0 0) ((w1.alloc (.cells M 31)).alloc (.map #[] 0))) := by
    have hb1 := below_alloc w1 (.cells M 31)
    have h1 := heap_alloc_new w1 (.cells M 31)
    have hs1 : (w1.alloc (.cells M 31)).heap.size = w1.heap.size + 1 := by simp
    generalize w1.alloc (.cells M 31) = W1 at *
    have hb2 := below_alloc W1 (.map #[] 0)
    have hm := LnIs.made W1
    rw [hs1] at hm
    have hb12 := hb1.trans (hb2.mono (by omega))
    have hws := hWH.out.bel.size
    exact ⟨hWH.out.bel.trans (hb12.mono hws), own_bel hWH.out.own hb12 (Nat.le_refl _), ⟨M, (hb2.block _ (by omega)).trans h1, by rw [hM, hH.out], fun j hj hp => by cases hp⟩, fun j hj => (by cases hj), fun i hi => (by cases hi), ⟨_, hm, fun s => ⟨fun _ => rfl, fun e he => by cases he⟩⟩, hws, by omega⟩
  have hnl : no ≤ n0 := by rw [hnH.out, hH.out]; exact hWH.out.len
  clear hown hz hDH hWH h28 hbk hms hM hmm
  generalize (w1.alloc (.cells M 31)).alloc (.map #[] 0) = W2 at *
  generalize w1.heap.size = g at *
  go_loopw [43] (fun v43 wr => ∃ (k : Nat) (v : Nat → Value), k ≤ no ∧ v43 = .int .i64 (k : Int) ∧ Hid (SSt w l (walkL l).order ao co g (g + 1) k v wr)) (fun v43 _ => no - (intOf v43).toNat)
  case atStart => exact ⟨0, _, by omega, by first | rfl | go_num, hS0⟩
  case round =>
    obtain ⟨k, v, hk, rfl, hS⟩ := hrel
    clear hS0
    by_cases hkn : k < no
    · have hkl : k < (walkL l).order.length := by rw [← hnH.out]; exact hkn
      obtain ⟨i, hki⟩ : ∃ i, (walkL l).order[k]? = some i := ⟨_, List.getElem?_eq_getElem hkl⟩
      have hil : i < l.length := (hord.out.2 i).1 (List.mem_of_getElem? hki)
      have hni : i ∉ (walkL l).order.take k := fun h => by
        have h1 := List.nodup_iff_pairwise_ne.1 hord.out.1
        obtain ⟨j, hj, e⟩ := List.getElem_of_mem h
        rw [List.length_take] at hj
        rw [List.getElem_take] at e
        have h2 := List.pairwise_iff_getElem.1 h1 j k (by omega) hkl (by omega)
        rw [List.getElem?_eq_getElem hkl] at hki
        exact h2 (e.trans (Option.some.inj hki).symm)
      obtain ⟨go, rfl, _, hcell⟩ := own_addr hS.out.ord (by omega)
      have d0 := hcell k (.int .i64 (i : Int)) (by unfold rowN; rw [List.getElem?_map, hki]; rfl)
      clear hcell
      obtain ⟨q, gl, ol, va, vc, hq, rfl, hgl, hqa⟩ : ∃ q gl ol va vc, l[i]? = some q ∧ la = some ⟨gl, ol, none⟩ ∧ gl < w.heap.size ∧ EqAt w gl (ol + i * 3) q va vc := by
        rcases hEH.out with e | ⟨gl, ol, e1, e2, e3⟩
        · rw [e] at hil; simp at hil
        · obtain ⟨va, vc, hq⟩ := e3 i l[i] (List.getElem?_eq_getElem hil)
          exact ⟨l[i], gl, ol, va, vc, List.getElem?_eq_getElem hil, e1, e2, hq⟩
      have hq' := hqa.below hgl hS.out.bel
      have q0 := hq'.name
      have hnmi := nmOf_get hq
      have hexi := exOf_get hq
      obtain ⟨hqn, hqc⟩ := hhH.out q (List.mem_of_getElem? hq)
      obtain ⟨tl, htl⟩ : ∃ tl, tl = q.2.terms.length := ⟨_, rfl⟩
      have hcl : Hid (Calls Try.prog 29 #[.string (str q.1)] wr fun e w3 => e = .returned (.string (str q.1)) ∧ w3.cell? ⟨gl, ol + i * 3 + 1, none⟩ = some (.slice va tl vc) ∧ w3.cell? ⟨gl, ol + i * 3 + 2, none⟩ = some (.int .u32 q.2.const) ∧ Hid (Calls Try.prog 30 #[linV (.slice va tl vc) q.2.const, .map (some (g + 1))] w3 fun e w4 => ∃ a4 n4 c4 k4 w5, e = .returned (linV (.slice a4 n4 c4) k4) ∧ w4.frozen? ⟨g, i * 3, none⟩ = false ∧ w4.frozen? ⟨g, i * 3 + 1, none⟩ = false ∧ w4.frozen? ⟨g, i * 3 + 2, none⟩ = false ∧ (∃ u, w4.cell? ⟨g, i * 3, none⟩ = some u) ∧ (∃ u, w4.cell? ⟨g, i * 3 + 1, none⟩ = some u) ∧ (∃ u, w4.cell? ⟨g, i * 3 + 2, none⟩ = some u) ∧
          (((w4.setCell ⟨g, i * 3, none⟩ (.string (str q.1))).setCell ⟨g, i * 3 + 1, none⟩ (.slice a4 n4 c4)).setCell ⟨g, i * 3 + 2, none⟩ (.int .u32 k4)).cell? ⟨g, i * 3 + 1, none⟩ = some (.slice a4 n4 c4) ∧
          (((w4.setCell ⟨g, i * 3, none⟩ (.string (str q.1))).setCell ⟨g, i * 3 + 1, none⟩ (.slice a4 n4 c4)).setCell ⟨g, i * 3 + 2, none⟩ (.int .u32 k4)).cell? ⟨g, i * 3 + 2, none⟩ = some (.int .u32 k4) ∧
          (Instr.mapUpdate 69 (.map (some (g + 1))) (.string (str q.1)) (.agg #[.slice a4 n4 c4, .int .u32 k4])).run Try.prog (((w4.setCell ⟨g, i * 3, none⟩ (.string (str q.1))).setCell ⟨g, i * 3 + 1, none⟩ (.slice a4 n4 c4)).setCell ⟨g, i * 3 + 2, none⟩ (.int .u32 k4)) = .ok () w5 ∧ Hid (SSt w l (walkL l).order (some ⟨go, 0, none⟩) co g (g + 1) (k + 1) (fun j => if j = i then .slice a4 n4 c4 else v j) w5))) := by
        refine (clone_any (str q.1) wr (by simp [str, ByteArray.size]; omega)).mono ?_
        rintro e w3 ⟨rfl, hb3⟩
        have hgl3 : gl < wr.heap.size := Nat.lt_of_lt_of_le hgl hS.out.bel.size
        have hq3 := hq'.below hgl3 hb3
        have hS3 := hS.out.below hb3
        have hmi : ∀ t ∈ q.2.terms, t.name ∈ nmsOf l := fun t ht => List.mem_flatMap.2 ⟨q, List.mem_of_getElem? hq, List.mem_map.2 ⟨t, ht, rfl⟩⟩
        refine ⟨rfl, by rw [htl]; exact hq3.terms, hq3.const, ?_⟩
        have hput := put_any (svF l ((walkL l).order.take k)) q.2 (nmsOf l) hSH.out hSnH.out hqc hmi (svF_can l _) va vc (g + 1) k w3 hq3.lies hS3.lin
        rw [← htl] at hput
        refine hput.mono ?_
        rintro e w4 ⟨hb4, u, rfl, ho⟩
        obtain ⟨a4, c4, rfl⟩ := own_slice ho
        have hb34 : Below wr.heap.size wr w4 := hb3.trans (hb4.mono hb3.size)
        obtain ⟨f, m1, m2, m3, m4, m5⟩ := hS.out.mid (e := putN (svF l ((walkL l).order.take k)) q.2) hil hb34 hb3.size ho
        rw [hnmi] at m1 m3 m4
        obtain ⟨w5, r1, r2, r3⟩ := lnput_run m1 (by omega) q.1 ⟨a4, (putN (svF l ((walkL l).order.take k)) q.2).terms.length, c4, (putN (svF l ((walkL l).order.take k)) q.2).const⟩ hqn
        have hst := hS.out.step hndH.out (fun j hj => (hord.out.2 j).1 hj) hki hni (x := ⟨a4, (putN (svF l ((walkL l).order.take k)) q.2).terms.length, c4, (putN (svF l ((walkL l).order.take k)) q.2).const⟩) (e := putN (svF l ((walkL l).order.take k)) q.2) (by rw [hexi]) hb34 hb3.size rfl ho m2 (w5 := w5) (by rw [hnmi]; exact r2) (by rw [hnmi]; exact r3)
        exact ⟨a4, _, c4, _, w5, rfl, (m5 0 (by omega)).1, (m5 1 (by omega)).1, (m5 2 (by omega)).1, (m5 0 (by omega)).2, (m5 1 (by omega)).2, (m5 2 (by omega)).2, m3, m4, r1, hst⟩
      have hil2 : i < n0 := by rw [hH.out]; exact hil
      have hnn := hnH.out
      have hnoH : Hid ((walkL l).order.length = no) := hnH.out.symm
      clear hq' hqa hq hnmi hexi hqc hni hki hkl hS htl hnn
      go_wp2_with (first
        | (go_at_call 29; (with_reducible refine (hcl.out).mono ?_); rintro e w3 ⟨rfl, q1, q2, h30⟩)
        | (go_at_call 30; (with_reducible refine (h30.out).mono ?_); rintro e w4 ⟨a4, n4, c4, k4, w5, rfl, f0, f1, f2, ⟨u0, u1⟩, ⟨u2, u3⟩, ⟨u4, u5⟩, s1, s2, hrun, hS5⟩))
      all_goals first | omega | skip
      go_roundw
      case rel => exact ⟨k + 1, _, by omega, by go_num, hS5⟩
      case measure => simp [intOf]; omega
    · obtain rfl : k = no := by omega
      have hfin : Hid (SolO w l g v wr) := by
        have htk : (walkL l).order.take k = (walkL l).order := by rw [hnH.out, List.take_length]
        have hS := hS.out
        obtain ⟨s1, s2, s3, s4, s5, s6, s7, s8⟩ := hS
        rw [htk] at s3 s4 s5
        refine ⟨s1, ?_, fun j hj => s4 j ((hord.out.2 j).2 hj), fun i hi j hj => s5 i ((hord.out.2 i).2 hi) j ((hord.out.2 j).2 hj), s7⟩
        obtain ⟨cur, c1, c2, c3⟩ := s3
        exact ⟨cur, c1, c2, fun j hj _ => c3 j hj ((hord.out.2 j).2 hj)⟩
      have hnl0 := hH.out
      go_wp2_with fail
      all_goals first | omega | skip
      refine bodyPost_ret (by simp [results, Try.results8, go_sem]; try rfl) rfl ?_
      exact ⟨g, v, rfl, hfin.out⟩
end Go.Proofs.Ytebbbefknfldoaa
/- equ.Solve, of equs some of which come back. -/
namespace Go.Proofs.Ytebbbefknfldoaa
open Go.ChangeShapes Go.WideShapes Go.ChangeAt Go.RowKit Go.Sort Go.Maps
set_option linter.unusedVariables false
set_option linter.unusedSimpArgs false
set_option maxRecDepth 100000
theorem size_pos {w : World} {b n : Nat} {D : DataW Unit} (hown : w.ownsMap Try.prog 9 intE b n D) {x : List UInt8} (h : has D (.string x) = true) : 0 < size D := by
  obtain ⟨es, hD, _⟩ := hown.entries lawS
  subst hD
  rw [Maps.size_eq]
  cases es with
  | nil => cases h
  | cons a l => simp
theorem intE_val {c : Int} {y : DataW Unit × List MemPlace} (h : intE (.int .i64 c) = some y) : y.1 = .lit (.int .i64 c) := by
  rw [intE_mk] at h
  cases h
  rfl
def FirstC (l : List Eqv) (m : Nat) : Prop := m < l.length ∧ Ta.Cyc (adjF l) m ∧ ∀ i, i < l.length → Ta.Cyc (adjF l) i → m ≤ i
structure MSt (w : World) (l : List Eqv) (B r nb : Nat) (D : DataW Unit) (m : Nat) (left : Lit → Bool) (cnt : Nat) (wr : World) : Prop where
  rg : wr.ranges Try.prog 9 intE B r nb D left cnt
  bel : Below w.heap.size w wr
  lo : ∀ i, i < l.length → Ta.Cyc (adjF l) i → left (.string (nmOf l i)) = false → m ≤ i
  at_ : m = l.length ∨ (m < l.length ∧ Ta.Cyc (adjF l) m)
  ge : w.heap.size ≤ r
theorem MSt.step {w : World} {l : List Eqv} {B r nb : Nat} {D : DataW Unit} {m : Nat} {left : Lit → Bool} {cnt cnt2 : Nat} {wr w2 : World} (h : MSt w l B r nb D m left cnt wr) (hnd : (l.map (·.1)).Nodup) {i : Nat} (hi : i < l.length) (hc : Ta.Cyc (adjF l) i) (hrg : w2.ranges Try.prog 9 intE B r nb D (fun z => left z && !z.sameKey (.string (nmOf l i))) cnt2) (hg : wr.grownBy w2 (some r)) : MSt w l B r nb D (min m i) (fun z => left z && !z.sameKey (.string (nmOf l i))) cnt2 w2 := by
  refine ⟨hrg, h.bel.grown hg h.bel.size (fun g e => by cases e; exact h.ge), fun j hj hjc hl => ?_, ?_, h.ge⟩
  · by_cases hji : j = i
    · subst hji; exact Nat.min_le_right _ _
    · have hne : nmOf l j ≠ nmOf l i := fun e => hji (nm_inj hnd hj hi e)
      have : left (.string (nmOf l j)) = false := by
        simp [Lit.sameKey, hne] at hl
        exact hl
      exact Nat.le_trans (Nat.min_le_left _ _) (h.lo j hj hjc this)
  · rcases Nat.le_total m i with h1 | h1
    · rw [Nat.min_eq_left h1]; exact h.at_
    · rw [Nat.min_eq_right h1]; exact .inr ⟨hi, hc⟩
set_option maxHeartbeats 16000000 in
theorem solve_bad (l : List Eqv) (la : Option Addr) (lc : Nat) (hl : l.length ≤ 1000) (hnd : (l.map (·.1)).Nodup) (hheld : ∀ q ∈ l, q.1.length ≤ 140737488355328 ∧ q.2.terms.length ≤ 4400000 ∧ ∀ t ∈ q.2.terms, t.name.length ≤ 140737488355328) (hback : ∃ x, CycN l x) (w : World) (hE : EqIn w la l) :
    Calls Try.prog 8 #[.slice la l.length lc] w fun e w' => ∃ m : Nat, e = .returned (.tuple #[.slice none 0 0, .int .i64 (m : Int), .int .i64 24]) ∧ FirstC l m ∧ Below w.heap.size w w' := by
  have h28 := Hid.intro (walk_mem l la lc hl hnd hheld w hE)
  have hbk := Hid.intro (back_has hnd (Nat.lt_of_le_of_lt hl (by decide)))
  have hbv : Hid (∀ i, i < l.length → Ta.Cyc (adjF l) i → backF l (walkL l).back (nmOf l i) = some (i : Int)) := fun i hi hc => by
    cases hb : backF l (walkL l).back (nmOf l i) with
    | none =>
      have := (back_has hnd (Nat.lt_of_le_of_lt hl (by decide)) (nmOf l i)).2 ⟨i, hi, hc, rfl⟩
      rw [hb] at this; cases this
    | some z =>
      obtain ⟨k, hk, rfl, hn⟩ := backF_some l _ _ z hb
      have hkl := ((walk_right hnd (Nat.lt_of_le_of_lt hl (by decide))).2.1 k).1 hk
      rw [nm_inj hnd hkl.1 hi hn]
  obtain ⟨n0, hn0⟩ : ∃ n0, n0 = l.length := ⟨_, rfl⟩
  have hH := Hid.intro hn0
  have hl2 : n0 ≤ 1000 := by omega
  rw [← hn0] at h28 ⊢
  have hndH := Hid.intro hnd
  have hbackH := Hid.intro hback
  clear hl hnd hheld hE hback hn0
  go_enter Try.func8, Try.ntmps8
  go_wp2_with (first
    | (go_at_call 28; (with_reducible refine (h28.out).mono ?_); rintro e w1 ⟨ao, no, co, B, nb, hn, rfl, hW⟩; obtain ⟨D, hown, hD1, hD2⟩ := hW.map; have hz := hown.len Try.underlying66 3; have hkey : Hid (∀ x, has D (.string x) = true ↔ CycN l x) := (fun x => by rw [(hD2 x).1]; exact hbk.out x); have hpos : 0 < size D := (by obtain ⟨x, hx⟩ := hbackH.out; exact size_pos hown ((hkey.out x).2 hx)); have hWH := Hid.intro hW; have hDH := Hid.intro hD2; clear hW hn hD1 hD2)
    | (at_range; refine wpList_range_own _ rfl _ 66 rfl 9 3 lawS Try.underlying66 intE B nb D rfl hown ?_; intro w2 hrg hg2 hs2))
  all_goals first | omega | skip
  go_frame
  have hS0 : Hid (MSt w l B w1.heap.size nb D n0 (has D) (size D) w2) := by
    have hb2 : Below w1.heap.size w1 w2 := ⟨hg2.os, hg2.tape, hg2.output, hg2.size, fun k hk => hg2.block k hk (by simp)⟩
    exact ⟨hrg, hWH.out.bel.trans (hb2.mono hWH.out.bel.size), fun i hi hc h => (by rw [(hkey.out _).2 ⟨i, hi, hc, rfl⟩] at h; cases h), .inl hH.out, hWH.out.bel.size⟩
  generalize hr : w1.heap.size = r at *
  have hno : Hid (no = no) := rfl
  clear hown hz hpos hWH h28 hbk hrg hg2 hs2 hr
  go_loopw [7] (fun v7 wr => ∃ (left : Lit → Bool) (cnt m : Nat), v7 = .int .i64 (m : Int) ∧ MSt w l B r nb D m left cnt wr) (fun _ wr => wr.rangeLeft B r)
  case atStart => exact ⟨_, _, _, rfl, hS0.out⟩
  case round =>
    obtain ⟨left, cnt, m, rfl, hC⟩ := hrel
    clear hS0
    have hrg := hC.rg
    have hCH := Hid.intro hC
    have hm1 : m ≤ 1000 := by
      have h0 := hH.out
      rcases hC.at_ with h | h <;> omega
    clear hC
    go_wp2_with (at_next; refine wpList_next_ranges _ rfl _ rfl 9 lawS intE encStr (Value.int .i64) (fun key kl hk => by obtain ⟨x, hx, _⟩ := Maps.keyOf_str Try.underlying9 hk; exact ⟨x, hx⟩) (fun v y hv => by unfold intE at hv; split at hv; exact ⟨_, rfl⟩; cases hv) B r nb D left cnt rfl hrg ?_ ?_)
    · intro _ hl0
      have hfin : Hid (FirstC l m ∧ RowKit.Below w.heap.size w wr) := by
        refine ⟨?_, hCH.out.bel⟩
        rcases hCH.out.at_ with h | ⟨h1, h2⟩
        · obtain ⟨x, i, hi, hc, _⟩ := hbackH.out
          have := hCH.out.lo i hi hc (hl0 _)
          omega
        · exact ⟨h1, h2, fun i hi hc => hCH.out.lo i hi hc (hl0 _)⟩
      clear hrg hl0
      go_wp2_with fail
      all_goals first | omega | skip
      refine bodyPost_ret (by simp [results, Try.results8, go_sem]; try rfl) rfl ?_
      exact ⟨m, rfl, hfin.out.1, hfin.out.2⟩
    · intro x c1 kl yd yp w2 cnt2 hkey2 hlk hv hat hrg2 hlt hg2 hs2 hen
      obtain ⟨x', ex, rfl, _⟩ := Maps.keyOf_str Try.underlying9 hkey2
      obtain rfl : x = x' := encStr_inj ex
      obtain ⟨i, hi, hc, rfl⟩ := (hkey.out x).1 (has_true_of_atKey hat)
      have hci : c1 = (i : Int) := by
        have h1 := (hDH.out (nmOf l i)).2 _ (hbv.out i hi hc) (.nil)
        rw [hat] at h1
        have h2 := intE_val hv
        dsimp only at h2
        rw [h2] at h1
        simpa using h1
      subst hci
      have hS2 := Hid.intro (hCH.out.step hndH.out hi hc hrg2 hg2)
      have hi1 : i ≤ 1000 := by have := hH.out; omega
      have hle2 : Hid (wr.rangeLeft B r = cnt) := hCH.out.rg.left_eq
      have hltH := Hid.intro hlt
      clear hs2 hkey2 hv hat hrg2 hrg hlk hg2 hlt hi hc
      go_wp2_with fail
      all_goals first | omega | skip
      go_roundw
      case rel => exact ⟨_, _, min m i, by first | rfl | (congr 1; omega) | (simp; omega), hS2.out⟩
      case measure => rw [hS2.out.rg.left_eq, hle2.out]; exact hltH.out
end Go.Proofs.Ytebbbefknfldoaa
/- The law's equs: of. -/
namespace Go.Proofs.Ytebbbefknfldoaa
open Go.ChangeShapes Go.WideShapes Go.ChangeAt Go.RowKit
set_option linter.unusedVariables false
set_option linter.unusedSimpArgs false
set_option maxRecDepth 100000
set_option maxHeartbeats 4000000 in
theorem of_any (S O : ByteArray) (n c : Int) (w : World) : Calls Try.prog 9 #[.string S, .string O, .int .u32 n, .int .u32 c] w fun e w' => ∃ b, e = .returned (.agg #[.string S, .slice (some ⟨b, 0, none⟩) 1 1, .int .u32 c]) ∧ w'.heap[b]? = some (.cells #[.string O, .int .u32 n] 49 (0, 0)) ∧ Below w.heap.size w w' := by
  go_enter Try.func9, Try.ntmps9
  go_wp2
  all_goals first | omega | skip
  have h1 := heap_alloc_new (w.alloc (.cells #[.string S, .slice (some ⟨w.heap.size + 1, 0, none⟩) 1 1, .int .u32 c] 31)) (.cells #[.string O, .int .u32 n] 49)
  have h0 : ((w.alloc (.cells #[.string S, .slice (some ⟨w.heap.size + 1, 0, none⟩) 1 1, .int .u32 c] 31)).alloc (.cells #[.string O, .int .u32 n] 49)).heap[w.heap.size]? = some (.cells #[.string S, .slice (some ⟨w.heap.size + 1, 0, none⟩) 1 1, .int .u32 c] 31 (0, 0)) := by
    rw [(below_alloc (w.alloc _) _).block _ (by simp)]
    exact heap_alloc_new w _
  have hb : Below w.heap.size w ((w.alloc (.cells #[.string S, .slice (some ⟨w.heap.size + 1, 0, none⟩) 1 1, .int .u32 c] 31)).alloc (.cells #[.string O, .int .u32 n] 49)) := (below_alloc w _).alloc (by simp) _
  simp only [World.size_alloc] at h1
  generalize ((w.alloc (.cells #[.string S, .slice (some ⟨w.heap.size + 1, 0, none⟩) 1 1, .int .u32 c] 31)).alloc (.cells #[.string O, .int .u32 n] 49)) = W at *
  have c0 := (Joins.cell_of_block h0 0).trans rfl
  have c1 := (Joins.cell_of_block h0 1).trans rfl
  have c2 := (Joins.cell_of_block h0 2).trans rfl
  refine bodyPost_ret (by simp [results, Try.results9, go_sem, c0, c1, c2]; try rfl) rfl ?_
  exact ⟨_, rfl, h1, hb⟩
abbrev eqv (nm ot : List UInt8) (n c : Int) : Eqv := (nm, ⟨[⟨ot, n⟩], c⟩)
def OfL (w : World) (b : Nat) (O : ByteArray) (n : Int) : Prop := w.heap[b]? = some (.cells #[.string O, .int .u32 n] 49 (0, 0))
theorem OfL.below {w w' : World} {b : Nat} {O : ByteArray} {n : Int} (h : OfL w b O n) (hb : Below w.heap.size w w') : OfL w' b O n := (hb.block _ (wblk_lt h)).trans h
theorem OfL.lies {w : World} {b : Nat} {o : List UInt8} {n : Int} (h : OfL w b (str o) n) : TmLies w (some ⟨b, 0, none⟩) [⟨o, n⟩] := by
  refine .inr ⟨b, 0, rfl, wblk_lt h, fun i t hi => ?_⟩
  match i, hi with
  | 0, hi =>
    cases hi
    exact ⟨(Joins.cell_of_block h 0).trans rfl, (Joins.cell_of_block h 1).trans rfl⟩
def rowO (qs : List (List UInt8 × List UInt8 × Int × Int × Nat)) : List Value := qs.flatMap fun q => [.string (str q.1), .slice (some ⟨q.2.2.2.2, 0, none⟩) 1 1, .int .u32 q.2.2.2.1]
theorem rowO_get : ∀ (qs : List (List UInt8 × List UInt8 × Int × Int × Nat)) (i : Nat) (q : List UInt8 × List UInt8 × Int × Int × Nat), qs[i]? = some q → (rowO qs)[i * 3]? = some (.string (str q.1)) ∧ (rowO qs)[i * 3 + 1]? = some (.slice (some ⟨q.2.2.2.2, 0, none⟩) 1 1) ∧ (rowO qs)[i * 3 + 2]? = some (.int .u32 q.2.2.2.1)
  | [], i, q, h => by cases h
  | x :: l, 0, q, h => by
    have : x = q := by simpa using h
    subst this
    exact ⟨rfl, rfl, rfl⟩
  | x :: l, i + 1, q, h => by
    obtain ⟨h1, h2, h3⟩ := rowO_get l i q (by simpa using h)
    have e : rowO (x :: l) = .string (str x.1) :: .slice (some ⟨x.2.2.2.2, 0, none⟩) 1 1 :: .int .u32 x.2.2.2.1 :: rowO l := rfl
    rw [e, show (i + 1) * 3 = i * 3 + 1 + 1 + 1 by omega]
    exact ⟨h1, h2, h3⟩
theorem eqs_made (W : World) (qs : List (List UInt8 × List UInt8 × Int × Int × Nat)) (h : ∀ q ∈ qs, OfL W q.2.2.2.2 (str q.2.1) q.2.2.1) : EqIn (W.alloc (.cells (rowO qs).toArray 31)) (some ⟨W.heap.size, 0, none⟩) (qs.map fun q => eqv q.1 q.2.1 q.2.2.1 q.2.2.2.1) := by
  refine .inr ⟨W.heap.size, 0, rfl, by simp, fun i e hi => ?_⟩
  rw [List.getElem?_map] at hi
  cases hq : qs[i]? with
  | none => rw [hq] at hi; cases hi
  | some q =>
    rw [hq] at hi
    have : eqv q.1 q.2.1 q.2.2.1 q.2.2.2.1 = e := by simpa using hi
    subst this
    obtain ⟨h1, h2, h3⟩ := rowO_get qs i q hq
    have hn := heap_alloc_new W (.cells (rowO qs).toArray 31)
    have hc : ∀ j u, (rowO qs)[j]? = some u → (W.alloc (.cells (rowO qs).toArray 31)).cell? ⟨W.heap.size, j, none⟩ = some u := fun j u hu => (Joins.cell_of_block hn j).trans (by simpa using hu)
    refine ⟨some ⟨q.2.2.2.2, 0, none⟩, 1, ?_, ?_, ?_, ?_⟩
    · rw [Nat.zero_add]; exact hc _ _ h1
    · rw [Nat.zero_add]; exact hc _ _ h2
    · rw [Nat.zero_add]; exact hc _ _ h3
    · exact ((h q (List.mem_of_getElem? hq)).below (below_alloc W _)).lies
def solL (l : List Eqv) : List Eqv := (List.range l.length).map fun j => (nmOf l j, (svF l (walkL l).order (nmOf l j)).getD ⟨[], 0⟩)
theorem sol_eqIn {w w' : World} {l : List Eqv} {g : Nat} {v : Nat → Value} (h : SolO w l g v w') : EqIn w' (some ⟨g, 0, none⟩) (solL l) := by
  obtain ⟨cur, c1, c2, c3⟩ := h.out
  refine .inr ⟨g, 0, rfl, wblk_lt c1, fun i q hi => ?_⟩
  unfold solL at hi
  rw [List.getElem?_map] at hi
  by_cases hil : i < l.length
  · rw [List.getElem?_range hil] at hi
    have : (nmOf l i, (svF l (walkL l).order (nmOf l i)).getD ⟨[], 0⟩) = q := by simpa using hi
    subst this
    obtain ⟨e, k1, k2⟩ := h.row i hil
    obtain ⟨d1, d2, d3⟩ := c3 i hil trivial
    obtain ⟨va, vc, hv⟩ := own_slice k2
    dsimp only at d1 d2 d3
    rw [k1] at d3 ⊢
    dsimp only [Option.getD_some] at d1 d2 d3 ⊢
    rw [hv] at d2 k2
    have hc : ∀ j u, cur[j]? = some u → w'.cell? ⟨g, j, none⟩ = some u := fun j u hu => (Joins.cell_of_block c1 j).trans hu
    exact ⟨va, vc, by rw [Nat.zero_add]; exact hc _ _ d1, by rw [Nat.zero_add]; exact hc _ _ d2, by rw [Nat.zero_add]; exact hc _ _ d3, own_tmLies k2⟩
  · rw [List.getElem?_eq_none (by simp; omega)] at hi
    cases hi
end Go.Proofs.Ytebbbefknfldoaa
/- The law's known runs. -/
namespace Go.Proofs.Ytebbbefknfldoaa
open Go.ChangeShapes Go.WideShapes Go.ChangeAt Go.RowKit
set_option linter.unusedVariables false
set_option linter.unusedSimpArgs false
set_option maxRecDepth 100000
theorem cyc_none {l : List Eqv} (hnd : (l.map (·.1)).Nodup) (hl : l.length < Ta.big) (h : (walkL l).back = []) : ∀ x, ¬ CycN l x := fun x hx => by
  have := (back_has hnd hl x).2 hx
  rw [h] at this
  cases this
theorem cyc_mem {l : List Eqv} (hnd : (l.map (·.1)).Nodup) (hl : l.length < Ta.big) {i : Nat} (hi : i < l.length) : Ta.Cyc (adjF l) i ↔ i ∈ (walkL l).back := by
  have := (walk_right hnd hl).2.1 i
  exact ⟨fun h => this.2 ⟨hi, h⟩, fun h => (this.1 h).2⟩
def k1L : List Eqv := [eqv [97] [98] 2 1, eqv [98] [99] 1 4294967293]
def k1A : List Eqv := [eqv [97] [99] 2 4294967291, eqv [98] [99] 1 4294967293]
def k2L : List Eqv := [eqv [120] [97] 1 0, eqv [97] [98] 1 0, eqv [98] [97] 1 0]
theorem k1_sol : solL k1L = k1A := by
  have h : (walkL k1L).order = [1, 0] := by decide +kernel
  unfold solL
  rw [h]
  have e0 : svF k1L [1, 0] [97] = some ⟨[⟨[99], 2⟩], 4294967291⟩ := by
    have t : ((svF k1L [1, 0] [97]).getD ⟨[], 0⟩).terms = [⟨[99], 2⟩] := by decide +kernel
    have c : ((svF k1L [1, 0] [97]).getD ⟨[], 0⟩).const = 4294967291 := by decide +kernel
    have s : (svF k1L [1, 0] [97]).isSome = true := by decide +kernel
    obtain ⟨e, he⟩ := Option.isSome_iff_exists.1 s
    rw [he] at t c ⊢
    obtain ⟨a, b⟩ := e
    dsimp only [Option.getD_some] at t c
    rw [t, c]
  have e1 : svF k1L [1, 0] [98] = some ⟨[⟨[99], 1⟩], 4294967293⟩ := by
    have t : ((svF k1L [1, 0] [98]).getD ⟨[], 0⟩).terms = [⟨[99], 1⟩] := by decide +kernel
    have c : ((svF k1L [1, 0] [98]).getD ⟨[], 0⟩).const = 4294967293 := by decide +kernel
    have s : (svF k1L [1, 0] [98]).isSome = true := by decide +kernel
    obtain ⟨e, he⟩ := Option.isSome_iff_exists.1 s
    rw [he] at t c ⊢
    obtain ⟨a, b⟩ := e
    dsimp only [Option.getD_some] at t c
    rw [t, c]
  show [(([97] : List UInt8), (svF k1L [1, 0] [97]).getD ⟨[], 0⟩), (([98] : List UInt8), (svF k1L [1, 0] [98]).getD ⟨[], 0⟩)] = _
  rw [e0, e1]
  rfl
theorem canL_one {ot : List UInt8} {n c : Int} (hn : 0 < n ∧ n < 4294967296) (hc : 0 ≤ c ∧ c < 4294967296) : CanL ⟨[⟨ot, n⟩], c⟩ :=
  ⟨⟨by simp, fun t ht => by rw [List.mem_singleton.1 ht]; exact hn⟩, hc⟩
theorem k1_held : ∀ q ∈ k1L, q.1.length ≤ 140737488355328 ∧ CanL q.2 := fun q hq => by
  have : q = eqv [97] [98] 2 1 ∨ q = eqv [98] [99] 1 4294967293 := by simpa [k1L] using hq
  rcases this with rfl | rfl
  · exact ⟨by decide, canL_one (by decide) (by decide)⟩
  · exact ⟨by decide, canL_one (by decide) (by decide)⟩
theorem held_of {l : List Eqv} (h : ∀ q ∈ l, q.1.length ≤ 100 ∧ q.2.terms.length ≤ 100 ∧ ∀ t ∈ q.2.terms, t.name.length ≤ 100) : ∀ q ∈ l, q.1.length ≤ 140737488355328 ∧ q.2.terms.length ≤ 4400000 ∧ ∀ t ∈ q.2.terms, t.name.length ≤ 140737488355328 := fun q hq => ⟨by have := (h q hq).1; omega, by have := (h q hq).2.1; omega, fun t ht => by have := (h q hq).2.2 t ht; omega⟩
theorem k1_run (b1 b2 : Nat) (W : World) (h1 : OfL W b1 ⟨#[98]⟩ 2) (h2 : OfL W b2 ⟨#[99]⟩ 1) :
    Calls Try.prog 8 #[.slice (some ⟨W.heap.size, 0, none⟩) 2 2] (W.alloc (.cells #[.string ⟨#[97]⟩, .slice (some ⟨b1, 0, none⟩) 1 1, .int .u32 1, .string ⟨#[98]⟩, .slice (some ⟨b2, 0, none⟩) 1 1, .int .u32 4294967293] 31)) fun e w' => ∃ g, e = .returned (.tuple #[.slice (some ⟨g, 0, none⟩) 2 2, .int .i64 0, .int .i64 0]) ∧ EqIn w' (some ⟨g, 0, none⟩) k1A ∧ Below W.heap.size W w' := by
  have hE := eqs_made W [([97], [98], 2, 1, b1), ([98], [99], 1, 4294967293, b2)] (fun q hq => by
    have : q = ([97], [98], 2, 1, b1) ∨ q = ([98], [99], 1, 4294967293, b2) := by simpa using hq
    rcases this with rfl | rfl
    · exact h1
    · exact h2)
  have hb := below_alloc W (.cells #[.string ⟨#[97]⟩, .slice (some ⟨b1, 0, none⟩) 1 1, .int .u32 1, .string ⟨#[98]⟩, .slice (some ⟨b2, 0, none⟩) 1 1, .int .u32 4294967293] 31)
  refine (solve_ok k1L _ 2 (by decide) (by decide) k1_held (by decide) (by decide) (cyc_none (by decide) (by decide) (by decide +kernel)) _ hE).mono ?_
  rintro e w' ⟨g, v, rfl, hS⟩
  have h3 := sol_eqIn hS
  rw [k1_sol] at h3
  exact ⟨g, rfl, h3, hb.trans (hS.bel.mono hb.size)⟩
theorem k2_first (m : Nat) (h : FirstC k2L m) : m = 1 := by
  obtain ⟨h1, h2, h3⟩ := h
  have hb : (walkL k2L).back = [1, 2] := by decide +kernel
  have hc : ∀ i, i < k2L.length → (Ta.Cyc (adjF k2L) i ↔ i ∈ [1, 2]) := fun i hi => by rw [cyc_mem (by decide) (by decide) hi, hb]
  have h4 := (hc m h1).1 h2
  have h5 := h3 1 (by decide) ((hc 1 (by decide)).2 (by simp))
  simp at h4
  omega
theorem k2_run (b1 b2 b3 : Nat) (W : World) (h1 : OfL W b1 ⟨#[97]⟩ 1) (h2 : OfL W b2 ⟨#[98]⟩ 1) (h3 : OfL W b3 ⟨#[97]⟩ 1) :
    Calls Try.prog 8 #[.slice (some ⟨W.heap.size, 0, none⟩) 3 3] (W.alloc (.cells #[.string ⟨#[120]⟩, .slice (some ⟨b1, 0, none⟩) 1 1, .int .u32 0, .string ⟨#[97]⟩, .slice (some ⟨b2, 0, none⟩) 1 1, .int .u32 0, .string ⟨#[98]⟩, .slice (some ⟨b3, 0, none⟩) 1 1, .int .u32 0] 31)) fun e w' => e = .returned (.tuple #[.slice none 0 0, .int .i64 1, .int .i64 24]) ∧ Below W.heap.size W w' := by
  have hE := eqs_made W [([120], [97], 1, 0, b1), ([97], [98], 1, 0, b2), ([98], [97], 1, 0, b3)] (fun q hq => by
    have : q = ([120], [97], 1, 0, b1) ∨ q = ([97], [98], 1, 0, b2) ∨ q = ([98], [97], 1, 0, b3) := by simpa using hq
    rcases this with rfl | rfl | rfl
    · exact h1
    · exact h2
    · exact h3)
  have hb := below_alloc W (.cells #[.string ⟨#[120]⟩, .slice (some ⟨b1, 0, none⟩) 1 1, .int .u32 0, .string ⟨#[97]⟩, .slice (some ⟨b2, 0, none⟩) 1 1, .int .u32 0, .string ⟨#[98]⟩, .slice (some ⟨b3, 0, none⟩) 1 1, .int .u32 0] 31)
  refine (solve_bad k2L _ 3 (by decide) (by decide) (held_of (by decide)) ?_ _ hE).mono ?_
  · exact ⟨[97], 1, by decide, (cyc_mem (by decide) (by decide) (by decide)).2 (by decide +kernel), rfl⟩
  · rintro e w' ⟨m, rfl, hm, hb2⟩
    rw [k2_first m hm]
    exact ⟨rfl, hb.trans (hb2.mono hb.size)⟩
theorem k3_run (g b1 b2 : Nat) (W : World) (hE : EqIn W (some ⟨g, 0, none⟩) k1A) (h1 : OfL W b1 ⟨#[99]⟩ 2) (h2 : OfL W b2 ⟨#[99]⟩ 1) :
    Calls Try.prog 18 #[.slice (some ⟨g, 0, none⟩) 2 2, .slice (some ⟨W.heap.size, 0, none⟩) 2 2] (W.alloc (.cells #[.string ⟨#[97]⟩, .slice (some ⟨b1, 0, none⟩) 1 1, .int .u32 4294967291, .string ⟨#[98]⟩, .slice (some ⟨b2, 0, none⟩) 1 1, .int .u32 4294967293] 31)) fun e w' => e = .returned (.bool true) ∧ Below W.heap.size W w' := by
  have hE2 := eqs_made W [([97], [99], 2, 4294967291, b1), ([98], [99], 1, 4294967293, b2)] (fun q hq => by
    have : q = ([97], [99], 2, 4294967291, b1) ∨ q = ([98], [99], 1, 4294967293, b2) := by simpa using hq
    rcases this with rfl | rfl
    · exact h1
    · exact h2)
  have hb := below_alloc W (.cells #[.string ⟨#[97]⟩, .slice (some ⟨b1, 0, none⟩) 1 1, .int .u32 4294967291, .string ⟨#[98]⟩, .slice (some ⟨b2, 0, none⟩) 1 1, .int .u32 4294967293] 31)
  have ht : ∀ x ∈ k1A, x.2.terms.length ≤ 9000000 := by decide
  refine (sameEqus_is k1A k1A (by decide) (by decide) ht ht (some ⟨g, 0, none⟩) (some ⟨W.heap.size, 0, none⟩) 2 2 _ (hE.below hb) hE2).mono ?_
  rintro e w' ⟨rfl, hb2⟩
  exact ⟨by rw [sqB_pos rfl], hb.trans (hb2.mono hb.size)⟩
end Go.Proofs.Ytebbbefknfldoaa
namespace Go.Proofs.Ytebbbefknfldoaa
open Go.ChangeShapes Go.WideShapes Go.ChangeAt Go.RowKit
set_option linter.unusedVariables false
set_option linter.unusedSimpArgs false
set_option maxRecDepth 100000
set_option maxHeartbeats 16000000 in
theorem known_any (w : World) : Calls Try.prog 14 #[] w fun e w' => e = .returned (.bool true) ∧ Below w.heap.size w w' := by
  have p1 := Hid.intro (fun W => of_any ⟨#[97]⟩ ⟨#[98]⟩ 2 1 W)
  have p2 := Hid.intro (fun W => of_any ⟨#[98]⟩ ⟨#[99]⟩ 1 4294967293 W)
  have p3 := Hid.intro (fun W => of_any ⟨#[120]⟩ ⟨#[97]⟩ 1 0 W)
  have p4 := Hid.intro (fun W => of_any ⟨#[97]⟩ ⟨#[98]⟩ 1 0 W)
  have p5 := Hid.intro (fun W => of_any ⟨#[98]⟩ ⟨#[97]⟩ 1 0 W)
  have p6 := Hid.intro (fun W => of_any ⟨#[97]⟩ ⟨#[99]⟩ 2 4294967291 W)
  have r1 := Hid.intro k1_run
  have r2 := Hid.intro k2_run
  have r3 := Hid.intro k3_run
  have hb0 := Hid.intro (Below.refl w.heap.size w)
  go_enter Try.func14, Try.ntmps14
  go_upto_region 3 with (first
    | (go_at_call 9; (with_reducible refine (p1.out _).mono ?_); rintro e w1 ⟨b1, rfl, o1, hb1⟩; replace o1 := Hid.intro (show OfL w1 b1 ⟨#[98]⟩ 2 from o1); replace hb1 := Hid.intro hb1)
    | (go_at_call 9; (with_reducible refine (p2.out _).mono ?_); rintro e w2 ⟨b2, rfl, o2, hb2⟩; replace o2 := Hid.intro (show OfL w2 b2 ⟨#[99]⟩ 1 from o2); have o1' := Hid.intro (o1.out.below hb2); replace hb2 := Hid.intro (hb1.out.trans (hb2.mono hb1.out.size)))
    | (go_at_call 9; (with_reducible refine (p3.out _).mono ?_); rintro e w4 ⟨b3, rfl, o3, hb4⟩; replace o3 := Hid.intro (show OfL w4 b3 ⟨#[97]⟩ 1 from o3); have hE4 := Hid.intro (hE3.out.below hb4); replace hb4 := Hid.intro (hb3.out.trans (hb4.mono hb3.out.size)))
    | (go_at_call 9; (with_reducible refine (p4.out _).mono ?_); rintro e w5 ⟨b4, rfl, o4, hb5⟩; replace o4 := Hid.intro (show OfL w5 b4 ⟨#[98]⟩ 1 from o4); have o3' := Hid.intro (o3.out.below hb5); have hE5 := Hid.intro (hE4.out.below hb5); replace hb5 := Hid.intro (hb4.out.trans (hb5.mono hb4.out.size)))
    | (go_at_call 9; (with_reducible refine (p5.out _).mono ?_); rintro e w6 ⟨b5, rfl, o5, hb6⟩; replace o5 := Hid.intro (show OfL w6 b5 ⟨#[97]⟩ 1 from o5); have o3'' := Hid.intro (o3'.out.below hb6); have o4' := Hid.intro (o4.out.below hb6); have hE6 := Hid.intro (hE5.out.below hb6); replace hb6 := Hid.intro (hb5.out.trans (hb6.mono hb5.out.size)))
    | (go_at_call 8; (with_reducible refine (r1.out b1 b2 w2 o1'.out o2.out).mono ?_); rintro e w3 ⟨g, rfl, hE3, hb3⟩; replace hE3 := Hid.intro hE3; replace hb3 := Hid.intro (hb2.out.trans (hb3.mono hb2.out.size)))
    | (go_at_call 8; (with_reducible refine (r2.out b3 b4 b5 w6 o3''.out o4'.out o5.out).mono ?_); rintro e w7 ⟨rfl, hb7⟩; have hE7 := Hid.intro (hE6.out.below hb7); replace hb7 := Hid.intro (hb6.out.trans (hb7.mono hb6.out.size))))
  all_goals first | omega | skip
  go_wp2_with (first
    | (go_at_call 9; (with_reducible refine (p6.out _).mono ?_); rintro e w8 ⟨b6, rfl, o6, hb8⟩; replace o6 := Hid.intro (show OfL w8 b6 ⟨#[99]⟩ 2 from o6); have hE8 := Hid.intro (hE7.out.below hb8); replace hb8 := Hid.intro (hb7.out.trans (hb8.mono hb7.out.size)))
    | (go_at_call 9; (with_reducible refine (p2.out _).mono ?_); rintro e w9 ⟨b7, rfl, o7, hb9⟩; replace o7 := Hid.intro (show OfL w9 b7 ⟨#[99]⟩ 1 from o7); have o6' := Hid.intro (o6.out.below hb9); have hE9 := Hid.intro (hE8.out.below hb9); replace hb9 := Hid.intro (hb8.out.trans (hb9.mono hb8.out.size)))
    | (go_at_call 18; (with_reducible refine (r3.out g b6 b7 w9 hE9.out o6'.out o7.out).mono ?_); rintro e w10 ⟨rfl, hb10⟩; replace hb10 := Hid.intro (hb9.out.trans (hb10.mono hb9.out.size))))
  all_goals first | omega | skip
  go_ret
  exact ⟨rfl, hb10.out⟩
end Go.Proofs.Ytebbbefknfldoaa

/- The document's Put, walked. -/
import Derived.Test.YtebbbefknfldoaaSlv1
import Derived.Test.YtebbbefknfldoaaRBk
import Derived.Test.YtebbbefknfldoaaMtM
import Derived.Test.YtebbbefknfldoaaPut1
import Derived.Deep.RegionHeld3
import Derived.Deep.DeepCutAuto
/- equ.Solve. -/
namespace Go.Proofs.Ytebbbefknfldoaa
open Go.ChangeShapes Go.WideShapes Go.ChangeAt Go.RowKit Go.Maps
set_option linter.unusedVariables false
set_option linter.unusedSimpArgs false
set_option maxRecDepth 100000
theorem nodup_of_len {α : Type} [DecidableEq α] : ∀ (l m : List α), m.Nodup → (∀ x ∈ m, x ∈ l) → l.length ≤ m.length → l.Nodup
  | [], m, _, _, _ => List.nodup_nil
  | x :: l, m, hm, hs, hl => by
    rw [List.length_cons] at hl
    have hx : x ∉ l := fun hx => by
      have := nodup_le m l hm (fun y hy => by
        rcases List.mem_cons.1 (hs y hy) with rfl | h
        · exact hx
        · exact h)
      omega
    refine List.nodup_cons.2 ⟨hx, nodup_of_len l (m.erase x) (hm.sublist (List.erase_sublist ..)) (fun y hy => ?_) ?_⟩
    · have h1 := (hm.mem_erase_iff).1 hy
      exact (List.mem_cons.1 (hs y h1.2)).resolve_left h1.1
    · by_cases hxm : x ∈ m
      · rw [List.length_erase_of_mem hxm]; omega
      · rw [List.erase_of_not_mem hxm]
        have := nodup_le m l hm (fun y hy => by
          rcases List.mem_cons.1 (hs y hy) with rfl | h
          · exact absurd hy hxm
          · exact h)
        omega
theorem order_is {l : List Eqv} (hnd : (l.map (·.1)).Nodup) (hl : l.length < Ta.big) (hlen : (walkL l).order.length ≤ l.length) : (walkL l).order.Nodup ∧ ∀ v, v ∈ (walkL l).order ↔ v < l.length := by
  obtain ⟨h1, _, _⟩ := walk_right hnd hl
  exact ⟨nodup_of_len _ (List.range l.length) List.nodup_range (fun x hx => (h1 x).2 (List.mem_range.1 hx)) (by simpa using hlen), h1⟩
theorem size_zero {w : World} {b n : Nat} {D : DataW Unit} (hown : w.ownsMap Try.prog 9 intE b n D) (h : ∀ x, has D (.string x) = false) : size D = 0 := by
  have hp := Collected.perm (D0 := D) (ss := []) (left := fun _ => false) ⟨List.nodup_nil, fun x => by simp [h x]⟩ hown lawS Try.underlying9 (fun _ => rfl)
  obtain ⟨es, hD, _⟩ := hown.entries lawS
  subst hD
  have := hp.length_eq
  rw [Maps.size_eq]
  simpa [strKeys] using this.symm
structure SolO (w : World) (l : List Eqv) (g : Nat) (v : Nat → Value) (w' : World) : Prop where
  bel : Below w.heap.size w w'
  out : OutIs w' g l.length (fun _ => True) (fun j => (nmOf l j, v j, ((svF l (walkL l).order (nmOf l j)).getD ⟨[], 0⟩).const))
  row : ∀ j, j < l.length → ∃ e, svF l (walkL l).order (nmOf l j) = some e ∧ w'.ownsRow w.heap.size 49 2 (v j) e.terms.length (rowT e.terms)
  ap : ∀ i, i < l.length → ∀ j, j < l.length → i ≠ j → ∀ b, (v i).ownBlock = some b → (v j).ownBlock ≠ some b
  gg : w.heap.size ≤ g
set_option maxHeartbeats 16000000 in
theorem solve_ok (l : List Eqv) (la : Option Addr) (lc : Nat) (hl : l.length ≤ 1000) (hnd : (l.map (·.1)).Nodup) (hheld : ∀ q ∈ l, q.1.length ≤ 140737488355328 ∧ CanL q.2) (hS : (nmsOf l).length ≤ 4400000) (hSn : ∀ s ∈ nmsOf l, s.length ≤ 140737488355328) (hback : ∀ x, ¬ CycN l x) (w : World) (hE : EqIn w la l) :
    Calls Try.prog 8 #[.slice la l.length lc] w fun e w' => ∃ g v, e = .returned (.tuple #[.slice (some ⟨g, 0, none⟩) l.length l.length, .int .i64 0, .int .i64 0]) ∧ SolO w l g v w' := by
  have hheld2 : ∀ q ∈ l, q.1.length ≤ 140737488355328 ∧ q.2.terms.length ≤ 4400000 ∧ ∀ t ∈ q.2.terms, t.name.length ≤ 140737488355328 := fun q hq => by
    have hs : ∀ t ∈ q.2.terms, t.name ∈ nmsOf l := fun t ht => List.mem_flatMap.2 ⟨q, hq, List.mem_map.2 ⟨t, ht, rfl⟩⟩
    exact ⟨(hheld q hq).1, Nat.le_trans (canon_len (hheld q hq).2.terms hs) hS, fun t ht => hSn _ (hs t ht)⟩
  have h28 := Hid.intro (walk_mem l la lc hl hnd hheld2 w hE)
  have hbk : Hid (∀ x, (backF l (walkL l).back x).isSome = false) := fun x => by
    cases h : (backF l (walkL l).back x).isSome with
    | false => rfl
    | true => exact absurd ((back_has hnd (Nat.lt_of_le_of_lt hl (by decide)) x).1 h) (hback x)
  obtain ⟨n0, hn0⟩ : ∃ n0, n0 = l.length := ⟨_, rfl⟩
  have hH := Hid.intro hn0
  have hl2 : n0 ≤ 1000 := by omega
  obtain ⟨i31, hi31, z0, z1, z2⟩ := info_parts info31
  have hmm : ∀ (z : Int) (W : World), (Instr.makeMap 69 (some (.int .i64 z))).run Try.prog W = .ok (.map (some W.heap.size)) (W.alloc (.map #[] 0)) := fun z W => run_makeMap_hint Try.underlying69 z W
  obtain ⟨M, hM, hms⟩ : ∃ M : Array Value, M.size = n0 * 3 ∧ ∀ W : World, (Instr.makeSlice 22 (.int .i64 (n0 : Int)) (.int .i64 (n0 : Int))).run Try.prog W = .ok (.slice (some ⟨W.heap.size, 0, none⟩) n0 n0) (W.alloc (.cells M 31)) := by
    refine ⟨madeCells (Value.agg #[.string ⟨#[]⟩, .slice none 0 0, .int .u32 0]).cells (n0 * 3), size_madeCells _ _, fun W => ?_⟩
    have h := run_make (P := Try.prog) W 22 31 i31 (.agg #[.string ⟨#[]⟩, .slice none 0 0, .int .u32 0]) Try.underlying22 hi31 z0 .i64 .i64 (n0 : Int) (n0 : Int) (by omega) (by omega) (by rw [z2]; omega) (by omega)
    rw [z1] at h
    simp only [Int.toNat_natCast] at h
    exact h
  rw [← hn0] at h28 ⊢
  have hlH := Hid.intro hl
  have hndH := Hid.intro hnd
  have hhH := Hid.intro hheld
  have hSH := Hid.intro hS
  have hSnH := Hid.intro hSn
  have hEH := Hid.intro hE
  clear hl hnd hheld hS hSn hE hback hheld2 hn0
  go_enter Try.func8, Try.ntmps8
  go_wp2_with (first
    | (go_at_call 28; (with_reducible refine (h28.out).mono ?_); rintro e w1 ⟨ao, no, co, B0, nb, hn, rfl, hW⟩; obtain ⟨D, hown, hD1, hD2⟩ := hW.map; have hz := hown.len Try.underlying66 3; rw [size_zero hown (fun x => (hD2 x).1.trans (hbk.out x))] at hz; have hWH := Hid.intro hW; have hnH := Hid.intro hn; have hDH := Hid.intro hD2; clear hW hn hD1 hD2))
  all_goals first | omega | skip
  have hord := Hid.intro (order_is hndH.out (Nat.lt_of_le_of_lt hlH.out (by decide)) hWH.out.len)
  have hS0 : Hid (SSt w l (walkL l).order ao co w1.heap.size (w1.heap.size + 1) 0 (fun _ => .slice none 0 0) ((w1.alloc (.cells M 31)).alloc (.map #[] 0))) := by
    have hb1 := below_alloc w1 (.cells M 31)
    have h1 := heap_alloc_new w1 (.cells M 31)
    have hs1 : (w1.alloc (.cells M 31)).heap.size = w1.heap.size + 1 := by simp
    generalize w1.alloc (.cells M 31) = W1 at *
    have hb2 := below_alloc W1 (.map #[] 0)
    have hm := LnIs.made W1
    rw [hs1] at hm
    have hb12 := hb1.trans (hb2.mono (by omega))
    have hws := hWH.out.bel.size
    exact ⟨hWH.out.bel.trans (hb12.mono hws), own_bel hWH.out.own hb12 (Nat.le_refl _), ⟨M, (hb2.block _ (by omega)).trans h1, by rw [hM, hH.out], fun j hj hp => by cases hp⟩, fun j hj => (by cases hj), fun i hi => (by cases hi), ⟨_, hm, fun s => ⟨fun _ => rfl, fun e he => by cases he⟩⟩, hws, by omega⟩
  have hnl : no ≤ n0 := by rw [hnH.out, hH.out]; exact hWH.out.len
  clear hown hz hDH hWH h28 hbk hms hM hmm
  generalize (w1.alloc (.cells M 31)).alloc (.map #[] 0) = W2 at *
  generalize w1.heap.size = g at *
  go_loopw [43] (fun v43 wr => ∃ (k : Nat) (v : Nat → Value), k ≤ no ∧ v43 = .int .i64 (k : Int) ∧ Hid (SSt w l (walkL l).order ao co g (g + 1) k v wr)) (fun v43 _ => no - (intOf v43).toNat)
  case atStart => exact ⟨0, _, by omega, by first | rfl | go_num, hS0⟩
  case round =>
    obtain ⟨k, v, hk, rfl, hS⟩ := hrel
    clear hS0
    by_cases hkn : k < no
    · have hkl : k < (walkL l).order.length := by rw [← hnH.out]; exact hkn
      obtain ⟨i, hki⟩ : ∃ i, (walkL l).order[k]? = some i := ⟨_, List.getElem?_eq_getElem hkl⟩
      have hil : i < l.length := (hord.out.2 i).1 (List.mem_of_getElem? hki)
      have hni : i ∉ (walkL l).order.take k := fun h => by
        have h1 := List.nodup_iff_pairwise_ne.1 hord.out.1
        obtain ⟨j, hj, e⟩ := List.getElem_of_mem h
        rw [List.length_take] at hj
        rw [List.getElem_take] at e
        have h2 := List.pairwise_iff_getElem.1 h1 j k (by omega) hkl (by omega)
        rw [List.getElem?_eq_getElem hkl] at hki
        exact h2 (e.trans (Option.some.inj hki).symm)
      obtain ⟨go, rfl, _, hcell⟩ := own_addr hS.out.ord (by omega)
      have d0 := hcell k (.int .i64 (i : Int)) (by unfold rowN; rw [List.getElem?_map, hki]; rfl)
      clear hcell
      obtain ⟨q, gl, ol, va, vc, hq, rfl, hgl, hqa⟩ : ∃ q gl ol va vc, l[i]? = some q ∧ la = some ⟨gl, ol, none⟩ ∧ gl < w.heap.size ∧ EqAt w gl (ol + i * 3) q va vc := by
        rcases hEH.out with e | ⟨gl, ol, e1, e2, e3⟩
        · rw [e] at hil; simp at hil
        · obtain ⟨va, vc, hq⟩ := e3 i l[i] (List.getElem?_eq_getElem hil)
          exact ⟨l[i], gl, ol, va, vc, List.getElem?_eq_getElem hil, e1, e2, hq⟩
      have hq' := hqa.below hgl hS.out.bel
      have q0 := hq'.name
      have hnmi := nmOf_get hq
      have hexi := exOf_get hq
      obtain ⟨hqn, hqc⟩ := hhH.out q (List.mem_of_getElem? hq)
      obtain ⟨tl, htl⟩ : ∃ tl, tl = q.2.terms.length := ⟨_, rfl⟩
      have hcl : Hid (Calls Try.prog 29 #[.string (str q.1)] wr fun e w3 => e = .returned (.string (str q.1)) ∧ w3.cell? ⟨gl, ol + i * 3 + 1, none⟩ = some (.slice va tl vc) ∧ w3.cell? ⟨gl, ol + i * 3 + 2, none⟩ = some (.int .u32 q.2.const) ∧ Hid (Calls Try.prog 30 #[linV (.slice va tl vc) q.2.const, .map (some (g + 1))] w3 fun e w4 => ∃ a4 n4 c4 k4 w5, e = .returned (linV (.slice a4 n4 c4) k4) ∧ w4.frozen? ⟨g, i * 3, none⟩ = false ∧ w4.frozen? ⟨g, i * 3 + 1, none⟩ = false ∧ w4.frozen? ⟨g, i * 3 + 2, none⟩ = false ∧ (∃ u, w4.cell? ⟨g, i * 3, none⟩ = some u) ∧ (∃ u, w4.cell? ⟨g, i * 3 + 1, none⟩ = some u) ∧ (∃ u, w4.cell? ⟨g, i * 3 + 2, none⟩ = some u) ∧
          (((w4.setCell ⟨g, i * 3, none⟩ (.string (str q.1))).setCell ⟨g, i * 3 + 1, none⟩ (.slice a4 n4 c4)).setCell ⟨g, i * 3 + 2, none⟩ (.int .u32 k4)).cell? ⟨g, i * 3 + 1, none⟩ = some (.slice a4 n4 c4) ∧
          (((w4.setCell ⟨g, i * 3, none⟩ (.string (str q.1))).setCell ⟨g, i * 3 + 1, none⟩ (.slice a4 n4 c4)).setCell ⟨g, i * 3 + 2, none⟩ (.int .u32 k4)).cell? ⟨g, i * 3 + 2, none⟩ = some (.int .u32 k4) ∧
          (Instr.mapUpdate 69 (.map (some (g + 1))) (.string (str q.1)) (.agg #[.slice a4 n4 c4, .int .u32 k4])).run Try.prog (((w4.setCell ⟨g, i * 3, none⟩ (.string (str q.1))).setCell ⟨g, i * 3 + 1, none⟩ (.slice a4 n4 c4)).setCell ⟨g, i * 3 + 2, none⟩ (.int .u32 k4)) = .ok () w5 ∧ Hid (SSt w l (walkL l).order (some ⟨go, 0, none⟩) co g (g + 1) (k + 1) (fun j => if j = i then .slice a4 n4 c4 else v j) w5))) := by
        refine (clone_any (str q.1) wr (by simp [str, ByteArray.size]; omega)).mono ?_
        rintro e w3 ⟨rfl, hb3⟩
        have hgl3 : gl < wr.heap.size := Nat.lt_of_lt_of_le hgl hS.out.bel.size
        have hq3 := hq'.below hgl3 hb3
        have hS3 := hS.out.below hb3
        have hmi : ∀ t ∈ q.2.terms, t.name ∈ nmsOf l := fun t ht => List.mem_flatMap.2 ⟨q, List.mem_of_getElem? hq, List.mem_map.2 ⟨t, ht, rfl⟩⟩
        refine ⟨rfl, by rw [htl]; exact hq3.terms, hq3.const, ?_⟩
        have hput := put_any (svF l ((walkL l).order.take k)) q.2 (nmsOf l) hSH.out hSnH.out hqc hmi (svF_can l _) va vc (g + 1) k w3 hq3.lies hS3.lin
        rw [← htl] at hput
        refine hput.mono ?_
        rintro e w4 ⟨hb4, u, rfl, ho⟩
        obtain ⟨a4, c4, rfl⟩ := own_slice ho
        have hb34 : Below wr.heap.size wr w4 := hb3.trans (hb4.mono hb3.size)
        obtain ⟨f, m1, m2, m3, m4, m5⟩ := hS.out.mid (e := putN (svF l ((walkL l).order.take k)) q.2) hil hb34 hb3.size ho
        rw [hnmi] at m1 m3 m4
        obtain ⟨w5, r1, r2, r3⟩ := lnput_run m1 (by omega) q.1 ⟨a4, (putN (svF l ((walkL l).order.take k)) q.2).terms.length, c4, (putN (svF l ((walkL l).order.take k)) q.2).const⟩ hqn
        have hst := hS.out.step hndH.out (fun j hj => (hord.out.2 j).1 hj) hki hni (x := ⟨a4, (putN (svF l ((walkL l).order.take k)) q.2).terms.length, c4, (putN (svF l ((walkL l).order.take k)) q.2).const⟩) (e := putN (svF l ((walkL l).order.take k)) q.2) (by rw [hexi]) hb34 hb3.size rfl ho m2 (w5 := w5) (by rw [hnmi]; exact r2) (by rw [hnmi]; exact r3)
        exact ⟨a4, _, c4, _, w5, rfl, (m5 0 (by omega)).1, (m5 1 (by omega)).1, (m5 2 (by omega)).1, (m5 0 (by omega)).2, (m5 1 (by omega)).2, (m5 2 (by omega)).2, m3, m4, r1, hst⟩
      have hil2 : i < n0 := by rw [hH.out]; exact hil
      have hnn := hnH.out
      have hnoH : Hid ((walkL l).order.length = no) := hnH.out.symm
      clear hq' hqa hq hnmi hexi hqc hni hki hkl hS htl hnn
      go_wp2_with (first
        | (go_at_call 29; (with_reducible refine (hcl.out).mono ?_); rintro e w3 ⟨rfl, q1, q2, h30⟩)
        | (go_at_call 30; (with_reducible refine (h30.out).mono ?_); rintro e w4 ⟨a4, n4, c4, k4, w5, rfl, f0, f1, f2, ⟨u0, u1⟩, ⟨u2, u3⟩, ⟨u4, u5⟩, s1, s2, hrun, hS5⟩))
      all_goals first | omega | skip
      go_roundw
      case rel => exact ⟨k + 1, _, by omega, by go_num, hS5⟩
      case measure => simp [intOf]; omega
    · obtain rfl : k = no := by omega
      have hfin : Hid (SolO w l g v wr) := by
        have htk : (walkL l).order.take k = (walkL l).order := by rw [hnH.out, List.take_length]
        have hS := hS.out
        obtain ⟨s1, s2, s3, s4, s5, s6, s7, s8⟩ := hS
        rw [htk] at s3 s4 s5
        refine ⟨s1, ?_, fun j hj => s4 j ((hord.out.2 j).2 hj), fun i hi j hj => s5 i ((hord.out.2 i).2 hi) j ((hord.out.2 j).2 hj), s7⟩
        obtain ⟨cur, c1, c2, c3⟩ := s3
        exact ⟨cur, c1, c2, fun j hj _ => c3 j hj ((hord.out.2 j).2 hj)⟩
      have hnl0 := hH.out
      go_wp2_with fail
      all_goals first | omega | skip
      refine bodyPost_ret (by simp [results, Try.results8, go_sem]; try rfl) rfl ?_
      exact ⟨g, v, rfl, hfin.out⟩
end Go.Proofs.Ytebbbefknfldoaa
/- equ.Solve, of equs some of which come back. -/
namespace Go.Proofs.Ytebbbefknfldoaa
open Go.ChangeShapes Go.WideShapes Go.ChangeAt Go.RowKit Go.Sort Go.Maps
set_option linter.unusedVariables false
set_option linter.unusedSimpArgs false
set_option maxRecDepth 100000
theorem size_pos {w : World} {b n : Nat} {D : DataW Unit} (hown : w.ownsMap Try.prog 9 intE b n D) {x : List UInt8} (h : has D (.string x) = true) : 0 < size D := by
  obtain ⟨es, hD, _⟩ := hown.entries lawS
  subst hD
  rw [Maps.size_eq]
  cases es with
  | nil => cases h
  | cons a l => simp
theorem intE_val {c : Int} {y : DataW Unit × List MemPlace} (h : intE (.int .i64 c) = some y) : y.1 = .lit (.int .i64 c) := by
  rw [intE_mk] at h
  cases h
  rfl
def FirstC (l : List Eqv) (m : Nat) : Prop := m < l.length ∧ Ta.Cyc (adjF l) m ∧ ∀ i, i < l.length → Ta.Cyc (adjF l) i → m ≤ i
structure MSt (w : World) (l : List Eqv) (B r nb : Nat) (D : DataW Unit) (m : Nat) (left : Lit → Bool) (cnt : Nat) (wr : World) : Prop where
  rg : wr.ranges Try.prog 9 intE B r nb D left cnt
  bel : Below w.heap.size w wr
  lo : ∀ i, i < l.length → Ta.Cyc (adjF l) i → left (.string (nmOf l i)) = false → m ≤ i
  at_ : m = l.length ∨ (m < l.length ∧ Ta.Cyc (adjF l) m)
  ge : w.heap.size ≤ r
theorem MSt.step {w : World} {l : List Eqv} {B r nb : Nat} {D : DataW Unit} {m : Nat} {left : Lit → Bool} {cnt cnt2 : Nat} {wr w2 : World} (h : MSt w l B r nb D m left cnt wr) (hnd : (l.map (·.1)).Nodup) {i : Nat} (hi : i < l.length) (hc : Ta.Cyc (adjF l) i) (hrg : w2.ranges Try.prog 9 intE B r nb D (fun z => left z && !z.sameKey (.string (nmOf l i))) cnt2) (hg : wr.grownBy w2 (some r)) : MSt w l B r nb D (min m i) (fun z => left z && !z.sameKey (.string (nmOf l i))) cnt2 w2 := by
  refine ⟨hrg, h.bel.grown hg h.bel.size (fun g e => by cases e; exact h.ge), fun j hj hjc hl => ?_, ?_, h.ge⟩
  · by_cases hji : j = i
    · subst hji; exact Nat.min_le_right _ _
    · have hne : nmOf l j ≠ nmOf l i := fun e => hji (nm_inj hnd hj hi e)
      have : left (.string (nmOf l j)) = false := by
        simp [Lit.sameKey, hne] at hl
        exact hl
      exact Nat.le_trans (Nat.min_le_left _ _) (h.lo j hj hjc this)
  · rcases Nat.le_total m i with h1 | h1
    · rw [Nat.min_eq_left h1]; exact h.at_
    · rw [Nat.min_eq_right h1]; exact .inr ⟨hi, hc⟩
set_option maxHeartbeats 16000000 in
theorem solve_bad (l : List Eqv) (la : Option Addr) (lc : Nat) (hl : l.length ≤ 1000) (hnd : (l.map (·.1)).Nodup) (hheld : ∀ q ∈ l, q.1.length ≤ 140737488355328 ∧ q.2.terms.length ≤ 4400000 ∧ ∀ t ∈ q.2.terms, t.name.length ≤ 140737488355328) (hback : ∃ x, CycN l x) (w : World) (hE : EqIn w la l) :
    Calls Try.prog 8 #[.slice la l.length lc] w fun e w' => ∃ m : Nat, e = .returned (.tuple #[.slice none 0 0, .int .i64 (m : Int), .int .i64 24]) ∧ FirstC l m ∧ Below w.heap.size w w' := by
  have h28 := Hid.intro (walk_mem l la lc hl hnd hheld w hE)
  have hbk := Hid.intro (back_has hnd (Nat.lt_of_le_of_lt hl (by decide)))
  have hbv : Hid (∀ i, i < l.length → Ta.Cyc (adjF l) i → backF l (walkL l).back (nmOf l i) = some (i : Int)) := fun i hi hc => by
    cases hb : backF l (walkL l).back (nmOf l i) with
    | none =>
      have := (back_has hnd (Nat.lt_of_le_of_lt hl (by decide)) (nmOf l i)).2 ⟨i, hi, hc, rfl⟩
      rw [hb] at this; cases this
    | some z =>
      obtain ⟨k, hk, rfl, hn⟩ := backF_some l _ _ z hb
      have hkl := ((walk_right hnd (Nat.lt_of_le_of_lt hl (by decide))).2.1 k).1 hk
      rw [nm_inj hnd hkl.1 hi hn]
  obtain ⟨n0, hn0⟩ : ∃ n0, n0 = l.length := ⟨_, rfl⟩
  have hH := Hid.intro hn0
  have hl2 : n0 ≤ 1000 := by omega
  rw [← hn0] at h28 ⊢
  have hndH := Hid.intro hnd
  have hbackH := Hid.intro hback
  clear hl hnd hheld hE hback hn0
  go_enter Try.func8, Try.ntmps8
  go_wp2_with (first
    | (go_at_call 28; (with_reducible refine (h28.out).mono ?_); rintro e w1 ⟨ao, no, co, B, nb, hn, rfl, hW⟩; obtain ⟨D, hown, hD1, hD2⟩ := hW.map; have hz := hown.len Try.underlying66 3; have hkey : Hid (∀ x, has D (.string x) = true ↔ CycN l x) := (fun x => by rw [(hD2 x).1]; exact hbk.out x); have hpos : 0 < size D := (by obtain ⟨x, hx⟩ := hbackH.out; exact size_pos hown ((hkey.out x).2 hx)); have hWH := Hid.intro hW; have hDH := Hid.intro hD2; clear hW hn hD1 hD2)
    | (at_range; refine wpList_range_own _ rfl _ 66 rfl 9 3 lawS Try.underlying66 intE B nb D rfl hown ?_; intro w2 hrg hg2 hs2))
  all_goals first | omega | skip
  go_frame
  have hS0 : Hid (MSt w l B w1.heap.size nb D n0 (has D) (size D) w2) := by
    have hb2 : Below w1.heap.size w1 w2 := ⟨hg2.os, hg2.tape, hg2.output, hg2.size, fun k hk => hg2.block k hk (by simp)⟩
    exact ⟨hrg, hWH.out.bel.trans (hb2.mono hWH.out.bel.size), fun i hi hc h => (by rw [(hkey.out _).2 ⟨i, hi, hc, rfl⟩] at h; cases h), .inl hH.out, hWH.out.bel.size⟩
  generalize hr : w1.heap.size = r at *
  have hno : Hid (no = no) := rfl
  clear hown hz hpos hWH h28 hbk hrg hg2 hs2 hr
  go_loopw [7] (fun v7 wr => ∃ (left : Lit → Bool) (cnt m : Nat), v7 = .int .i64 (m : Int) ∧ MSt w l B r nb D m left cnt wr) (fun _ wr => wr.rangeLeft B r)
  case atStart => exact ⟨_, _, _, rfl, hS0.out⟩
  case round =>
    obtain ⟨left, cnt, m, rfl, hC⟩ := hrel
    clear hS0
    have hrg := hC.rg
    have hCH := Hid.intro hC
    have hm1 : m ≤ 1000 := by
      have h0 := hH.out
      rcases hC.at_ with h | h <;> omega
    clear hC
    go_wp2_with (at_next; refine wpList_next_ranges _ rfl _ rfl 9 lawS intE encStr (Value.int .i64) (fun key kl hk => by obtain ⟨x, hx, _⟩ := Maps.keyOf_str Try.underlying9 hk; exact ⟨x, hx⟩) (fun v y hv => by unfold intE at hv; split at hv; exact ⟨_, rfl⟩; cases hv) B r nb D left cnt rfl hrg ?_ ?_)
    · intro _ hl0
      have hfin : Hid (FirstC l m ∧ RowKit.Below w.heap.size w wr) := by
        refine ⟨?_, hCH.out.bel⟩
        rcases hCH.out.at_ with h | ⟨h1, h2⟩
        · obtain ⟨x, i, hi, hc, _⟩ := hbackH.out
          have := hCH.out.lo i hi hc (hl0 _)
          omega
        · exact ⟨h1, h2, fun i hi hc => hCH.out.lo i hi hc (hl0 _)⟩
      clear hrg hl0
      go_wp2_with fail
      all_goals first | omega | skip
      refine bodyPost_ret (by simp [results, Try.results8, go_sem]; try rfl) rfl ?_
      exact ⟨m, rfl, hfin.out.1, hfin.out.2⟩
    · intro x c1 kl yd yp w2 cnt2 hkey2 hlk hv hat hrg2 hlt hg2 hs2 hen
      obtain ⟨x', ex, rfl, _⟩ := Maps.keyOf_str Try.underlying9 hkey2
      obtain rfl : x = x' := encStr_inj ex
      obtain ⟨i, hi, hc, rfl⟩ := (hkey.out x).1 (has_true_of_atKey hat)
      have hci : c1 = (i : Int) := by
        have h1 := (hDH.out (nmOf l i)).2 _ (hbv.out i hi hc) (.nil)
        rw [hat] at h1
        have h2 := intE_val hv
        dsimp only at h2
        rw [h2] at h1
        simpa using h1
      subst hci
      have hS2 := Hid.intro (hCH.out.step hndH.out hi hc hrg2 hg2)
      have hi1 : i ≤ 1000 := by have := hH.out; omega
      have hle2 : Hid (wr.rangeLeft B r = cnt) := hCH.out.rg.left_eq
      have hltH := Hid.intro hlt
      clear hs2 hkey2 hv hat hrg2 hrg hlk hg2 hlt hi hc
      go_wp2_with fail
      all_goals first | omega | skip
      go_roundw
      case rel => exact ⟨_, _, min m i, by first | rfl | (congr 1; omega) | (simp; omega), hS2.out⟩
      case measure => rw [hS2.out.rg.left_eq, hle2.out]; exact hltH.out
end Go.Proofs.Ytebbbefknfldoaa
/- The law's equs: of. -/
namespace Go.Proofs.Ytebbbefknfldoaa
open Go.ChangeShapes Go.WideShapes Go.ChangeAt Go.RowKit
set_option linter.unusedVariables false
set_option linter.unusedSimpArgs false
set_option maxRecDepth 100000
set_option maxHeartbeats 4000000 in
theorem of_any (S O : ByteArray) (n c : Int) (w : World) : Calls Try.prog 9 #[.string S, .string O, .int .u32 n, .int .u32 c] w fun e w' => ∃ b, e = .returned (.agg #[.string S, .slice (some ⟨b, 0, none⟩) 1 1, .int .u32 c]) ∧ w'.heap[b]? = some (.cells #[.string O, .int .u32 n] 49 (0, 0)) ∧ Below w.heap.size w w' := by
  go_enter Try.func9, Try.ntmps9
  go_wp2
  all_goals first | omega | skip
  have h1 := heap_alloc_new (w.alloc (.cells #[.string S, .slice (some ⟨w.heap.size + 1, 0, none⟩) 1 1, .int .u32 c] 31)) (.cells #[.string O, .int .u32 n] 49)
  have h0 : ((w.alloc (.cells #[.string S, .slice (some ⟨w.heap.size + 1, 0, none⟩) 1 1, .int .u32 c] 31)).alloc (.cells #[.string O, .int .u32 n] 49)).heap[w.heap.size]? = some (.cells #[.string S, .slice (some ⟨w.heap.size + 1, 0, none⟩) 1 1, .int .u32 c] 31 (0, 0)) := by
    rw [(below_alloc (w.alloc _) _).block _ (by simp)]
    exact heap_alloc_new w _
  have hb : Below w.heap.size w ((w.alloc (.cells #[.string S, .slice (some ⟨w.heap.size + 1, 0, none⟩) 1 1, .int .u32 c] 31)).alloc (.cells #[.string O, .int .u32 n] 49)) := (below_alloc w _).alloc (by simp) _
  simp only [World.size_alloc] at h1
  generalize ((w.alloc (.cells #[.string S, .slice (some ⟨w.heap.size + 1, 0, none⟩) 1 1, .int .u32 c] 31)).alloc (.cells #[.string O, .int .u32 n] 49)) = W at *
  have c0 := (Joins.cell_of_block h0 0).trans rfl
  have c1 := (Joins.cell_of_block h0 1).trans rfl
  have c2 := (Joins.cell_of_block h0 2).trans rfl
  refine bodyPost_ret (by simp [results, Try.results9, go_sem, c0, c1, c2]; try rfl) rfl ?_
  exact ⟨_, rfl, h1, hb⟩
abbrev eqv (nm ot : List UInt8) (n c : Int) : Eqv := (nm, ⟨[⟨ot, n⟩], c⟩)
def OfL (w : World) (b : Nat) (O : ByteArray) (n : Int) : Prop := w.heap[b]? = some (.cells #[.string O, .int .u32 n] 49 (0, 0))
theorem OfL.below {w w' : World} {b : Nat} {O : ByteArray} {n : Int} (h : OfL w b O n) (hb : Below w.heap.size w w') : OfL w' b O n := (hb.block _ (wblk_lt h)).trans h
theorem OfL.lies {w : World} {b : Nat} {o : List UInt8} {n : Int} (h : OfL w b (str o) n) : TmLies w (some ⟨b, 0, none⟩) [⟨o, n⟩] := by
  refine .inr ⟨b, 0, rfl, wblk_lt h, fun i t hi => ?_⟩
  match i, hi with
  | 0, hi =>
    cases hi
    exact ⟨(Joins.cell_of_block h 0).trans rfl, (Joins.cell_of_block h 1).trans rfl⟩
def rowO (qs : List (List UInt8 × List UInt8 × Int × Int × Nat)) : List Value := qs.flatMap fun q => [.string (str q.1), .slice (some ⟨q.2.2.2.2, 0, none⟩) 1 1, .int .u32 q.2.2.2.1]
theorem rowO_get : ∀ (qs : List (List UInt8 × List UInt8 × Int × Int × Nat)) (i : Nat) (q : List UInt8 × List UInt8 × Int × Int × Nat), qs[i]? = some q → (rowO qs)[i * 3]? = some (.string (str q.1)) ∧ (rowO qs)[i * 3 + 1]? = some (.slice (some ⟨q.2.2.2.2, 0, none⟩) 1 1) ∧ (rowO qs)[i * 3 + 2]? = some (.int .u32 q.2.2.2.1)
  | [], i, q, h => by cases h
  | x :: l, 0, q, h => by
    have : x = q := by simpa using h
    subst this
    exact ⟨rfl, rfl, rfl⟩
  | x :: l, i + 1, q, h => by
    obtain ⟨h1, h2, h3⟩ := rowO_get l i q (by simpa using h)
    have e : rowO (x :: l) = .string (str x.1) :: .slice (some ⟨x.2.2.2.2, 0, none⟩) 1 1 :: .int .u32 x.2.2.2.1 :: rowO l := rfl
    rw [e, show (i + 1) * 3 = i * 3 + 1 + 1 + 1 by omega]
    exact ⟨h1, h2, h3⟩
theorem eqs_made (W : World) (qs : List (List UInt8 × List UInt8 × Int × Int × Nat)) (h : ∀ q ∈ qs, OfL W q.2.2.2.2 (str q.2.1) q.2.2.1) : EqIn (W.alloc (.cells (rowO qs).toArray 31)) (some ⟨W.heap.size, 0, none⟩) (qs.map fun q => eqv q.1 q.2.1 q.2.2.1 q.2.2.2.1) := by
  refine .inr ⟨W.heap.size, 0, rfl, by simp, fun i e hi => ?_⟩
  rw [List.getElem?_map] at hi
  cases hq : qs[i]? with
  | none => rw [hq] at hi; cases hi
  | some q =>
    rw [hq] at hi
    have : eqv q.1 q.2.1 q.2.2.1 q.2.2.2.1 = e := by simpa using hi
    subst this
    obtain ⟨h1, h2, h3⟩ := rowO_get qs i q hq
    have hn := heap_alloc_new W (.cells (rowO qs).toArray 31)
    have hc : ∀ j u, (rowO qs)[j]? = some u → (W.alloc (.cells (rowO qs).toArray 31)).cell? ⟨W.heap.size, j, none⟩ = some u := fun j u hu => (Joins.cell_of_block hn j).trans (by simpa using hu)
    refine ⟨some ⟨q.2.2.2.2, 0, none⟩, 1, ?_, ?_, ?_, ?_⟩
    · rw [Nat.zero_add]; exact hc _ _ h1
    · rw [Nat.zero_add]; exact hc _ _ h2
    · rw [Nat.zero_add]; exact hc _ _ h3
    · exact ((h q (List.mem_of_getElem? hq)).below (below_alloc W _)).lies
def solL (l : List Eqv) : List Eqv := (List.range l.length).map fun j => (nmOf l j, (svF l (walkL l).order (nmOf l j)).getD ⟨[], 0⟩)
theorem sol_eqIn {w w' : World} {l : List Eqv} {g : Nat} {v : Nat → Value} (h : SolO w l g v w') : EqIn w' (some ⟨g, 0, none⟩) (solL l) := by
  obtain ⟨cur, c1, c2, c3⟩ := h.out
  refine .inr ⟨g, 0, rfl, wblk_lt c1, fun i q hi => ?_⟩
  unfold solL at hi
  rw [List.getElem?_map] at hi
  by_cases hil : i < l.length
  · rw [List.getElem?_range hil] at hi
    have : (nmOf l i, (svF l (walkL l).order (nmOf l i)).getD ⟨[], 0⟩) = q := by simpa using hi
    subst this
    obtain ⟨e, k1, k2⟩ := h.row i hil
    obtain ⟨d1, d2, d3⟩ := c3 i hil trivial
    obtain ⟨va, vc, hv⟩ := own_slice k2
    dsimp only at d1 d2 d3
    rw [k1] at d3 ⊢
    dsimp only [Option.getD_some] at d1 d2 d3 ⊢
    rw [hv] at d2 k2
    have hc : ∀ j u, cur[j]? = some u → w'.cell? ⟨g, j, none⟩ = some u := fun j u hu => (Joins.cell_of_block c1 j).trans hu
    exact ⟨va, vc, by rw [Nat.zero_add]; exact hc _ _ d1, by rw [Nat.zero_add]; exact hc _ _ d2, by rw [Nat.zero_add]; exact hc _ _ d3, own_tmLies k2⟩
  · rw [List.getElem?_eq_none (by simp; omega)] at hi
    cases hi
end Go.Proofs.Ytebbbefknfldoaa
/- What is solved, as a function of names: that it is the one that puts itself in; that it hangs on no order. Plain facts. -/
namespace Go.Proofs.Ytebbbefknfldoaa
set_option linter.unusedVariables false
set_option linter.unusedSimpArgs false
set_option maxRecDepth 100000
theorem fm_congr {α β : Type} {f g : α → Option β} : ∀ {l : List α}, (∀ x ∈ l, f x = g x) → l.filterMap f = l.filterMap g
  | [], _ => rfl
  | a :: l, h => by
    rw [List.filterMap_cons, List.filterMap_cons, h a (by simp), fm_congr fun x hx => h x (by simp [hx])]
theorem mem_putN2 {F : List UInt8 → Option Lin} {x : Lin} {t : Tm} (h : t ∈ (putN F x).terms) : (∃ u ∈ x.terms, u.name = t.name ∧ F u.name = none) ∨ ∃ v ∈ x.terms, ∃ e, F v.name = some e ∧ ∃ u ∈ e.terms, u.name = t.name := by
  obtain ⟨p, hp, y, hy, e⟩ := mem_sumN h
  rcases List.mem_append.1 hp with hp | hp
  · obtain ⟨u, hu, e2, he, rfl⟩ := partsF_mem hp
    obtain ⟨_, _, z, hz, hze⟩ := mem_timesT hy
    exact .inr ⟨u, hu, e2, he, z, hz, hze.trans e⟩
  · rw [List.mem_singleton.1 hp] at hy
    obtain ⟨h1, h2⟩ := List.mem_filter.1 hy
    exact .inl ⟨y, h1, e, by cases hF : F y.name with | none => rfl | some z => rw [hF] at h2; cases h2⟩
theorem putN_congr {F G : List UInt8 → Option Lin} {x : Lin} (h : ∀ t ∈ x.terms, F t.name = G t.name) : putN F x = putN G x := by
  have h1 : partsF F x.terms = partsF G x.terms := by
    unfold partsF
    refine fm_congr fun t ht => ?_
    rw [h t ht]
  have h2 : restF F x.terms = restF G x.terms := by
    unfold restF
    refine List.filter_congr fun t ht => ?_
    rw [h t ht]
  unfold putN
  rw [h1, h2]
theorem svF_stay {l : List Eqv} (hnd : (l.map (·.1)).Nodup) (l1 : List Nat) : ∀ l2 : List Nat, (∀ j ∈ l1 ++ l2, j < l.length) → (l1 ++ l2).Nodup → ∀ j ∈ l1, svF l (l1 ++ l2) (nmOf l j) = svF l l1 (nmOf l j) := by
  intro l2
  refine snoc_ind (P := fun l2 => (∀ j ∈ l1 ++ l2, j < l.length) → (l1 ++ l2).Nodup → ∀ j ∈ l1, svF l (l1 ++ l2) (nmOf l j) = svF l l1 (nmOf l j)) (fun _ _ j _ => by rw [List.append_nil]) (fun m i ih => ?_) l2
  intro hlt hn j hj
  rw [← List.append_assoc] at hlt hn ⊢
  rw [svF_snoc]
  have hi : i < l.length := hlt i (by simp)
  have hjl : j < l.length := hlt j (by simp [hj])
  have hne : j ≠ i := fun e => by
    obtain ⟨_, _, h3⟩ := List.nodup_append.1 hn
    exact h3 j (by simp [hj]) i (by simp) e
  have : ¬ nmOf l j = nmOf l i := fun e => hne (nm_inj hnd hjl hi e)
  simp only [this, if_false]
  exact ih (fun j hj => hlt j (List.mem_append_left _ hj)) (List.nodup_append.1 hn).1 j hj
theorem svF_dom {l : List Eqv} : ∀ (os : List Nat) (s : List UInt8), (∃ i ∈ os, nmOf l i = s) ↔ (svF l os s).isSome = true := by
  intro os
  refine snoc_ind (P := fun os => ∀ s, (∃ i ∈ os, nmOf l i = s) ↔ (svF l os s).isSome = true) (fun s => by simp [svF]) (fun m i ih => ?_) os
  intro s
  rw [svF_snoc]
  by_cases hs : s = nmOf l i
  · simp only [hs, if_true, Option.isSome_some, iff_true]
    exact ⟨i, by simp, rfl⟩
  · simp only [hs, if_false]
    rw [← ih s]
    constructor
    · rintro ⟨j, hj, e⟩
      rcases List.mem_append.1 hj with hj | hj
      · exact ⟨j, hj, e⟩
      · rw [List.mem_singleton.1 hj] at e; exact absurd e.symm hs
    · rintro ⟨j, hj, e⟩
      exact ⟨j, List.mem_append_left _ hj, e⟩
structure Slb (l : List Eqv) : Prop where
  nd : (l.map (·.1)).Nodup
  len : l.length < Ta.big
  ac : ∀ x, ¬ CycN l x
  ord : (walkL l).order.length ≤ l.length
abbrev solF (l : List Eqv) : List UInt8 → Option Lin := svF l (walkL l).order
section
variable {l : List Eqv}
theorem Slb.order (h : Slb l) : (walkL l).order.Nodup ∧ ∀ v, v ∈ (walkL l).order ↔ v < l.length := order_is h.nd h.len h.ord
theorem Slb.split (h : Slb l) {i : Nat} (hi : i < l.length) : ∃ l1 l2, (walkL l).order = l1 ++ i :: l2 ∧ ∀ u ∈ adjF l i, u ∈ l1 := by
  obtain ⟨l1, l2, e⟩ := List.append_of_mem ((h.order.2 i).2 hi)
  refine ⟨l1, l2, e, ?_⟩
  rcases (walk_right h.nd h.len).2.2 l1 i l2 e with h1 | h1
  · exact h1
  · exact absurd ⟨i, hi, h1, rfl⟩ (h.ac (nmOf l i))
theorem Slb.ind (h : Slb l) {P : Nat → Prop} (hP : ∀ i, i < l.length → (∀ j ∈ adjF l i, P j) → P i) : ∀ i, i < l.length → P i := by
  have key : ∀ l1 l2, (walkL l).order = l1 ++ l2 → ∀ j ∈ l1, P j := by
    intro l1
    refine snoc_ind (P := fun l1 => ∀ l2, (walkL l).order = l1 ++ l2 → ∀ j ∈ l1, P j) (fun l2 _ j hj => by cases hj) (fun m i ih => ?_) l1
    intro l2 e j hj
    rw [List.append_assoc] at e
    rcases List.mem_append.1 hj with hj | hj
    · exact ih _ e j hj
    · rw [List.mem_singleton.1 hj]
      have hi : i < l.length := (h.order.2 i).1 (by rw [e]; simp)
      refine hP i hi fun u hu => ?_
      rcases (walk_right h.nd h.len).2.2 m i l2 e with h1 | h1
      · exact ih _ e u (h1 u hu)
      · exact absurd ⟨i, hi, h1, rfl⟩ (h.ac (nmOf l i))
  intro i hi
  exact key (walkL l).order [] (by simp) i ((h.order.2 i).2 hi)
theorem Slb.dom (h : Slb l) (s : List UInt8) : (solF l s).isSome = true ↔ ∃ i, i < l.length ∧ nmOf l i = s := by
  rw [← svF_dom]
  exact ⟨fun ⟨i, hi, e⟩ => ⟨i, (h.order.2 i).1 hi, e⟩, fun ⟨i, hi, e⟩ => ⟨i, (h.order.2 i).2 hi, e⟩⟩
theorem adj_of {l : List Eqv} (hnd : (l.map (·.1)).Nodup) {i j : Nat} (hj : j < l.length) {q : Eqv} (hq : l[i]? = some q) {t : Tm} (ht : t ∈ q.2.terms) (he : t.name = nmOf l j) : j ∈ adjF l i := by
  unfold adjF
  rw [hq]
  exact List.mem_filterMap.2 ⟨t, ht, by rw [he, atF_is hnd hj]; rfl⟩
theorem Slb.fix (h : Slb l) {i : Nat} (hi : i < l.length) : solF l (nmOf l i) = some (putN (solF l) (exOf l i)) := by
  obtain ⟨l1, l2, e, hadj⟩ := h.split hi
  have hlt : ∀ j ∈ (walkL l).order, j < l.length := fun j hj => (h.order.2 j).1 hj
  have hn := h.order.1
  have e2 : (walkL l).order = (l1 ++ [i]) ++ l2 := by rw [e]; simp
  have h1 : solF l (nmOf l i) = svF l (l1 ++ [i]) (nmOf l i) := by
    show svF l (walkL l).order _ = _
    rw [e2] at hlt hn ⊢
    exact svF_stay h.nd _ l2 hlt hn i (by simp)
  rw [h1, svF_snoc]
  simp only [if_true]
  congr 1
  refine putN_congr fun t ht => ?_
  have hq : l[i]? = some l[i] := List.getElem?_eq_getElem hi
  rw [exOf_get hq] at ht
  by_cases hd : ∃ j, j < l.length ∧ nmOf l j = t.name
  · obtain ⟨j, hj, hjn⟩ := hd
    have hj1 := hadj j (adj_of h.nd hj hq ht hjn.symm)
    rw [← hjn]
    show _ = svF l (walkL l).order _
    rw [e] at hlt hn ⊢
    exact (svF_stay h.nd l1 (i :: l2) hlt hn j hj1).symm
  · have a : svF l l1 t.name = none := by
      cases hs : svF l l1 t.name with
      | none => rfl
      | some z =>
        obtain ⟨j, hj, hjn⟩ := (svF_dom l1 t.name).2 (by rw [hs]; rfl)
        exact absurd ⟨j, hlt j (by rw [e]; simp [hj]), hjn⟩ hd
    have b : solF l t.name = none := by
      cases hs : solF l t.name with
      | none => rfl
      | some z => exact absurd ((h.dom t.name).1 (by rw [hs]; rfl)) hd
    rw [a, b]
theorem Slb.free (h : Slb l) : ∀ i, i < l.length → ∀ e, solF l (nmOf l i) = some e → ∀ t ∈ e.terms, solF l t.name = none := h.ind fun i hi ih e he t ht => by
  rw [h.fix hi] at he
  cases he
  have hq : l[i]? = some l[i] := List.getElem?_eq_getElem hi
  rcases mem_putN2 ht with ⟨u, _, e1, e2⟩ | ⟨v, hv, e', he', u, hu, e1⟩
  · rw [← e1]; exact e2
  · rw [← e1]
    obtain ⟨j, hj, hjn⟩ := (h.dom v.name).1 (by rw [he']; rfl)
    rw [exOf_get hq] at hv
    rw [← hjn] at he'
    exact ih j (adj_of h.nd hj hq hv hjn.symm) e' he' u hu
theorem Slb.none_iff (h : Slb l) (s : List UInt8) : solF l s = none ↔ ∀ i, i < l.length → nmOf l i ≠ s := by
  constructor
  · intro hs i hi e
    have := (h.dom s).2 ⟨i, hi, e⟩
    rw [hs] at this
    cases this
  · intro hs
    cases hc : solF l s with
    | none => rfl
    | some z => obtain ⟨i, hi, e⟩ := (h.dom s).1 (by rw [hc]; rfl); exact absurd e (hs i hi)
theorem solL_eq : solL l = l.map fun q => (q.1, (solF l q.1).getD ⟨[], 0⟩) := by
  unfold solL
  apply List.ext_getElem?
  intro i
  rw [List.getElem?_map, List.getElem?_map]
  by_cases hi : i < l.length
  · rw [List.getElem?_range hi, List.getElem?_eq_getElem hi]
    have := nmOf_get (List.getElem?_eq_getElem hi)
    simp [this]
  · rw [List.getElem?_eq_none (by simp; omega), List.getElem?_eq_none (by omega)]
    rfl
end
end Go.Proofs.Ytebbbefknfldoaa
/- Lins as sums: what a Lin comes to where each name has a number; Put after Put; len(l) times Put is what is solved. -/
namespace Go.Proofs.Ytebbbefknfldoaa
set_option linter.unusedVariables false
set_option linter.unusedSimpArgs false
set_option maxRecDepth 100000
def sumV (G : List UInt8 → Int) : List Tm → Int
  | [] => 0
  | t :: r => t.coef * G t.name + sumV G r
theorem sumV_append (G : List UInt8 → Int) (a b : List Tm) : sumV G (a ++ b) = sumV G a + sumV G b := by
  induction a with
  | nil => simp [sumV]
  | cons x r ih => simp only [List.cons_append, sumV, ih]; omega
theorem sumV_perm (G : List UInt8 → Int) {a b : List Tm} (h : a.Perm b) : sumV G a = sumV G b := by
  induction h with
  | nil => rfl
  | cons x _ ih => simp only [sumV, ih]
  | swap x y l => simp only [sumV]; omega
  | trans _ _ ih1 ih2 => exact ih1.trans ih2
theorem sumV_emit (G : List UInt8 → Int) (n : List UInt8) (c : Int) (l : List Tm) : sumV G (emit n c l) = c * G n + sumV G l := by
  unfold emit
  split
  · rename_i h
    subst h
    simp
  · rfl
theorem mod_left (a b c : Int) (h : a % 4294967296 = b % 4294967296) : (a * c) % 4294967296 = (b * c) % 4294967296 := by
  rw [Int.mul_emod, h, ← Int.mul_emod]
theorem sumV_gat (G : List UInt8 → Int) (n : List UInt8) (c : Int) (l : List Tm) : sumV G (gat n c l) % 4294967296 = (c * G n + sumV G l) % 4294967296 := by
  induction l generalizing n c with
  | nil => rw [show gat n c [] = emit n c [] from rfl, sumV_emit]
  | cons t r ih =>
    by_cases h : t.name = n
    · rw [gat_same n c t r h, ih]
      have h1 := mod_left ((c + t.coef) % 4294967296) (c + t.coef) (G n) (Int.emod_emod_of_dvd _ (Int.dvd_refl _))
      have h2 : (c + t.coef) * G n = c * G n + t.coef * G n := Int.add_mul _ _ _
      simp only [sumV, h]
      omega
    · rw [gat_other n c t r h, sumV_emit, gather_gat]
      have h1 := ih t.name ((0 + t.coef) % 4294967296)
      rw [gat_same t.name 0 t r rfl]
      have h2 := mod_left ((0 + t.coef) % 4294967296) t.coef (G t.name) (by omega)
      simp only [sumV]
      omega
theorem sumV_norm (G : List UInt8 → Int) (l : List Tm) : sumV G (norm l) % 4294967296 = sumV G l % 4294967296 := by
  unfold norm
  have hp := sumV_perm G (List.mergeSort_perm l leT)
  cases hm : l.mergeSort leT with
  | nil =>
    rw [hm] at hp
    rw [← hp]
    rfl
  | cons t r =>
    rw [hm] at hp
    rw [gather_gat, sumV_gat, ← hp]
    simp
theorem sumV_times (G : List UInt8 → Int) (l : List Tm) (n : Int) : sumV G (timesT l n) % 4294967296 = (sumV G l * n) % 4294967296 := by
  induction l with
  | nil => simp [timesT_nil, sumV]
  | cons t r ih =>
    rw [timesT_cons, sumV_emit]
    have h1 := mod_left (t.coef * n % 4294967296) (t.coef * n) (G t.name) (Int.emod_emod_of_dvd _ (Int.dvd_refl _))
    have h2 : t.coef * n * G t.name = t.coef * G t.name * n := by rw [Int.mul_assoc, Int.mul_comm n, ← Int.mul_assoc]
    have h3 : (t.coef * G t.name + sumV G r) * n = t.coef * G t.name * n + sumV G r * n := Int.add_mul _ _ _
    simp only [sumV]
    omega
def ev (G : List UInt8 → Int) (x : Lin) : Int := (x.const + sumV G x.terms) % 4294967296
theorem sumV_congr {G H : List UInt8 → Int} : ∀ {l : List Tm}, (∀ t ∈ l, G t.name = H t.name) → sumV G l = sumV H l
  | [], _ => rfl
  | t :: r, h => by
    simp only [sumV]
    rw [h t (by simp), sumV_congr fun u hu => h u (by simp [hu])]
theorem ev_congr {G H : List UInt8 → Int} {x : Lin} (h : ∀ t ∈ x.terms, G t.name = H t.name) : ev G x = ev H x := by unfold ev; rw [sumV_congr h]
theorem ev_mul (G : List UInt8 → Int) (x : Lin) (n : Int) : ev G (mulL x n) = ev G x * n % 4294967296 := by
  unfold ev mulL
  have h1 := sumV_times G x.terms n
  have h2 := mod_left ((x.const + sumV G x.terms) % 4294967296) (x.const + sumV G x.terms) n (Int.emod_emod_of_dvd _ (Int.dvd_refl _))
  have h3 : (x.const + sumV G x.terms) * n = x.const * n + sumV G x.terms * n := Int.add_mul _ _ _
  dsimp only
  omega
theorem sumV_flat (G : List UInt8 → Int) : ∀ ps : List Lin, sumV G (ps.flatMap (·.terms)) = (ps.map fun p => sumV G p.terms).sum
  | [] => rfl
  | p :: ps => by rw [List.flatMap_cons, sumV_append, sumV_flat G ps]; simp
theorem ev_sum (G : List UInt8 → Int) (ps : List Lin) : ev G (sumN ps) = (ps.map (ev G)).sum % 4294967296 := by
  unfold sumN
  have h1 := sumV_norm G (ps.flatMap (·.terms))
  rw [sumV_flat] at h1
  have h2 : (ps.map (ev G)).sum % 4294967296 = ((ps.map (·.const)).sum + (ps.map fun p => sumV G p.terms).sum) % 4294967296 := by
    clear h1
    induction ps with
    | nil => rfl
    | cons p ps ih =>
      simp only [List.map_cons, List.sum_cons]
      unfold ev at ih ⊢
      omega
  rw [h2]
  unfold ev
  dsimp only
  omega
def thru (F : List UInt8 → Option Lin) (G : List UInt8 → Int) : List UInt8 → Int := fun s => match F s with
  | some e => ev G e
  | none => G s
theorem thru_some {F : List UInt8 → Option Lin} {G : List UInt8 → Int} {s : List UInt8} {e : Lin} (h : F s = some e) : thru F G s = ev G e := by unfold thru; rw [h]
theorem thru_none {F : List UInt8 → Option Lin} {G : List UInt8 → Int} {s : List UInt8} (h : F s = none) : thru F G s = G s := by unfold thru; rw [h]
theorem ev_parts (F : List UInt8 → Option Lin) (G : List UInt8 → Int) : ∀ ts : List Tm, (((partsF F ts).map (ev G)).sum + sumV G (restF F ts)) % 4294967296 = sumV (thru F G) ts % 4294967296
  | [] => rfl
  | t :: r => by
    have ih := ev_parts F G r
    unfold partsF restF at ih ⊢
    cases h : F t.name with
    | none =>
      rw [List.filterMap_cons_none (by rw [h]; rfl), List.filter_cons_of_pos (by rw [h]; rfl)]
      simp only [sumV]
      rw [thru_none h]
      omega
    | some e =>
      rw [List.filterMap_cons_some (b := mulL e t.coef) (by rw [h]; rfl), List.filter_cons_of_neg (by rw [h]; simp)]
      simp only [sumV, List.map_cons, List.sum_cons]
      rw [thru_some h, ev_mul]
      have : t.coef * ev G e = ev G e * t.coef := Int.mul_comm _ _
      omega
theorem ev_put (F : List UInt8 → Option Lin) (G : List UInt8 → Int) (x : Lin) : ev G (putN F x) = ev (thru F G) x := by
  unfold putN
  rw [ev_sum, List.map_append, List.sum_append]
  have h1 := ev_parts F G x.terms
  simp only [List.map_cons, List.map_nil, List.sum_cons, List.sum_nil]
  unfold ev at h1 ⊢
  dsimp only
  omega
def ind (n : List UInt8) : List UInt8 → Int := fun s => if s = n then 1 else 0
theorem sumV_ind (n : List UInt8) : ∀ l : List Tm, sumV (ind n) l = cfOf n l
  | [] => rfl
  | t :: r => by
    have ih := sumV_ind n r
    simp only [sumV, cfOf]
    unfold ind at ih ⊢
    by_cases h : t.name = n <;> simp [h, ih]
theorem sumV_zero : ∀ l : List Tm, sumV (fun _ => 0) l = 0
  | [] => rfl
  | t :: r => by simp [sumV, sumV_zero r]
theorem ev_ext {x y : Lin} (hx : CanL x) (hy : CanL y) (h : ∀ G, ev G x = ev G y) : x = y := by
  have hc := h fun _ => 0
  unfold ev at hc
  rw [sumV_zero, sumV_zero] at hc
  have hc2 : x.const % 4294967296 = y.const % 4294967296 := by simpa using hc
  refine canL_ext hx hy (fun n => ?_) hc2
  have h1 := h (ind n)
  unfold ev at h1
  rw [sumV_ind, sumV_ind] at h1
  omega
theorem put_put (F G : List UInt8 → Option Lin) (x : Lin) : putN F (putN G x) = putN (fun s => match G s with | some e => some (putN F e) | none => F s) x := by
  refine ev_ext (putN_can _ _) (putN_can _ _) fun H => ?_
  rw [ev_put, ev_put, ev_put]
  refine ev_congr fun t _ => ?_
  cases h : G t.name with
  | none =>
    rw [thru_none h]
    unfold thru
    simp only [h]
  | some e =>
    rw [thru_some h, ← ev_put]
    unfold thru
    simp only [h]
theorem eqF_nm {l : List Eqv} (hnd : (l.map (·.1)).Nodup) {i : Nat} (hi : i < l.length) : eqF l (nmOf l i) = some (exOf l i) := by
  have hq : l[i]? = some l[i] := List.getElem?_eq_getElem hi
  cases he : eqF l (nmOf l i) with
  | none =>
    exfalso
    have : ∀ k, i < k → k ≤ l.length → eqF (l.take k) (nmOf l i) ≠ none := by
      intro k
      induction k with
      | zero => intro h; omega
      | succ k ih =>
        intro h1 h2
        have hk : l[k]? = some l[k] := List.getElem?_eq_getElem (by omega)
        rw [eqF_take hk]
        by_cases hn : nmOf l i = l[k].1
        · simp [hn]
        · simp only [hn, if_false]
          have : i ≠ k := fun e => hn (by subst e; exact nmOf_get hq)
          exact ih (by omega) (by omega)
    have h1 := this l.length hi (Nat.le_refl _)
    rw [List.take_length] at h1
    exact h1 he
  | some e =>
    obtain ⟨q, hqm, h1, rfl⟩ := eqF_some he
    obtain ⟨j, hj, rfl⟩ := List.getElem_of_mem hqm
    have : i = j := by
      rw [nmOf_get hq] at h1
      have h2 : (l.map (·.1))[j]? = (l.map (·.1))[i]? := by rw [List.getElem?_map, List.getElem?_map, hq, List.getElem?_eq_getElem hj]; simp [h1]
      exact ((List.getElem?_inj (by simpa using hj) hnd).1 h2).symm
    subst this
    rw [exOf_get hq]
theorem eqF_no {l : List Eqv} {s : List UInt8} (h : ∀ i, i < l.length → nmOf l i ≠ s) : eqF l s = none := by
  cases he : eqF l s with
  | none => rfl
  | some e =>
    obtain ⟨q, hqm, h1, rfl⟩ := eqF_some he
    obtain ⟨j, hj, rfl⟩ := List.getElem_of_mem hqm
    exact absurd ((nmOf_get (List.getElem?_eq_getElem hj)).trans h1) (h j hj)
section
variable {l : List Eqv}
theorem Slb.full (h : Slb l) (e : Lin) : putN (solF l) (putN (eqF l) e) = putN (solF l) e := by
  rw [put_put]
  refine putN_congr fun t _ => ?_
  by_cases hx : ∃ i, i < l.length ∧ nmOf l i = t.name
  · obtain ⟨i, hi, e⟩ := hx
    rw [← e, eqF_nm h.nd hi, h.fix hi]
  · have h0 : ∀ i, i < l.length → nmOf l i ≠ t.name := fun i hi e => hx ⟨i, hi, e⟩
    rw [eqF_no h0]
end
end Go.Proofs.Ytebbbefknfldoaa
/- The document's Put as a function: it is Put's. -/
namespace Go.Proofs.Ytebbbefknfldoaa
set_option linter.unusedVariables false
set_option linter.unusedSimpArgs false
set_option maxRecDepth 100000
def addL (a b : Lin) : Lin := ⟨addT a.terms b.terms, (a.const + b.const) % 4294967296⟩
def forT (F : List UInt8 → Option Lin) (t : Tm) : Lin := match F t.name with
  | some e => mulL e t.coef
  | none => ⟨[t], 0⟩
def putR (F : List UInt8 → Option Lin) (ts : List Tm) (o : Lin) : Lin := ts.foldl (fun o t => addL o (forT F t)) o
theorem putR_take (F : List UInt8 → Option Lin) {ts : List Tm} {i : Nat} {t : Tm} (h : ts[i]? = some t) (o : Lin) : putR F (ts.take (i + 1)) o = addL (putR F (ts.take i) o) (forT F t) := by
  unfold putR
  rw [List.take_add_one, h, List.foldl_append]
  rfl
theorem Slb.value {l : List Eqv} (h : Slb l) {G : List UInt8 → Int} {i : Nat} (hi : i < l.length) {e : Lin} (he : solF l (nmOf l i) = some e) : ev G e = ev (thru (solF l) G) (exOf l i) := by
  rw [h.fix hi] at he
  cases he
  exact ev_put _ _ _
end Go.Proofs.Ytebbbefknfldoaa
namespace Go.Proofs.Ytebbbefknfldoaa
open Go.ChangeShapes Go.WideShapes Go.ChangeAt Go.RowKit
set_option linter.unusedVariables false
set_option linter.unusedSimpArgs false
set_option maxRecDepth 100000
structure LnB (w : World) (g : Nat) (o : Lin) (a : Option Addr) (n c : Nat) : Prop where
  blk : Two w g 29 (.slice a n c) (.int .u32 o.const)
  len : n = o.terms.length
  lies : TmLies w a o.terms
theorem LnB.below {w w' : World} {g : Nat} {o : Lin} {a : Option Addr} {n c : Nat} (h : LnB w g o a n c) (hb : Below w.heap.size w w') : LnB w' g o a n c :=
  ⟨h.blk.below hb (wblk_lt h.blk.heap), h.len, h.lies.below hb (Nat.le_refl _)⟩
def oI (F : List UInt8 → Option Lin) (x : Lin) (i : Nat) : Lin := putR F (x.terms.take i) ⟨[], x.const⟩
structure PuS (W0 wr : World) (F : List UInt8 → Option Lin) (x : Lin) (i : Nat) (a : Option Addr) (n c : Nat) : Prop where
  bel : Below W0.heap.size W0 wr
  out : Two wr W0.heap.size 29 (.slice a n c) (.int .u32 (oI F x i).const)
  len : n = (oI F x i).terms.length
  row : wr.ownsRow W0.heap.size 49 2 (.slice a n c) n (rowT (oI F x i).terms)
theorem PuS.lies {W0 wr : World} {F : List UInt8 → Option Lin} {x : Lin} {i : Nat} {a : Option Addr} {n c : Nat} (h : PuS W0 wr F x i a n c) : TmLies wr a (oI F x i).terms := by
  have := h.row
  rw [h.len] at this
  exact own_tmLies this
theorem PuS.step {W0 wr w1 w2 : World} {F : List UInt8 → Option Lin} {x : Lin} {i : Nat} {a a' : Option Addr} {n c n' c' : Nat} {t : Tm} (h : PuS W0 wr F x i a n c) (ht : x.terms[i]? = some t) (hb : Below wr.heap.size wr w1) (hb2 : Below w1.heap.size w1 w2)
    (hl : n' = (addL (oI F x i) (forT F t)).terms.length) (ho : w2.ownsRow w1.heap.size 49 2 (.slice a' n' c') n' (rowT (addL (oI F x i) (forT F t)).terms)) :
    PuS W0 ((w2.setCell ⟨W0.heap.size, 0, none⟩ (.slice a' n' c')).setCell ⟨W0.heap.size, 1, none⟩ (.int .u32 (addL (oI F x i) (forT F t)).const)) F x (i + 1) a' n' c' := by
  have e : oI F x (i + 1) = addL (oI F x i) (forT F t) := putR_take F ht _
  have hlt := wblk_lt h.out.heap
  have h2 := ((h.out.below hb hlt).below hb2 (Nat.lt_of_lt_of_le hlt hb.size)).heap
  obtain ⟨r1, g1⟩ := row_set h2 0 (.slice a' n' c')
  obtain ⟨r2, g2⟩ := row_set r1 1 (.int .u32 (addL (oI F x i) (forT F t)).const)
  have hg := grown_trans g1 g2
  have hbb : Below W0.heap.size W0 w2 := (h.bel.trans (hb.mono h.bel.size)).trans (hb2.mono (Nat.le_trans h.bel.size hb.size))
  refine ⟨hbb.grown hg hbb.size (fun g e => by cases e; exact Nat.le_refl _), ?_, by rw [e]; exact hl, ?_⟩
  · rw [e]
    exact two_of r2
  · rw [e]
    exact own_weaken (own_low ho hg (Nat.lt_of_lt_of_le hlt hb.size)) (Nat.le_trans h.bel.size hb.size)
end Go.Proofs.Ytebbbefknfldoaa

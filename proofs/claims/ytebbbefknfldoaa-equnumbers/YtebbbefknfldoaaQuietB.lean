/- A region that draws its order, whose operations only read, and whose callees leave what was there as it was: walked once. -/
import Derived.Test.YtebbbefknfldoaaSlv1
import Derived.Test.YtebbbefknfldoaaPut1
import Derived.Deep.QuietTactic
import Derived.BigQuiet
import Derived.WalkSmall
import Derived.WalkSpells
/- equ.Solve. -/
namespace Go.Proofs.Ytebbbefknfldoaa
open Go.ChangeShapes Go.WideShapes Go.ChangeAt Go.RowKit Go.Maps
set_option linter.unusedVariables false
set_option linter.unusedSimpArgs false
set_option maxRecDepth 100000
theorem nodup_of_len {α : Type} [DecidableEq α] : ∀ (l m : List α), m.Nodup → (∀ x ∈ m, x ∈ l) → l.length ≤ m.length → l.Nodup
  | [], m, _, _, _ => List.nodup_nil
  | x :: l, m, hm, hs, hl => by
    rw [List.length_cons] at hl
    have hx : x ∉ l := fun hx => by
      have := nodup_le m l hm (fun y hy => by
        rcases List.mem_cons.1 (hs y hy) with rfl | h
        · exact hx
        · exact h)
      omega
    refine List.nodup_cons.2 ⟨hx, nodup_of_len l (m.erase x) (hm.sublist (List.erase_sublist ..)) (fun y hy => ?_) ?_⟩
    · have h1 := (hm.mem_erase_iff).1 hy
      exact (List.mem_cons.1 (hs y h1.2)).resolve_left h1.1
    · by_cases hxm : x ∈ m
      · rw [List.length_erase_of_mem hxm]; omega
      · rw [List.erase_of_not_mem hxm]
        have := nodup_le m l hm (fun y hy => by
          rcases List.mem_cons.1 (hs y hy) with rfl | h
          · exact absurd hy hxm
          · exact h)
        omega
theorem order_is {l : List Eqv} (hnd : (l.map (·.1)).Nodup) (hl : l.length < Ta.big) (hlen : (walkL l).order.length ≤ l.length) : (walkL l).order.Nodup ∧ ∀ v, v ∈ (walkL l).order ↔ v < l.length := by
  obtain ⟨h1, _, _⟩ := walk_right hnd hl
  exact ⟨nodup_of_len _ (List.range l.length) List.nodup_range (fun x hx => (h1 x).2 (List.mem_range.1 hx)) (by simpa using hlen), h1⟩
theorem size_zero {w : World} {b n : Nat} {D : DataW Unit} (hown : w.ownsMap Try.prog 9 intE b n D) (h : ∀ x, has D (.string x) = false) : size D = 0 := by
  have hp := Collected.perm (D0 := D) (ss := []) (left := fun _ => false) ⟨List.nodup_nil, fun x => by simp [h x]⟩ hown lawS Try.underlying9 (fun _ => rfl)
  obtain ⟨es, hD, _⟩ := hown.entries lawS
  subst hD
  have := hp.length_eq
  rw [Maps.size_eq]
  simpa [strKeys] using this.symm
structure SolO (w : World) (l : List Eqv) (g : Nat) (v : Nat → Value) (w' : World) : Prop where
  bel : Below w.heap.size w w'
  out : OutIs w' g l.length (fun _ => True) (fun j => (nmOf l j, v j, ((svF l (walkL l).order (nmOf l j)).getD ⟨[], 0⟩).const))
  row : ∀ j, j < l.length → ∃ e, svF l (walkL l).order (nmOf l j) = some e ∧ w'.ownsRow w.heap.size 49 2 (v j) e.terms.length (rowT e.terms)
  ap : ∀ i, i < l.length → ∀ j, j < l.length → i ≠ j → ∀ b, (v i).ownBlock = some b → (v j).ownBlock ≠ some b
  gg : w.heap.size ≤ g
set_option maxHeartbeats 16000000 in
theorem solve_ok (l : List Eqv) (la : Option Addr) (lc : Nat) (hl : l.length ≤ 1000) (hnd : (l.map (·.1)).Nodup) (hheld : ∀ q ∈ l, q.1.length ≤ 140737488355328 ∧ CanL q.2) (hS : (nmsOf l).length ≤ 4400000) (hSn : ∀ s ∈ nmsOf l, s.length ≤ 140737488355328) (hback : ∀ x, ¬ CycN l x) (w : World) (hE : EqIn w la l) :
    Calls Try.prog 8 #[.slice la l.length lc] w fun e w' => ∃ g v, e = .returned (.tuple #[.slice (some ⟨g, 0, none⟩) l.length l.length, .int .i64 0, .int .i64 0]) ∧ SolO w l g v w' := by
  have hheld2 : ∀ q ∈ l, q.1.length ≤ 140737488355328 ∧ q.2.terms.length ≤ 4400000 ∧ ∀ t ∈ q.2.terms, t.name.length ≤ 140737488355328 := fun q hq => by
    have hs : ∀ t ∈ q.2.terms, t.name ∈ nmsOf l := fun t ht => List.mem_flatMap.2 ⟨q, hq, List.mem_map.2 ⟨t, ht, rfl⟩⟩
    exact ⟨(hheld q hq).1, Nat.le_trans (canon_len (hheld q hq).2.terms hs) hS, fun t ht => hSn _ (hs t ht)⟩
  have h28 := Hid.intro (walk_mem l la lc hl hnd hheld2 w hE)
  have hbk : Hid (∀ x, (backF l (walkL l).back x).isSome = false) := fun x => by
    cases h : (backF l (walkL l).back x).isSome with
    | false => rfl
    | true => exact absurd ((back_has hnd (Nat.lt_of_le_of_lt hl (by decide)) x).1 h) (hback x)
  obtain ⟨n0, hn0⟩ : ∃ n0, n0 = l.length := ⟨_, rfl⟩
  have hH := Hid.intro hn0
  have hl2 : n0 ≤ 1000 := by omega
  obtain ⟨i31, hi31, z0, z1, z2⟩ := info_parts info31
  have hmm : ∀ (z : Int) (W : World), (Instr.makeMap 69 (some (.int .i64 z))).run Try.prog W = .ok (.map (some W.heap.size)) (W.alloc (.map #[] 0)) := fun z W => run_makeMap_hint Try.underlying69 z W
  obtain ⟨M, hM, hms⟩ : ∃ M : Array Value, M.size = n0 * 3 ∧ ∀ W : World, (Instr.makeSlice 22 (.int .i64 (n0 : Int)) (.int .i64 (n0 : Int))).run Try.prog W = .ok (.slice (some ⟨W.heap.size, 0, none⟩) n0 n0) (W.alloc (.cells M 31)) := by
    refine ⟨madeCells (Value.agg #[.string ⟨#[]⟩, .slice none 0 0, .int .u32 0]).cells (n0 * 3), size_madeCells _ _, fun W => ?_⟩
    have h := run_make (P := Try.prog) W 22 31 i31 (.agg #[.string ⟨#[]⟩, .slice none 0 0, .int .u32 0]) Try.underlying22 hi31 z0 .i64 .i64 (n0 : Int) (n0 : Int) (by omega) (by omega) (by rw [z2]; omega) (by omega)
    rw [z1] at h
    simp only [Int.toNat_natCast] at h
    exact h
  rw [← hn0] at h28 ⊢
  have hlH := Hid.intro hl
  have hndH := Hid.intro hnd
  have hhH := Hid.intro hheld
  have hSH := Hid.intro hS
  have hSnH := Hid.intro hSn
  have hEH := Hid.intro hE
  clear hl hnd hheld hS hSn hE hback hheld2 hn0
  go_enter Try.func8, Try.ntmps8
  go_wp2_with (first
    | (go_at_call 28; (with_reducible refine (h28.out).mono ?_); rintro e w1 ⟨ao, no, co, B0, nb, hn, rfl, hW⟩; obtain ⟨D, hown, hD1, hD2⟩ := hW.map; have hz := hown.len Try.underlying66 3; rw [size_zero hown (fun x => (hD2 x).1.trans (hbk.out x))] at hz; have hWH := Hid.intro hW; have hnH := Hid.intro hn; have hDH := Hid.intro hD2; clear hW hn hD1 hD2))
  all_goals first | omega | skip
  have hord := Hid.intro (order_is hndH.out (Nat.lt_of_le_of_lt hlH.out (by decide)) hWH.out.len)
  have hS0 : Hid (SSt w l (walkL l).order ao co w1.heap.size (w1.heap.size + 1) 0 (fun _ => .slice none 0 0) ((w1.alloc (.cells M 31)).alloc (.map #[] 0))) := by
    have hb1 := below_alloc w1 (.cells M 31)
    have h1 := heap_alloc_new w1 (.cells M 31)
    have hs1 : (w1.alloc (.cells M 31)).heap.size = w1.heap.size + 1 := by simp
    generalize w1.alloc (.cells M 31) = W1 at *
    have hb2 := below_alloc W1 (.map #[] 0)
    have hm := LnIs.made W1
    rw [hs1] at hm
    have hb12 := hb1.trans (hb2.mono (by omega))
    have hws := hWH.out.bel.size
    exact ⟨hWH.out.bel.trans (hb12.mono hws), own_bel hWH.out.own hb12 (Nat.le_refl _), ⟨M, (hb2.block _ (by omega)).trans h1, by rw [hM, hH.out], fun j hj hp => by cases hp⟩, fun j hj => (by cases hj), fun i hi => (by cases hi), ⟨_, hm, fun s => ⟨fun _ => rfl, fun e he => by cases he⟩⟩, hws, by omega⟩
  have hnl : no ≤ n0 := by rw [hnH.out, hH.out]; exact hWH.out.len
  clear hown hz hDH hWH h28 hbk hms hM hmm
  generalize (w1.alloc (.cells M 31)).alloc (.map #[] 0) = W2 at *
  generalize w1.heap.size = g at *
  go_loopw [43] (fun v43 wr => ∃ (k : Nat) (v : Nat → Value), k ≤ no ∧ v43 = .int .i64 (k : Int) ∧ Hid (SSt w l (walkL l).order ao co g (g + 1) k v wr)) (fun v43 _ => no - (intOf v43).toNat)
  case atStart => exact ⟨0, _, by omega, by first | rfl | go_num, hS0⟩
  case round =>
    obtain ⟨k, v, hk, rfl, hS⟩ := hrel
    clear hS0
    by_cases hkn : k < no
    · have hkl : k < (walkL l).order.length := by rw [← hnH.out]; exact hkn
      obtain ⟨i, hki⟩ : ∃ i, (walkL l).order[k]? = some i := ⟨_, List.getElem?_eq_getElem hkl⟩
      have hil : i < l.length := (hord.out.2 i).1 (List.mem_of_getElem? hki)
      have hni : i ∉ (walkL l).order.take k := fun h => by
        have h1 := List.nodup_iff_pairwise_ne.1 hord.out.1
        obtain ⟨j, hj, e⟩ := List.getElem_of_mem h
        rw [List.length_take] at hj
        rw [List.getElem_take] at e
        have h2 := List.pairwise_iff_getElem.1 h1 j k (by omega) hkl (by omega)
        rw [List.getElem?_eq_getElem hkl] at hki
        exact h2 (e.trans (Option.some.inj hki).symm)
      obtain ⟨go, rfl, _, hcell⟩ := own_addr hS.out.ord (by omega)
      have d0 := hcell k (.int .i64 (i : Int)) (by unfold rowN; rw [List.getElem?_map, hki]; rfl)
      clear hcell
      obtain ⟨q, gl, ol, va, vc, hq, rfl, hgl, hqa⟩ : ∃ q gl ol va vc, l[i]? = some q ∧ la = some ⟨gl, ol, none⟩ ∧ gl < w.heap.size ∧ EqAt w gl (ol + i * 3) q va vc := by
        rcases hEH.out with e | ⟨gl, ol, e1, e2, e3⟩
        · rw [e] at hil; simp at hil
        · obtain ⟨va, vc, hq⟩ := e3 i l[i] (List.getElem?_eq_getElem hil)
          exact ⟨l[i], gl, ol, va, vc, List.getElem?_eq_getElem hil, e1, e2, hq⟩
      have hq' := hqa.below hgl hS.out.bel
      have q0 := hq'.name
      have hnmi := nmOf_get hq
      have hexi := exOf_get hq
      obtain ⟨hqn, hqc⟩ := hhH.out q (List.mem_of_getElem? hq)
      obtain ⟨tl, htl⟩ : ∃ tl, tl = q.2.terms.length := ⟨_, rfl⟩
      have hcl : Hid (Calls Try.prog 29 #[.string (str q.1)] wr fun e w3 => e = .returned (.string (str q.1)) ∧ w3.cell? ⟨gl, ol + i * 3 + 1, none⟩ = some (.slice va tl vc) ∧ w3.cell? ⟨gl, ol + i * 3 + 2, none⟩ = some (.int .u32 q.2.const) ∧ Hid (Calls Try.prog 30 #[linV (.slice va tl vc) q.2.const, .map (some (g + 1))] w3 fun e w4 => ∃ a4 n4 c4 k4 w5, e = .returned (linV (.slice a4 n4 c4) k4) ∧ w4.frozen? ⟨g, i * 3, none⟩ = false ∧ w4.frozen? ⟨g, i * 3 + 1, none⟩ = false ∧ w4.frozen? ⟨g, i * 3 + 2, none⟩ = false ∧ (∃ u, w4.cell? ⟨g, i * 3, none⟩ = some u) ∧ (∃ u, w4.cell? ⟨g, i * 3 + 1, none⟩ = some u) ∧ (∃ u, w4.cell? ⟨g, i * 3 + 2, none⟩ = some u) ∧
          (((w4.setCell ⟨g, i * 3, none⟩ (.string (str q.1))).setCell ⟨g, i * 3 + 1, none⟩ (.slice a4 n4 c4)).setCell ⟨g, i * 3 + 2, none⟩ (.int .u32 k4)).cell? ⟨g, i * 3 + 1, none⟩ = some (.slice a4 n4 c4) ∧
          (((w4.setCell ⟨g, i * 3, none⟩ (.string (str q.1))).setCell ⟨g, i * 3 + 1, none⟩ (.slice a4 n4 c4)).setCell ⟨g, i * 3 + 2, none⟩ (.int .u32 k4)).cell? ⟨g, i * 3 + 2, none⟩ = some (.int .u32 k4) ∧
          (Instr.mapUpdate 69 (.map (some (g + 1))) (.string (str q.1)) (.agg #[.slice a4 n4 c4, .int .u32 k4])).run Try.prog (((w4.setCell ⟨g, i * 3, none⟩ (.string (str q.1))).setCell ⟨g, i * 3 + 1, none⟩ (.slice a4 n4 c4)).setCell ⟨g, i * 3 + 2, none⟩ (.int .u32 k4)) = .ok () w5 ∧ Hid (SSt w l (walkL l).order (some ⟨go, 0, none⟩) co g (g + 1) (k + 1) (fun j => if j = i then .slice a4 n4 c4 else v j) w5))) := by
        refine (clone_any (str q.1) wr (by simp [str, ByteArray.size]; omega)).mono ?_
        rintro e w3 ⟨rfl, hb3⟩
        have hgl3 : gl < wr.heap.size := Nat.lt_of_lt_of_le hgl hS.out.bel.size
        have hq3 := hq'.below hgl3 hb3
        have hS3 := hS.out.below hb3
        have hmi : ∀ t ∈ q.2.terms, t.name ∈ nmsOf l := fun t ht => List.mem_flatMap.2 ⟨q, List.mem_of_getElem? hq, List.mem_map.2 ⟨t, ht, rfl⟩⟩
        refine ⟨rfl, by rw [htl]; exact hq3.terms, hq3.const, ?_⟩
        have hput := put_any (svF l ((walkL l).order.take k)) q.2 (nmsOf l) hSH.out hSnH.out hqc hmi (svF_can l _) va vc (g + 1) k w3 hq3.lies hS3.lin
        rw [← htl] at hput
        refine hput.mono ?_
        rintro e w4 ⟨hb4, u, rfl, ho⟩
        obtain ⟨a4, c4, rfl⟩ := own_slice ho
        have hb34 : Below wr.heap.size wr w4 := hb3.trans (hb4.mono hb3.size)
        obtain ⟨f, m1, m2, m3, m4, m5⟩ := hS.out.mid (e := putN (svF l ((walkL l).order.take k)) q.2) hil hb34 hb3.size ho
        rw [hnmi] at m1 m3 m4
        obtain ⟨w5, r1, r2, r3⟩ := lnput_run m1 (by omega) q.1 ⟨a4, (putN (svF l ((walkL l).order.take k)) q.2).terms.length, c4, (putN (svF l ((walkL l).order.take k)) q.2).const⟩ hqn
        have hst := hS.out.step hndH.out (fun j hj => (hord.out.2 j).1 hj) hki hni (x := ⟨a4, (putN (svF l ((walkL l).order.take k)) q.2).terms.length, c4, (putN (svF l ((walkL l).order.take k)) q.2).const⟩) (e := putN (svF l ((walkL l).order.take k)) q.2) (by rw [hexi]) hb34 hb3.size rfl ho m2 (w5 := w5) (by rw [hnmi]; exact r2) (by rw [hnmi]; exact r3)
        exact ⟨a4, _, c4, _, w5, rfl, (m5 0 (by omega)).1, (m5 1 (by omega)).1, (m5 2 (by omega)).1, (m5 0 (by omega)).2, (m5 1 (by omega)).2, (m5 2 (by omega)).2, m3, m4, r1, hst⟩
      have hil2 : i < n0 := by rw [hH.out]; exact hil
      have hnn := hnH.out
      have hnoH : Hid ((walkL l).order.length = no) := hnH.out.symm
      clear hq' hqa hq hnmi hexi hqc hni hki hkl hS htl hnn
      go_wp2_with (first
        | (go_at_call 29; (with_reducible refine (hcl.out).mono ?_); rintro e w3 ⟨rfl, q1, q2, h30⟩)
        | (go_at_call 30; (with_reducible refine (h30.out).mono ?_); rintro e w4 ⟨a4, n4, c4, k4, w5, rfl, f0, f1, f2, ⟨u0, u1⟩, ⟨u2, u3⟩, ⟨u4, u5⟩, s1, s2, hrun, hS5⟩))
      all_goals first | omega | skip
      go_roundw
      case rel => exact ⟨k + 1, _, by omega, by go_num, hS5⟩
      case measure => simp [intOf]; omega
    · obtain rfl : k = no := by omega
      have hfin : Hid (SolO w l g v wr) := by
        have htk : (walkL l).order.take k = (walkL l).order := by rw [hnH.out, List.take_length]
        have hS := hS.out
        obtain ⟨s1, s2, s3, s4, s5, s6, s7, s8⟩ := hS
        rw [htk] at s3 s4 s5
        refine ⟨s1, ?_, fun j hj => s4 j ((hord.out.2 j).2 hj), fun i hi j hj => s5 i ((hord.out.2 i).2 hi) j ((hord.out.2 j).2 hj), s7⟩
        obtain ⟨cur, c1, c2, c3⟩ := s3
        exact ⟨cur, c1, c2, fun j hj _ => c3 j hj ((hord.out.2 j).2 hj)⟩
      have hnl0 := hH.out
      go_wp2_with fail
      all_goals first | omega | skip
      refine bodyPost_ret (by simp [results, Try.results8, go_sem]; try rfl) rfl ?_
      exact ⟨g, v, rfl, hfin.out⟩
end Go.Proofs.Ytebbbefknfldoaa
/- equ.Solve, of equs some of which come back. -/
namespace Go.Proofs.Ytebbbefknfldoaa
open Go.ChangeShapes Go.WideShapes Go.ChangeAt Go.RowKit Go.Sort Go.Maps
set_option linter.unusedVariables false
set_option linter.unusedSimpArgs false
set_option maxRecDepth 100000
theorem size_pos {w : World} {b n : Nat} {D : DataW Unit} (hown : w.ownsMap Try.prog 9 intE b n D) {x : List UInt8} (h : has D (.string x) = true) : 0 < size D := by
  obtain ⟨es, hD, _⟩ := hown.entries lawS
  subst hD
  rw [Maps.size_eq]
  cases es with
  | nil => cases h
  | cons a l => simp
theorem intE_val {c : Int} {y : DataW Unit × List MemPlace} (h : intE (.int .i64 c) = some y) : y.1 = .lit (.int .i64 c) := by
  rw [intE_mk] at h
  cases h
  rfl
def FirstC (l : List Eqv) (m : Nat) : Prop := m < l.length ∧ Ta.Cyc (adjF l) m ∧ ∀ i, i < l.length → Ta.Cyc (adjF l) i → m ≤ i
structure MSt (w : World) (l : List Eqv) (B r nb : Nat) (D : DataW Unit) (m : Nat) (left : Lit → Bool) (cnt : Nat) (wr : World) : Prop where
  rg : wr.ranges Try.prog 9 intE B r nb D left cnt
  bel : Below w.heap.size w wr
  lo : ∀ i, i < l.length → Ta.Cyc (adjF l) i → left (.string (nmOf l i)) = false → m ≤ i
  at_ : m = l.length ∨ (m < l.length ∧ Ta.Cyc (adjF l) m)
  ge : w.heap.size ≤ r
theorem MSt.step {w : World} {l : List Eqv} {B r nb : Nat} {D : DataW Unit} {m : Nat} {left : Lit → Bool} {cnt cnt2 : Nat} {wr w2 : World} (h : MSt w l B r nb D m left cnt wr) (hnd : (l.map (·.1)).Nodup) {i : Nat} (hi : i < l.length) (hc : Ta.Cyc (adjF l) i) (hrg : w2.ranges Try.prog 9 intE B r nb D (fun z => left z && !z.sameKey (.string (nmOf l i))) cnt2) (hg : wr.grownBy w2 (some r)) : MSt w l B r nb D (min m i) (fun z => left z && !z.sameKey (.string (nmOf l i))) cnt2 w2 := by
  refine ⟨hrg, h.bel.grown hg h.bel.size (fun g e => by cases e; exact h.ge), fun j hj hjc hl => ?_, ?_, h.ge⟩
  · by_cases hji : j = i
    · subst hji; exact Nat.min_le_right _ _
    · have hne : nmOf l j ≠ nmOf l i := fun e => hji (nm_inj hnd hj hi e)
      have : left (.string (nmOf l j)) = false := by
        simp [Lit.sameKey, hne] at hl
        exact hl
      exact Nat.le_trans (Nat.min_le_left _ _) (h.lo j hj hjc this)
  · rcases Nat.le_total m i with h1 | h1
    · rw [Nat.min_eq_left h1]; exact h.at_
    · rw [Nat.min_eq_right h1]; exact .inr ⟨hi, hc⟩
set_option maxHeartbeats 16000000 in
theorem solve_bad (l : List Eqv) (la : Option Addr) (lc : Nat) (hl : l.length ≤ 1000) (hnd : (l.map (·.1)).Nodup) (hheld : ∀ q ∈ l, q.1.length ≤ 140737488355328 ∧ q.2.terms.length ≤ 4400000 ∧ ∀ t ∈ q.2.terms, t.name.length ≤ 140737488355328) (hback : ∃ x, CycN l x) (w : World) (hE : EqIn w la l) :
    Calls Try.prog 8 #[.slice la l.length lc] w fun e w' => ∃ m : Nat, e = .returned (.tuple #[.slice none 0 0, .int .i64 (m : Int), .int .i64 24]) ∧ FirstC l m ∧ Below w.heap.size w w' := by
  have h28 := Hid.intro (walk_mem l la lc hl hnd hheld w hE)
  have hbk := Hid.intro (back_has hnd (Nat.lt_of_le_of_lt hl (by decide)))
  have hbv : Hid (∀ i, i < l.length → Ta.Cyc (adjF l) i → backF l (walkL l).back (nmOf l i) = some (i : Int)) := fun i hi hc => by
    cases hb : backF l (walkL l).back (nmOf l i) with
    | none =>
      have := (back_has hnd (Nat.lt_of_le_of_lt hl (by decide)) (nmOf l i)).2 ⟨i, hi, hc, rfl⟩
      rw [hb] at this; cases this
    | some z =>
      obtain ⟨k, hk, rfl, hn⟩ := backF_some l _ _ z hb
      have hkl := ((walk_right hnd (Nat.lt_of_le_of_lt hl (by decide))).2.1 k).1 hk
      rw [nm_inj hnd hkl.1 hi hn]
  obtain ⟨n0, hn0⟩ : ∃ n0, n0 = l.length := ⟨_, rfl⟩
  have hH := Hid.intro hn0
  have hl2 : n0 ≤ 1000 := by omega
  rw [← hn0] at h28 ⊢
  have hndH := Hid.intro hnd
  have hbackH := Hid.intro hback
  clear hl hnd hheld hE hback hn0
  go_enter Try.func8, Try.ntmps8
  go_wp2_with (first
    | (go_at_call 28; (with_reducible refine (h28.out).mono ?_); rintro e w1 ⟨ao, no, co, B, nb, hn, rfl, hW⟩; obtain ⟨D, hown, hD1, hD2⟩ := hW.map; have hz := hown.len Try.underlying66 3; have hkey : Hid (∀ x, has D (.string x) = true ↔ CycN l x) := (fun x => by rw [(hD2 x).1]; exact hbk.out x); have hpos : 0 < size D := (by obtain ⟨x, hx⟩ := hbackH.out; exact size_pos hown ((hkey.out x).2 hx)); have hWH := Hid.intro hW; have hDH := Hid.intro hD2; clear hW hn hD1 hD2)
    | (at_range; refine wpList_range_own _ rfl _ 66 rfl 9 3 lawS Try.underlying66 intE B nb D rfl hown ?_; intro w2 hrg hg2 hs2))
  all_goals first | omega | skip
  go_frame
  have hS0 : Hid (MSt w l B w1.heap.size nb D n0 (has D) (size D) w2) := by
    have hb2 : Below w1.heap.size w1 w2 := ⟨hg2.os, hg2.tape, hg2.output, hg2.size, fun k hk => hg2.block k hk (by simp)⟩
    exact ⟨hrg, hWH.out.bel.trans (hb2.mono hWH.out.bel.size), fun i hi hc h => (by rw [(hkey.out _).2 ⟨i, hi, hc, rfl⟩] at h; cases h), .inl hH.out, hWH.out.bel.size⟩
  generalize hr : w1.heap.size = r at *
  have hno : Hid (no = no) := rfl
  clear hown hz hpos hWH h28 hbk hrg hg2 hs2 hr
  go_loopw [7] (fun v7 wr => ∃ (left : Lit → Bool) (cnt m : Nat), v7 = .int .i64 (m : Int) ∧ MSt w l B r nb D m left cnt wr) (fun _ wr => wr.rangeLeft B r)
  case atStart => exact ⟨_, _, _, rfl, hS0.out⟩
  case round =>
    obtain ⟨left, cnt, m, rfl, hC⟩ := hrel
    clear hS0
    have hrg := hC.rg
    have hCH := Hid.intro hC
    have hm1 : m ≤ 1000 := by
      have h0 := hH.out
      rcases hC.at_ with h | h <;> omega
    clear hC
    go_wp2_with (at_next; refine wpList_next_ranges _ rfl _ rfl 9 lawS intE encStr (Value.int .i64) (fun key kl hk => by obtain ⟨x, hx, _⟩ := Maps.keyOf_str Try.underlying9 hk; exact ⟨x, hx⟩) (fun v y hv => by unfold intE at hv; split at hv; exact ⟨_, rfl⟩; cases hv) B r nb D left cnt rfl hrg ?_ ?_)
    · intro _ hl0
      have hfin : Hid (FirstC l m ∧ RowKit.Below w.heap.size w wr) := by
        refine ⟨?_, hCH.out.bel⟩
        rcases hCH.out.at_ with h | ⟨h1, h2⟩
        · obtain ⟨x, i, hi, hc, _⟩ := hbackH.out
          have := hCH.out.lo i hi hc (hl0 _)
          omega
        · exact ⟨h1, h2, fun i hi hc => hCH.out.lo i hi hc (hl0 _)⟩
      clear hrg hl0
      go_wp2_with fail
      all_goals first | omega | skip
      refine bodyPost_ret (by simp [results, Try.results8, go_sem]; try rfl) rfl ?_
      exact ⟨m, rfl, hfin.out.1, hfin.out.2⟩
    · intro x c1 kl yd yp w2 cnt2 hkey2 hlk hv hat hrg2 hlt hg2 hs2 hen
      obtain ⟨x', ex, rfl, _⟩ := Maps.keyOf_str Try.underlying9 hkey2
      obtain rfl : x = x' := encStr_inj ex
      obtain ⟨i, hi, hc, rfl⟩ := (hkey.out x).1 (has_true_of_atKey hat)
      have hci : c1 = (i : Int) := by
        have h1 := (hDH.out (nmOf l i)).2 _ (hbv.out i hi hc) (.nil)
        rw [hat] at h1
        have h2 := intE_val hv
        dsimp only at h2
        rw [h2] at h1
        simpa using h1
      subst hci
      have hS2 := Hid.intro (hCH.out.step hndH.out hi hc hrg2 hg2)
      have hi1 : i ≤ 1000 := by have := hH.out; omega
      have hle2 : Hid (wr.rangeLeft B r = cnt) := hCH.out.rg.left_eq
      have hltH := Hid.intro hlt
      clear hs2 hkey2 hv hat hrg2 hrg hlk hg2 hlt hi hc
      go_wp2_with fail
      all_goals first | omega | skip
      go_roundw
      case rel => exact ⟨_, _, min m i, by first | rfl | (congr 1; omega) | (simp; omega), hS2.out⟩
      case measure => rw [hS2.out.rg.left_eq, hle2.out]; exact hltH.out
end Go.Proofs.Ytebbbefknfldoaa
/- slices.Equal at terms; expr.Same and the document's. -/
namespace Go.Proofs.Ytebbbefknfldoaa
open Go.ChangeShapes Go.WideShapes Go.ChangeAt Go.RowKit
set_option linter.unusedVariables false
set_option maxRecDepth 100000
theorem tm_ne {t u : Tm} (h : t ≠ u) : (t.name ≠ u.name) ∨ (t.name = u.name ∧ t.coef ≠ u.coef) := by
  by_cases hn : t.name = u.name
  · refine .inr ⟨hn, fun hc => h ?_⟩
    cases t; cases u; simp_all
  · exact .inl hn
theorem list_ne {α : Type} {xs ys : List α} {k : Nat} {t u : α} (h1 : xs[k]? = some t) (h2 : ys[k]? = some u) (h : t ≠ u) : xs ≠ ys := by
  intro e
  subst e
  rw [h1] at h2
  cases h2
  exact h rfl
theorem list_eq {α : Type} {xs ys : List α} (hl : xs.length = ys.length) (h : xs.take xs.length = ys.take xs.length) : xs = ys := by
  rw [List.take_length, hl, List.take_length] at h
  exact h
theorem below_drewN {B : Nat} {a w : World} (h : Below B a w) (n : Nat) : Below B a (w.drewN n) := ⟨h.os, h.tape, h.output, h.size, h.block⟩
def sameL (xs ys : List Tm) (k1 k2 : Int) : Bool := decide (k1 = k2) && decide (xs = ys)
set_option maxHeartbeats 1000000 in
theorem refSame_any (a1 a2 : Option Addr) (c1 c2 : Nat) (xs ys : List Tm) (k1 k2 : Int) (w : World) (h1 : TmLies w a1 xs) (h2 : TmLies w a2 ys) (hm : xs.length ≤ 9000000) (hm2 : ys.length ≤ 9000000) :
    Calls Try.prog 11 #[linV (.slice a1 xs.length c1) k1, linV (.slice a2 ys.length c2) k2] w fun e w' => e = .returned (.bool (sameL xs ys k1 k2)) ∧ Below w.heap.size w w' := by
  have hb0 := fun o1 o2 => ((below_alloc w o1).alloc (by simp) o2)
  obtain ⟨n0, hn0⟩ : ∃ n0, n0 = xs.length := ⟨_, rfl⟩
  obtain ⟨n1, hn1⟩ : ∃ n1, n1 = ys.length := ⟨_, rfl⟩
  obtain ⟨bv, hbv⟩ : ∃ bv, bv = sameL xs ys k1 k2 := ⟨_, rfl⟩
  rw [← hn0, ← hn1, ← hbv]
  rw [← hn0] at hm
  rw [← hn1] at hm2
  have hnH := Hid.intro hn0
  have hn1H := Hid.intro hn1
  by_cases hk : k1 = k2
  · have hk' : (k1 != k2) = false := by simp [hk]
    have hbH : Hid (bv = decide (xs = ys)) := by show bv = _; rw [hbv, sameL, hk]; simp
    clear hbv hk
    by_cases hl : n0 = n1
    · subst hl
      have t1 := (two_new w 29 (.slice a1 n0 c1) (.int .u32 k1)).alloc (.cells #[.slice a2 n0 c2, .int .u32 k2] 29)
      have t2 := two_new (w.alloc (.cells #[.slice a1 n0 c1, .int .u32 k1] 29)) 29 (.slice a2 n0 c2) (.int .u32 k2)
      have hbb := hb0 (.cells #[.slice a1 n0 c1, .int .u32 k1] 29) (.cells #[.slice a2 n0 c2, .int .u32 k2] 29)
      simp only [World.size_alloc] at t2
      clear hn0 hn1 hb0
      go_enter Try.func11, Try.ntmps11
      go_wp2
      all_goals first | omega | skip
      have h1' := Hid.intro (h1.below hbb (Nat.le_refl _))
      have h2' := Hid.intro (h2.below hbb (Nat.le_refl _))
      clear h1 h2
      generalize ((w.alloc (.cells #[.slice a1 n0 c1, .int .u32 k1] 29)).alloc (.cells #[.slice a2 n0 c2, .int .u32 k2] 29)) = w0 at *
      obtain ⟨_, x0, x1, _, _⟩ := t1
      obtain ⟨_, y0, y1, _, _⟩ := t2
      go_loopw [5] (fun i wr => ∃ k n : Nat, k ≤ n0 ∧ i = .int .i64 k ∧ wr = w0.drewN n ∧ Hid (xs.take k = ys.take k)) (fun i _ => n0 - (intOf i).toNat)
      case atStart => exact ⟨0, 0, Nat.zero_le _, rfl, rfl, rfl⟩
      case round =>
        obtain ⟨k, n, hk, rfl, rfl, heq⟩ := hrel
        have x0' : (w0.drewN n).cell? ⟨w.heap.size, 0, none⟩ = some (.slice a1 n0 c1) := x0
        have y0' : (w0.drewN n).cell? ⟨w.heap.size + 1, 0, none⟩ = some (.slice a2 n0 c2) := y0
        by_cases hlt : k < n0
        · obtain ⟨t, ht⟩ : ∃ t, xs[k]? = some t := ⟨xs[k]'(by rw [← hnH.out]; exact hlt), List.getElem?_eq_getElem _⟩
          obtain ⟨u, hu⟩ : ∃ u, ys[k]? = some u := ⟨ys[k]'(by rw [← hn1H.out]; exact hlt), List.getElem?_eq_getElem _⟩
          rcases h1'.out with hx | ⟨g1, o1, rfl, _, hc1⟩
          · rw [hx] at ht; simp at ht
          rcases h2'.out with hx | ⟨g2, o2, rfl, _, hc2⟩
          · rw [hx] at hu; simp at hu
          obtain ⟨q0, q1⟩ := hc1 k t ht
          obtain ⟨p0, p1⟩ := hc2 k u hu
          clear hc1 hc2
          by_cases htu : t = u
          · subst htu
            have hnext : Hid (xs.take (k + 1) = ys.take (k + 1)) := by
              show _ = _
              rw [take_at xs k t ht, take_at ys k t hu, heq.out]
            clear ht hu
            go_wp2
            go_quiet (fail)
            go_wp2
            all_goals first
              | omega
              | skip
            go_roundw
            case rel => exact ⟨k + 1, n + nq, by omega, by go_num, by simp, hnext⟩
            case measure => simp [intOf]; omega
          · have hf : bv = false := by rw [hbH.out]; exact decide_eq_false (list_ne ht hu htu)
            subst hf
            clear ht hu
            rcases tm_ne htu with hne | ⟨hne, hce⟩
            · have e1 : ((str t.name).toList == (str u.name).toList) = false := by rw [str_toList, str_toList]; simp [hne]
              clear htu hne
              go_wp2
              go_quiet (fail)
              go_wp2
              all_goals first
                | omega
                | skip
              go_ret
              exact ⟨rfl, below_drewN (below_drewN hbb _) _⟩
            · have e1 : ((str t.name).toList == (str u.name).toList) = true := by rw [hne]; simp
              have e2 : (t.coef == u.coef) = false := by simp [hce]
              clear htu hne hce
              go_wp2
              go_quiet (fail)
              go_wp2
              all_goals first
                | omega
                | skip
              go_ret
              exact ⟨rfl, below_drewN (below_drewN hbb _) _⟩
        · have ht : bv = true := by
            rw [hbH.out]
            have e : k = xs.length := by rw [← hnH.out]; omega
            exact decide_eq_true (list_eq (by rw [← hnH.out, hn1H.out]) (by have := heq.out; rwa [e] at this))
          subst ht
          go_wp2
          all_goals first
            | omega
            | skip
          go_ret
          exact ⟨rfl, below_drewN hbb _⟩
    · have hne : xs ≠ ys := fun e => hl (by rw [hn0, hn1, e])
      have hf : bv = false := by rw [hbH.out]; exact decide_eq_false hne
      subst hf
      have hne2 : ((n0 : Int) != (n1 : Int)) = true := by simp; omega
      clear hne hl hn0 hn1
      go_enter Try.func11, Try.ntmps11
      go_wp2
      all_goals first
        | omega
        | skip
      go_ret
      exact ⟨rfl, hb0 _ _⟩
  · have hk' : (k1 != k2) = true := by simp [hk]
    have hf : bv = false := by rw [hbv, sameL]; simp [hk]
    subst hf
    clear hbv hk hn0 hn1
    go_enter Try.func11, Try.ntmps11
    go_wp2
    go_ret
    exact ⟨rfl, hb0 _ _⟩
end Go.Proofs.Ytebbbefknfldoaa
namespace Go.Proofs.Ytebbbefknfldoaa
open Go.ChangeShapes Go.WideShapes Go.ChangeAt Go.RowKit
set_option linter.unusedVariables false
set_option maxRecDepth 100000
structure BelowOf (w : World) where
  wd : World
  h : Below w.heap.size w wd
instance {w : World} : Inhabited (BelowOf w) := ⟨⟨w, Below.refl _ _⟩⟩
theorem BelowOf.cell {w : World} (p : BelowOf w) {a : Addr} {v : Value} (ha : a.block < w.heap.size) (h : w.cell? a = some v) : p.wd.cell? a = some v := by rw [p.h.cell ha]; exact h
theorem wp_region_quiet_below {P : Program} {id : Nat} {Q : Exit → Act → World → Prop} {a : Act} {w : World} {l : List Oper} (hm : P.follows .mixedOrders = true) (hB : Region.lexB .any l.toArray = true)
    (h : wpQuiet P l.toArray (fun w' => ∃ p : BelowOf w, w' = p.wd) (fun a' => ∀ w', (∃ p : BelowOf w, w' = p.wd) → Q .normal a' w') l a) : (Code.region id l.toArray true).wp P Q a w :=
  wp_region_quiet (C := fun w' => ∃ p : BelowOf w, w' = p.wd) hm hB ⟨⟨w.drew, (Below.refl _ _).drew⟩, rfl⟩ (by simpa using h)
theorem wpQuiet_skip {P : Program} {ops : Array Oper} {C : World → Prop} {Q : Act → Prop} {a : Act} {o : Oper} {rest : List Oper} (h : Region.wanted o (yielded ops a.tmps) = false) (k : wpQuiet P ops C Q rest (a.put o.dst undef)) : wpQuiet P ops C Q (o :: rest) a := by
  unfold wpQuiet
  rw [if_neg (by rw [h]; decide)]
  exact k
theorem below_calls {P : Program} {f : FuncId} {args : Array Value} {w : World} {p : BelowOf w} {v : Value}
    (h : Calls P f args p.wd fun e w' => e = .returned v ∧ Below p.wd.heap.size p.wd w') : Calls P f args p.wd fun e w'' => e = .returned v ∧ ∃ p' : BelowOf w, w'' = p'.wd :=
  h.mono fun _ w' ⟨he, hb⟩ => ⟨he, ⟨w', p.h.trans (hb.mono p.h.size)⟩, rfl⟩
end Go.Proofs.Ytebbbefknfldoaa

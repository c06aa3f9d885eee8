/- expr.Of, Named, Times. -/
import Derived.Test.YtijdjljnppkhmabDoorTmMem
namespace Go.Proofs.YtijdjljnppkhmabDoor
open Go.ChangeShapes Go.WideShapes Go.ChangeAt Go.RowKit
set_option linter.unusedVariables false
set_option maxRecDepth 100000

theorem of_any (n : Int) (w : World) :
    Calls Tryd.prog 66 #[.int .u32 n] w fun e w' => e = .returned (linV (.slice none 0 0) n) ∧ Below w.heap.size w w' := by
  go_enter Tryd.func66, Tryd.ntmps66
  go_wp2
  obtain ⟨hh, z0, z1, _, _⟩ := two_new w 25 (.slice none 0 0) (.int .u32 n)
  have hb := below_alloc w (.cells #[.slice none 0 0, .int .u32 n] 25)
  generalize w.alloc (.cells #[.slice none 0 0, .int .u32 n] 25) = w1 at *
  refine bodyPost_ret (by simp [results, Tryd.results66, go_sem, z0, z1]; try rfl) rfl ?_
  exact ⟨rfl, hb⟩

theorem named_any (s : ByteArray) (hs : s.size ≤ 1100000) (w : World) :
    Calls Tryd.prog 12 #[.string s] w fun e w' => Below w.heap.size w w' ∧ ∃ v, e = .returned (linV v 0) ∧ w'.ownsRow w.heap.size 30 2 v 1 [.string s, .int .u32 1] := by
  go_enter Tryd.func12, Tryd.ntmps12
  go_wp2_with (go_at_call 25; refine (clone_any _ _ (by omega)).mono ?_; rintro e w' ⟨rfl, hb⟩; have h2 := two_below hb; have k0 := h2.a0; have k1 := h2.a1; have k2 := h2.b0; have k3 := h2.b1; replace h2 := Hid.intro h2)
  have hlt := alloc_lt hb
  have hown := own_new w' (w.heap.size + 1) (by omega) #[.string s, .int .u32 1] 1 30 2 rfl (by omega) (by omega)
  obtain ⟨s1, s2⟩ := two_set (h2.out.alloc (.cells #[.string s, .int .u32 1] 30)).heap rfl (.slice (some ⟨w'.heap.size, 0, none⟩) 1 1) (.int .u32 0)
  have hb2 : Below w.heap.size w (((w'.alloc (.cells #[.string s, .int .u32 1] 30)).setCell ⟨w.heap.size, 0, none⟩ (.slice (some ⟨w'.heap.size, 0, none⟩) 1 1)).setCell ⟨w.heap.size, 1, none⟩ (.int .u32 0)) :=
    ((one_below hb).alloc (by omega) _).grown s2 (by simp; omega) (fun k hk => by cases hk; exact Nat.le_refl _)
  generalize (((w'.alloc (.cells #[.string s, .int .u32 1] 30)).setCell ⟨w.heap.size, 0, none⟩ (.slice (some ⟨w'.heap.size, 0, none⟩) 1 1)).setCell ⟨w.heap.size, 1, none⟩ (.int .u32 0)) = w3 at s1 s2 hb2 ⊢
  obtain ⟨_, z0, z1, _, _⟩ := s1
  refine bodyPost_ret (by simp [results, Tryd.results12, go_sem, z0, z1]; try rfl) rfl ?_
  exact ⟨hb2, _, rfl, own_weaken (own_low hown s2 (by omega)) (by omega)⟩

/-- where Times stands -/
structure TSt (w : World) (ts : List Tm) (n k : Int) (i : Nat) (v : Value) (wr : World) : Prop where
  le : i ≤ ts.length
  res : Two wr (w.heap.size + 1) 25 (.slice none 0 0) (.int .u32 0)
  out : Two wr (w.heap.size + 1 + 1) 25 v (.int .u32 (k * n % 4294967296))
  own : wr.ownsRow (w.heap.size + 1 + 1 + 1) 30 2 v (timesT (ts.take i) n).length (rowT (timesT (ts.take i) n))
  bel : Below w.heap.size w wr
  size : w.heap.size + 1 + 1 + 1 ≤ wr.heap.size

theorem take_at {α : Type} (ts : List α) (i : Nat) (t : α) (h : ts[i]? = some t) : ts.take (i + 1) = ts.take i ++ [t] := by
  obtain ⟨hi, he⟩ := List.getElem?_eq_some_iff.1 h
  rw [List.take_add_one, h]
  rfl

theorem times_next {w : World} {ts : List Tm} {n k : Int} {i L c1 : Nat} {a1 : Option Addr} {wr : World} (h : TSt w ts n k i (.slice a1 L c1) wr) (t : Tm) (ht : ts[i]? = some t) :
    (t.coef * n % 4294967296 = 0 → ∀ o, TSt w ts n k (i + 1) (.slice a1 L c1) (wr.alloc o)) ∧
    (t.coef * n % 4294967296 ≠ 0 → ∀ o o2 v2 w3 w4, w3.ownsRow (w.heap.size + 1 + 1 + 1) 30 2 v2 (L + 1) (rowT (timesT (ts.take i) n) ++ [.string (str t.name), .int .u32 (t.coef * n % 4294967296)]) → ((wr.alloc o).alloc o2).grownBy w3 (Value.slice a1 L c1).ownBlock → w4 = w3.setCell ⟨w.heap.size + 1 + 1, 0, none⟩ v2 → TSt w ts n k (i + 1) v2 w4) := by
  have hi := (List.getElem?_eq_some_iff.1 ht).1
  have hsz := h.size
  have htk : timesT (ts.take (i + 1)) n = timesT (ts.take i) n ++ emit t.name (t.coef * n % 4294967296) [] := by
    rw [take_at ts i t ht, timesT_append, timesT_cons, timesT_nil]
  constructor
  · intro hz o
    refine ⟨by omega, h.res.alloc o, h.out.alloc o, ?_, h.bel.alloc (by omega) o, by simp; omega⟩
    rw [htk, emit, if_pos hz, List.append_nil]
    exact h.own.alloc o
  · intro hz o o2 v2 w3 w4 hown hg hw4
    subst hw4
    have hnb : (Value.slice a1 L c1).ownBlock ≠ some (w.heap.size + 1) := fun e => by have := (h.own.lt _ e).1; omega
    have hnb2 : (Value.slice a1 L c1).ownBlock ≠ some (w.heap.size + 1 + 1) := fun e => by have := (h.own.lt _ e).1; omega
    have hr := ((h.res.alloc o).alloc o2).grown hg hnb
    have ho := ((h.out.alloc o).alloc o2).grown hg hnb2
    obtain ⟨s1, s2⟩ := two_put ho v2
    have hs3 := hg.size
    simp at hs3
    refine ⟨by omega, hr.grown s2 (by simp), s1, ?_, ?_, ?_⟩
    · rw [htk, emit, if_neg hz, rowT_push, List.length_append]
      refine own_low ?_ s2 (by omega)
      have hL : (timesT (ts.take i) n).length = L := by
        have h1 := h.own.1
        have h2 := own_slice h.own
        obtain ⟨a', c', h2⟩ := h2
        injection h2 with _ h2 _
        exact h2.symm
      rw [hL]
      exact hown
    · refine Below.grown ?_ s2 (by omega) (fun j hj => by cases hj; omega)
      exact ((h.bel.alloc (by omega) o).alloc (by simp; omega) o2).grown hg (by simp; omega) (fun j hj => by have := (h.own.lt _ hj).1; omega)
    · have := s2.size
      omega

set_option maxHeartbeats 2000000 in
theorem times_any (a : Option Addr) (c : Nat) (ts : List Tm) (k n : Int) (hl : ts.length ≤ 4400000) (w : World) (hT : TmLies w a ts) :
    Calls Tryd.prog 11 #[linV (.slice a ts.length c) k, .int .u32 n] w fun e w' => Below w.heap.size w w' ∧ ∃ v, e = .returned (linV v (k * n % 4294967296)) ∧ w'.ownsRow w.heap.size 30 2 v (timesT ts n).length (rowT (timesT ts n)) := by
  obtain ⟨n0, hn0⟩ : ∃ n0, n0 = ts.length := ⟨_, rfl⟩
  rw [← hn0] at hl ⊢
  have hTH := Hid.intro hT
  have hnH := Hid.intro hn0
  clear hT hn0
  obtain ⟨i0, hi, hz0, hz1, hz2⟩ := info_parts Tryd.info30
  go_enter Tryd.func11, Tryd.ntmps11
  go_wp2
  go_loopw [16] (fun vi wr => ∃ (i : Nat) (v : Value), vi = .int .i64 (i : Int) ∧ Hid (TSt w ts n k i v wr)) (fun vi _ => n0 - (intOf vi).toNat)
  case atStart =>
    refine ⟨0, .slice none 0 0, rfl, ⟨Nat.zero_le _, ?_, ?_, World.ownsRow_nil _ _ _ _, ?_, by simp⟩⟩
    · have := (two_new (w.alloc (.cells #[.slice a n0 c, .int .u32 k] 25)) 25 (.slice none 0 0) (.int .u32 0)).alloc (.cells #[.slice none 0 0, .int .u32 (k * n % 4294967296)] 25)
      simpa using this
    · have := two_new ((w.alloc (.cells #[.slice a n0 c, .int .u32 k] 25)).alloc (.cells #[.slice none 0 0, .int .u32 0] 25)) 25 (.slice none 0 0) (.int .u32 (k * n % 4294967296))
      simpa using this
    · exact (((below_alloc w _).alloc (by simp) _).alloc (by simp; omega) _)
  case round =>
    obtain ⟨i, v, rfl, hS⟩ := hrel
    have hle := hS.out.le
    rw [← hnH.out] at hle
    obtain ⟨a1, c1, rfl⟩ := own_slice hS.out.own
    obtain ⟨L, hL⟩ : ∃ L, L = (timesT (ts.take i) n).length := ⟨_, rfl⟩
    have hown := hS.out.own
    rw [← hL] at hown hS
    have hLl : L ≤ 4400000 := by
      rw [hL]
      have := times_len (ts.take i) n
      rw [List.length_take] at this
      omega
    have hownH := Hid.intro hown
    have hLH := Hid.intro hL
    clear hown hL
    have hsz := hS.out.size
    by_cases hlt : i < n0
    · obtain ⟨t, ht⟩ : ∃ t, ts[i]? = some t := ⟨ts[i]'(by rw [← hnH.out]; exact hlt), List.getElem?_eq_getElem _⟩
      have htH := Hid.intro ht
      clear ht
      rcases hTH.out with hx | ⟨g, o, rfl, hg, hT⟩
      · rw [hx] at hnH; have := hnH.out; simp at this; omega
      have hgr : g < wr.heap.size := Nat.lt_of_lt_of_le hg hS.out.bel.size
      obtain ⟨q0, q1⟩ := (hT i t htH.out).below hS.out.bel hg
      clear hT
      have hnext := Hid.intro (times_next hS.out t htH.out)
      obtain ⟨oh, o0, o1, of0, of1⟩ := hS.out.out
      have ho := Hid.intro (two_of oh)
      have oa0 := ho.out.a0
      have ob0 := ho.out.b0
      clear oh
      by_cases hz : t.coef * n % 4294967296 = 0
      · have hz' : (t.coef * n % 4294967296 != 0) = false := by simp [hz]
        go_wp2
        all_goals first | omega | skip
        go_roundw
        case rel => exact ⟨i + 1, .slice a1 L c1, by go_num, Hid.intro (hnext.out.1 hz _)⟩
        case measure => simp [intOf]; omega
      · have hz' : (t.coef * n % 4294967296 != 0) = true := by simp [hz]
        go_wp2_with (at_builtin; go_must (refine wpList_append_own_wide _ rfl (.tmp 29) (.tmp 31) 22 rfl (w.heap.size + 1 + 1 + 1) 30 i0 (.agg #[.string ⟨#[]⟩, .int .u32 0]) 2 24 Tryd.underlying22 hi hz0 hz1 hz2 rfl (by decide) (.slice a1 L c1) L _ rfl ((hownH.out.alloc _).alloc _) ⟨wr.heap.size + 1, 0, none⟩ 1 1 [.string (str t.name), .int .u32 (t.coef * n % 4294967296)] rfl rfl (cells_new2 _ _ _ _) (by simp [Value.oneCell']) (by unfold maxLen; omega) (by omega) (by simp; omega) ?_; intro v2 w3 hown3 hgrow3 _; obtain ⟨a2, c2, rfl⟩ := own_slice hown3; obtain ⟨_, p0, p1, pf0, pf1⟩ := (((ho.out.alloc _).alloc _).grown hgrow3 (fun e => by have := (hownH.out.lt _ e).1; omega))))
        all_goals first | omega | skip
        go_roundw
        case rel => exact ⟨i + 1, .slice a2 (L + 1) c2, by go_num, Hid.intro (hnext.out.2 hz _ _ _ w3 _ hown3 hgrow3 rfl)⟩
        case measure => simp [intOf]; omega
    · obtain ⟨oh, o0, o1, of0, of1⟩ := hS.out.out
      obtain ⟨rh, r0, r1, rf0, rf1⟩ := hS.out.res
      have rhH := Hid.intro rh
      clear rh oh
      go_wp2
      all_goals first | omega | skip
      have hin : i = ts.length := by rw [← hnH.out]; omega
      obtain ⟨s1, s2⟩ := two_set rhH.out rfl (.slice a1 L c1) (.int .u32 (k * n % 4294967296))
      have hb2 : Below w.heap.size w ((wr.setCell ⟨w.heap.size + 1, 0, none⟩ (.slice a1 L c1)).setCell ⟨w.heap.size + 1, 1, none⟩ (.int .u32 (k * n % 4294967296))) := hS.out.bel.grown s2 (by omega) (fun j hj => by cases hj; omega)
      generalize ((wr.setCell ⟨w.heap.size + 1, 0, none⟩ (.slice a1 L c1)).setCell ⟨w.heap.size + 1, 1, none⟩ (.int .u32 (k * n % 4294967296))) = w3 at s1 s2 hb2 ⊢
      obtain ⟨_, z0, z1, _, _⟩ := s1
      refine bodyPost_ret (by simp [results, Tryd.results11, go_sem, z0, z1]; try rfl) rfl ?_
      refine ⟨hb2, _, rfl, ?_⟩
      have hown := own_weaken (own_low hS.out.own s2 (by omega)) (B := w.heap.size) (by omega)
      rw [hin, List.take_length] at hown
      exact hown
end Go.Proofs.YtijdjljnppkhmabDoor

/- equ.put's state in memory. -/
import Derived.Test.YtebbbefknfldoaaLinM
import Derived.Test.YtebbbefknfldoaaSortT
import Derived.Deep.RegionLaw
import Derived.Deep.DeepCutAuto
import Derived.Deep.DeepAppendWide
import Derived.Deep.QuietTactic
import Derived.BigQuiet
import Derived.WalkSmall
import Derived.WalkSpells
import Derived.Laws.Cover1
import Derived.Test.YtebbbefknfldoaaConcat
import Derived.Laws.Slices
import Derived.Test.YtebbbefknfldoaaRgL
import Derived.Maps.OwnSet
import Derived.Maps.OwnOps
/- The document's Add. -/
/- Two lists of terms, merged by name; for canonical lists that is their sum. -/
namespace Go.Proofs.Ytebbbefknfldoaa
set_option linter.unusedVariables false
def mrg : List Tm → List Tm → List Tm
  | [], ys => ys
  | x :: xs, [] => x :: xs
  | x :: xs, y :: ys =>
    if nlt x.name y.name = true then x :: mrg xs (y :: ys)
    else if nlt y.name x.name = true then y :: mrg (x :: xs) ys
    else emit x.name ((x.coef + y.coef) % 4294967296) (mrg xs ys)
termination_by xs ys => xs.length + ys.length
theorem mrg_nil (xs : List Tm) : mrg xs [] = xs := by cases xs <;> rw [mrg]
theorem nil_mrg (ys : List Tm) : mrg [] ys = ys := by rw [mrg]
theorem mrg_left {x y : Tm} {xs ys : List Tm} (h : nlt x.name y.name = true) : mrg (x :: xs) (y :: ys) = x :: mrg xs (y :: ys) := by rw [mrg, if_pos h]
theorem mrg_right {x y : Tm} {xs ys : List Tm} (h : nlt y.name x.name = true) : mrg (x :: xs) (y :: ys) = y :: mrg (x :: xs) ys := by
  rw [mrg, if_neg (by rw [nlt_asymm h]; decide), if_pos h]
theorem mrg_both {x y : Tm} {xs ys : List Tm} (h1 : nlt x.name y.name = false) (h2 : nlt y.name x.name = false) : mrg (x :: xs) (y :: ys) = emit x.name ((x.coef + y.coef) % 4294967296) (mrg xs ys) := by
  rw [mrg, if_neg (by rw [h1]; decide), if_neg (by rw [h2]; decide)]
theorem mem_emit2 {n : List UInt8} {c : Int} {l : List Tm} {t : Tm} (h : t ∈ emit n c l) : t = ⟨n, c⟩ ∧ c ≠ 0 ∨ t ∈ l := by
  unfold emit at h
  split at h
  · exact .inr h
  · rcases List.mem_cons.1 h with h | h
    · exact .inl ⟨h, by assumption⟩
    · exact .inr h
theorem mem_mrg {xs ys : List Tm} {t : Tm} (h : t ∈ mrg xs ys) : ∃ x, (x ∈ xs ∨ x ∈ ys) ∧ x.name = t.name := by
  fun_induction mrg xs ys with
  | case1 ys => exact ⟨t, .inr h, rfl⟩
  | case2 x xs => exact ⟨t, .inl h, rfl⟩
  | case3 x xs y ys h1 ih =>
    rcases List.mem_cons.1 h with rfl | h
    · exact ⟨t, .inl (by simp), rfl⟩
    · obtain ⟨z, hz, he⟩ := ih h
      exact ⟨z, hz.imp (fun q => by simp [q]) id, he⟩
  | case4 x xs y ys h1 h2 ih =>
    rcases List.mem_cons.1 h with rfl | h
    · exact ⟨t, .inr (by simp), rfl⟩
    · obtain ⟨z, hz, he⟩ := ih h
      exact ⟨z, hz.imp id (fun q => by simp [q]), he⟩
  | case5 x xs y ys h1 h2 ih =>
    rcases mem_emit2 h with ⟨rfl, _⟩ | h
    · exact ⟨x, .inl (by simp), rfl⟩
    · obtain ⟨z, hz, he⟩ := ih h
      exact ⟨z, hz.imp (fun q => by simp [q]) (fun q => by simp [q]), he⟩
theorem cf_emit2 (m n : List UInt8) (c : Int) (l : List Tm) : cfOf m (emit n c l) = (if n = m then c else 0) + cfOf m l := by
  unfold emit
  split
  · rename_i h
    subst h
    split <;> simp
  · rfl
theorem cf_mrg (n : List UInt8) (xs ys : List Tm) : cfOf n (mrg xs ys) % 4294967296 = (cfOf n xs + cfOf n ys) % 4294967296 := by
  fun_induction mrg xs ys with
  | case1 ys => simp [cfOf]
  | case2 x xs => simp [cfOf]
  | case3 x xs y ys h1 ih =>
    simp only [cfOf] at *
    omega
  | case4 x xs y ys h1 h2 ih =>
    simp only [cfOf] at *
    omega
  | case5 x xs y ys h1 h2 ih =>
    have he : x.name = y.name := by
      rcases nlt_tri x.name y.name with h | h | h
      · exact absurd h h1
      · exact h
      · exact absurd h h2
    rw [cf_emit2]
    simp only [cfOf, ← he]
    split <;> omega
theorem canon_mrg {xs ys : List Tm} (hx : Canon xs) (hy : Canon ys) : Canon (mrg xs ys) := by
  fun_induction mrg xs ys with
  | case1 ys => exact hy
  | case2 x xs => exact hx
  | case3 x xs y ys h1 ih =>
    have h := ih hx.tail hy
    refine ⟨List.pairwise_cons.2 ⟨fun t ht => ?_, h.rise⟩, fun t ht => ?_⟩
    · obtain ⟨z, hz, he⟩ := mem_mrg ht
      rw [← he]
      rcases hz with hz | hz
      · exact hx.head z hz
      · rcases List.mem_cons.1 hz with rfl | hz
        · exact h1
        · exact nlt_trans h1 (hy.head z hz)
    · rcases List.mem_cons.1 ht with rfl | ht
      · exact hx.some _ (by simp)
      · exact h.some t ht
  | case4 x xs y ys h1 h2 ih =>
    have h := ih hx hy.tail
    refine ⟨List.pairwise_cons.2 ⟨fun t ht => ?_, h.rise⟩, fun t ht => ?_⟩
    · obtain ⟨z, hz, he⟩ := mem_mrg ht
      rw [← he]
      rcases hz with hz | hz
      · rcases List.mem_cons.1 hz with rfl | hz
        · exact h2
        · exact nlt_trans h2 (hx.head z hz)
      · exact hy.head z hz
    · rcases List.mem_cons.1 ht with rfl | ht
      · exact hy.some _ (by simp)
      · exact h.some t ht
  | case5 x xs y ys h1 h2 ih =>
    have h := ih hx.tail hy.tail
    have he : x.name = y.name := by
      rcases nlt_tri x.name y.name with h | h | h
      · exact absurd h h1
      · exact h
      · exact absurd h h2
    unfold emit
    split
    · exact h
    · rename_i hz
      refine ⟨List.pairwise_cons.2 ⟨fun t ht => ?_, h.rise⟩, fun t ht => ?_⟩
      · obtain ⟨z, hz, he2⟩ := mem_mrg ht
        rw [← he2]
        rcases hz with hz | hz
        · exact hx.head z hz
        · rw [he]; exact hy.head z hz
      · rcases List.mem_cons.1 ht with rfl | ht
        · show 0 < (x.coef + y.coef) % 4294967296 ∧ _
          exact ⟨by omega, by show (x.coef + y.coef) % 4294967296 < _; omega⟩
        · exact h.some t ht
theorem mrg_add {xs ys : List Tm} (hx : Canon xs) (hy : Canon ys) : mrg xs ys = addT xs ys :=
  canon_unique (canon_mrg hx hy) (canon_add xs ys) fun n => by rw [cf_mrg, cf_add]
end Go.Proofs.Ytebbbefknfldoaa
/- The document's Times. -/
namespace Go.Proofs.Ytebbbefknfldoaa
open Go.ChangeShapes Go.WideShapes Go.ChangeAt Go.RowKit
set_option linter.unusedVariables false
set_option maxRecDepth 100000
theorem own_below' {w w' : World} {B : Nat} {e : TypeId} {size : Nat} {v : Value} {n : Nat} {xs : List Value} (h : w.ownsRow B e size v n xs) (hb : Below w.heap.size w w') : w'.ownsRow B e size v n xs := by
  obtain ⟨hl, h | ⟨g, cap, cur, hv, hbg, hg, r⟩⟩ := h
  · exact ⟨hl, .inl h⟩
  · exact ⟨hl, .inr ⟨g, cap, cur, hv, hbg, by rw [hb.block g (Array.getElem?_eq_some_iff.1 hg).1]; exact hg, r⟩⟩
theorem step_term {ops : Array Oper} {o : Oper} {a : Act} {K : Act → World → Prop} {Q : Exit → Act → World → Prop} {E : Prop} (w : World) (hgd : o.guard = none) (s x : Operand)
    (ho : o.op = .call { callee := .builtin .append, args := #[s, x], argTypes := #[26, 26] }) (base : Nat) (a1 : Option Addr) (L c1 : Nat) (zs : List Tm) (hs : a.eval s = .slice a1 L c1) (hown : w.ownsRow base 49 2 (.slice a1 L c1) L (rowT zs))
    (g : Nat) (t : Tm) (hx : a.eval x = .slice (some ⟨g, 0, none⟩) 1 1) (hc : ∀ j u, [Value.string (str t.name), .int .u32 t.coef][j]? = some u → w.cell? ((⟨g, 0, none⟩ : Addr).add j) = some u) (hm : L ≤ 4500000) (hbase : base ≤ w.heap.size)
    (hK : ∀ a' c' w', w'.ownsRow base 49 2 (.slice a' (L + 1) c') (L + 1) (rowT (zs ++ [t])) → w.grownBy w' (Value.slice a1 L c1).ownBlock → K (a.put o.dst (.slice a' (L + 1) c')) w') :
    if Region.wanted o (yielded ops a.tmps) = true then Oper.wp Try.prog o a w K Q else E := by
  have hw : Region.wanted o (yielded ops a.tmps) = true := by simp [Region.wanted, hgd]
  rw [if_pos hw]
  obtain ⟨i0, hi, hz0, hz1, hz2⟩ := info_parts Try.info56
  obtain ⟨v', w', hrun, r1, r2, _⟩ := run_append_own_wide (P := Try.prog) w base 26 o.type 49 i0 (.agg #[.string ⟨#[]⟩, .int .u32 0]) 2 24 Try.underlying26 hi hz0 hz1 hz2 rfl (by decide) (.slice a1 L c1) L (rowT zs) hown ⟨g, 0, none⟩ 1 1 [.string (str t.name), .int .u32 t.coef] rfl hc (by simp [Value.oneCell']) (by unfold maxLen; omega) (by omega) hbase
  obtain ⟨a', c', rfl⟩ := own_slice r1
  unfold Oper.wp
  simp [execOp, ho, resolve, invoke, builtin, hs, hx, hrun, Result.andThen]
  exact hK a' c' w' (by rw [rowT_push]; exact r1) r2
structure OSt (w : World) (gr go lo : Nat) (kc : Int) (zs : List Tm) (v : Value) (wr : World) : Prop where
  res : Two wr gr 29 (.slice none 0 0) (.int .u32 0)
  out : Two wr go 29 v (.int .u32 kc)
  own : wr.ownsRow lo 49 2 v zs.length (rowT zs)
  bel : Below w.heap.size w wr
  l1 : w.heap.size ≤ gr
  l2 : gr < go
  l3 : go < lo
  l4 : lo ≤ wr.heap.size
theorem OSt.kept {w wr wr' : World} {gr go lo : Nat} {kc : Int} {zs : List Tm} {v : Value} (h : OSt w gr go lo kc zs v wr) (hb : Below wr.heap.size wr wr') : OSt w gr go lo kc zs v wr' :=
  ⟨h.res.below hb (by have := h.l2; have := h.l3; have := h.l4; omega), h.out.below hb (by have := h.l3; have := h.l4; omega), own_below' h.own hb, h.bel.trans (hb.mono h.bel.size), h.l1, h.l2, h.l3, Nat.le_trans h.l4 hb.size⟩
theorem OSt.push {w wr wa w3 : World} {gr go lo L c1 : Nat} {kc : Int} {zs : List Tm} {t : Tm} {a1 : Option Addr} {v2 : Value} (h : OSt w gr go lo kc zs (.slice a1 L c1) wr) (hL : L = zs.length) (hb : Below wr.heap.size wr wa)
    (hown : w3.ownsRow lo 49 2 v2 (L + 1) (rowT (zs ++ [t]))) (hg : wa.grownBy w3 (Value.slice a1 L c1).ownBlock) : OSt w gr go lo kc (zs ++ [t]) v2 (w3.setCell ⟨go, 0, none⟩ v2) := by
  have hk := h.kept hb
  have hnb : (Value.slice a1 L c1).ownBlock ≠ some gr := fun e => by have := (h.own.lt _ e).1; have := h.l2; have := h.l3; omega
  have hnb2 : (Value.slice a1 L c1).ownBlock ≠ some go := fun e => by have := (h.own.lt _ e).1; have := h.l3; omega
  have hr := hk.res.grown hg hnb
  have ho := hk.out.grown hg hnb2
  obtain ⟨s1, s2⟩ := two_put ho v2
  have hs3 := hg.size
  have h4 := hk.l4
  have h1 := h.l1
  have h2 := h.l2
  have h3 := h.l3
  refine ⟨hr.grown s2 (by simp; omega), s1, ?_, ?_, h.l1, h.l2, h.l3, by have := s2.size; omega⟩
  · rw [List.length_append, List.length_singleton, ← hL]
    exact own_low hown s2 (by omega)
  · refine Below.grown ?_ s2 (by have := hk.bel.size; omega) (fun j hj => by cases hj; omega)
    exact hk.bel.grown hg hk.bel.size (fun j hj => by have := (h.own.lt _ hj).1; omega)
theorem own_met {w : World} {B L c1 : Nat} {a1 : Option Addr} {zs : List Tm} (hL : L = zs.length) (h : w.ownsRow B 49 2 (.slice a1 L c1) zs.length (rowT zs)) : w.ownsRow B 49 2 (.slice a1 L c1) L (rowT zs) := by
  rw [← hL] at h
  exact h
theorem two_far {w wr wa w3 : World} {gr go lo L c1 : Nat} {kc : Int} {zs : List Tm} {a1 : Option Addr} (h : OSt w gr go lo kc zs (.slice a1 L c1) wr) (hb : Below wr.heap.size wr wa) (hg : wa.grownBy w3 (Value.slice a1 L c1).ownBlock) : Two w3 go 29 (.slice a1 L c1) (.int .u32 kc) :=
  (h.kept hb).out.grown hg (fun e => by have := (h.own.lt _ e).1; have := h.l3; omega)
theorem two_beside {w wr wa w3 : World} {gr go lo L c1 gx : Nat} {kc : Int} {zs : List Tm} {a1 : Option Addr} {v2 X Y : Value} {T : TypeId} (h : OSt w gr go lo kc zs (.slice a1 L c1) wr) (hX : Two wr gx T X Y) (hgx : gx < gr) (hb : Below wr.heap.size wr wa) (hg : wa.grownBy w3 (Value.slice a1 L c1).ownBlock) : Two (w3.setCell ⟨go, 0, none⟩ v2) gx T X Y := by
  have h2 := h.l2
  have h3 := h.l3
  have h4 := h.l4
  obtain ⟨_, s2⟩ := two_put (two_far h hb hg) v2
  exact ((hX.below hb (by omega)).grown hg (fun e => by have := (h.own.lt _ e).1; omega)).grown s2 (by simp; omega)
set_option maxHeartbeats 2000000 in
theorem refTimes_any (a : Option Addr) (c : Nat) (ts : List Tm) (k n : Int) (hl : ts.length ≤ 4400000) (w : World) (hT : TmLies w a ts) :
    Calls Try.prog 35 #[linV (.slice a ts.length c) k, .int .u32 n] w fun e w' => Below w.heap.size w w' ∧ ∃ v, e = .returned (linV v (k * n % 4294967296)) ∧ w'.ownsRow w.heap.size 49 2 v (timesT ts n).length (rowT (timesT ts n)) := by
  obtain ⟨n0, hn0⟩ : ∃ n0, n0 = ts.length := ⟨_, rfl⟩
  rw [← hn0] at hl ⊢
  have hTH := Hid.intro hT
  have hnH := Hid.intro hn0
  clear hT hn0
  go_enter Try.func35, Try.ntmps35
  go_wp2
  have hStart : Hid (OSt w (w.heap.size + 1) (w.heap.size + 1 + 1) (w.heap.size + 1 + 1 + 1) (k * n % 4294967296) [] (.slice none 0 0) (((w.alloc (.cells #[.slice a n0 c, .int .u32 k] 29)).alloc (.cells #[.slice none 0 0, .int .u32 0] 29)).alloc (.cells #[.slice none 0 0, .int .u32 (k * n % 4294967296)] 29))) := by
    refine ⟨?_, ?_, World.ownsRow_nil _ _ _ _, (((below_alloc w _).alloc (by simp) _).alloc (by simp; omega) _), by omega, by omega, by omega, by simp⟩
    · have := (two_new (w.alloc (.cells #[.slice a n0 c, .int .u32 k] 29)) 29 (.slice none 0 0) (.int .u32 0)).alloc (.cells #[.slice none 0 0, .int .u32 (k * n % 4294967296)] 29)
      simpa using this
    · have := two_new ((w.alloc (.cells #[.slice a n0 c, .int .u32 k] 29)).alloc (.cells #[.slice none 0 0, .int .u32 0] 29)) 29 (.slice none 0 0) (.int .u32 (k * n % 4294967296))
      simpa using this
  have hX : Hid (Two (((w.alloc (.cells #[.slice a n0 c, .int .u32 k] 29)).alloc (.cells #[.slice none 0 0, .int .u32 0] 29)).alloc (.cells #[.slice none 0 0, .int .u32 (k * n % 4294967296)] 29)) w.heap.size 29 (.slice a n0 c) (.int .u32 k)) := ((two_new w 29 (.slice a n0 c) (.int .u32 k)).alloc _).alloc _
  have hbX := Hid.intro (Below.refl ((((w.alloc (.cells #[.slice a n0 c, .int .u32 k] 29)).alloc (.cells #[.slice none 0 0, .int .u32 0] 29)).alloc (.cells #[.slice none 0 0, .int .u32 (k * n % 4294967296)] 29))).heap.size (((w.alloc (.cells #[.slice a n0 c, .int .u32 k] 29)).alloc (.cells #[.slice none 0 0, .int .u32 0] 29)).alloc (.cells #[.slice none 0 0, .int .u32 (k * n % 4294967296)] 29)))
  clear hbX
  generalize (((w.alloc (.cells #[.slice a n0 c, .int .u32 k] 29)).alloc (.cells #[.slice none 0 0, .int .u32 0] 29)).alloc (.cells #[.slice none 0 0, .int .u32 (k * n % 4294967296)] 29)) = w0 at *
  obtain ⟨kc, hkc⟩ : ∃ kc, kc = k * n % 4294967296 := ⟨_, rfl⟩
  rw [← hkc] at hStart
  have hkcH := Hid.intro hkc
  clear hkc
  go_loopw [6] (fun vi wr => ∃ (i : Nat) (v : Value), i ≤ n0 ∧ vi = .int .i64 (i : Int) ∧ Hid (OSt w (w.heap.size + 1) (w.heap.size + 1 + 1) (w.heap.size + 1 + 1 + 1) kc (timesT (ts.take i) n) v wr) ∧ Hid (Two wr w.heap.size 29 (.slice a n0 c) (.int .u32 k))) (fun vi _ => n0 - (intOf vi).toNat)
  case atStart => exact ⟨0, .slice none 0 0, Nat.zero_le _, rfl, hStart, hX⟩
  case round =>
    obtain ⟨i, v, hle, rfl, hS, hXr⟩ := hrel
    obtain ⟨_, x0, x1, _, _⟩ := hXr.out
    by_cases hlt : i < n0
    · obtain ⟨t, ht⟩ : ∃ t, ts[i]? = some t := ⟨ts[i]'(by rw [← hnH.out]; exact hlt), List.getElem?_eq_getElem _⟩
      obtain ⟨a1, c1, rfl⟩ := own_slice hS.out.own
      obtain ⟨L, hL⟩ : ∃ L, L = (timesT (ts.take i) n).length := ⟨_, rfl⟩
      rw [← hL] at hS
      have hLl : L ≤ 4400000 := by
        rw [hL]
        have := times_len (ts.take i) n
        rw [List.length_take] at this
        omega
      have hLH := Hid.intro hL
      rcases hTH.out with hx | ⟨g, o_, rfl, hg, hT⟩
      · rw [hx] at hnH; have := hnH.out; simp at this; omega
      have hgr : g < wr.heap.size := Nat.lt_of_lt_of_le hg hS.out.bel.size
      obtain ⟨q0, q1⟩ := (hT i t ht).below hS.out.bel hg
      have htk : timesT (ts.take (i + 1)) n = timesT (ts.take i) n ++ emit t.name (t.coef * n % 4294967296) [] := by
        rw [take_at ts i t ht, timesT_append, timesT_cons, timesT_nil]
      clear hT ht hL
      have i1 : (0 : Int) ≤ (i : Int) := by omega
      have i2 : (i : Int) < (n0 : Int) := by omega
      by_cases hz : t.coef * n % 4294967296 = 0
      · have hz' : (t.coef * n % 4294967296 != 0) = false := by simp [hz]
        have hS2 : Hid (OSt w (w.heap.size + 1) (w.heap.size + 1 + 1) (w.heap.size + 1 + 1 + 1) kc (timesT (ts.take (i + 1)) n) (.slice a1 L c1) wr) := by
          show OSt _ _ _ _ _ _ _ _
          rw [htk, emit, if_pos hz, List.append_nil]
          exact hS.out
        clear htk hS
        go_wp2
        all_goals first | omega | skip
        go_roundw
        case rel => exact ⟨i + 1, .slice a1 L c1, by omega, by go_num, hS2, hXr⟩
        case measure => simp [intOf]; omega
      · have hz' : (t.coef * n % 4294967296 != 0) = true := by simp [hz]
        obtain ⟨C, hC⟩ : ∃ C, C = t.coef * n % 4294967296 := ⟨_, rfl⟩
        have hCz : C ≠ 0 := by rw [hC]; exact hz
        have hCb : (C != 0) = true := by simpa using hCz
        have htk2 : Hid (timesT (ts.take (i + 1)) n = timesT (ts.take i) n ++ [⟨t.name, C⟩]) := by
          show _ = _
          rw [htk, ← hC, emit, if_neg hCz]
        rw [← hC] at hz'
        have hCe : t.coef * n % 4294967296 = C := hC.symm
        obtain ⟨_, o0, o1, of0, of1⟩ := hS.out.out
        have hsz := hS.out.l4
        clear htk hz hC hCz
        have cn : ∀ wq : World, ∀ j u, [Value.string (str t.name), .int .u32 C][j]? = some u → (wq.alloc (.cells #[.string (str t.name), .int .u32 C] 49)).drew.cell? ((⟨wq.heap.size, 0, none⟩ : Addr).add j) = some u := fun wq => cells_new wq #[.string (str t.name), .int .u32 C] 49
        have cnH := Hid.intro cn
        clear cn
        have oA := fun o => (hS.out.kept (below_alloc wr o)).out.c0
        have xA := fun o => (hXr.out.alloc o).c0
        have qA : ∀ o, (wr.alloc o).cell? ⟨g, o_ + i * 2, none⟩ = some (.string (str t.name)) := fun o => (TmAt.below ⟨q0, q1⟩ (below_alloc wr o) hgr).1
        go_wp2
        all_goals first | omega | skip
        go_region_law (refine step_term _ rfl (.tmp 31) (.tmp 40) rfl (w.heap.size + 1 + 1 + 1) a1 L c1 (timesT (ts.take i) n) rfl (own_met hLH.out (hS.out.kept ((below_alloc wr _).drew)).own) wr.heap.size ⟨t.name, C⟩ rfl (cnH.out wr) (by omega) (by have := hS.out.l4; simp; omega) ?_; intro a3 c3 w3 ho3 hg3; have hpf := Hid.intro (hS.out.push hLH.out ((below_alloc wr _).drew) ho3 hg3); have hXf := Hid.intro (fun v2 => two_beside (v2 := v2) hS.out hXr.out (by omega) ((below_alloc wr _).drew) hg3); have hT3 := two_far hS.out ((below_alloc wr _).drew) hg3; obtain ⟨_, z0, z1, zf0, zf1⟩ := hT3)
        all_goals have hS3 : Hid (OSt w (w.heap.size + 1) (w.heap.size + 1 + 1) (w.heap.size + 1 + 1 + 1) kc (timesT (ts.take (i + 1)) n) (.slice a3 (L + 1) c3) (w3.setCell ⟨w.heap.size + 1 + 1, 0, none⟩ (.slice a3 (L + 1) c3))) := (show OSt _ _ _ _ _ _ _ _ by rw [htk2.out]; exact hpf.out)
        all_goals clear z0 z1 zf0 zf1 oA xA qA o0 o1 of0 of1 x0 x1 q0 q1
        all_goals go_wp2_with fail
        all_goals go_roundw
        case rel => exact ⟨i + 1, _, by omega, by go_num, hS3, hXf.out _⟩
        case measure => simp [intOf]; omega
        case rel => exact ⟨i + 1, _, by omega, by go_num, hS3, hXf.out _⟩
        case measure => simp [intOf]; omega
        case rel => exact ⟨i + 1, _, by omega, by go_num, hS3, hXf.out _⟩
        case measure => simp [intOf]; omega
        case rel => exact ⟨i + 1, _, by omega, by go_num, hS3, hXf.out _⟩
        case measure => simp [intOf]; omega
    · obtain ⟨a1, c1, rfl⟩ := own_slice hS.out.own
      obtain ⟨L, hL⟩ : ∃ L, L = (timesT (ts.take i) n).length := ⟨_, rfl⟩
      rw [← hL] at hS
      have hLH := Hid.intro hL
      clear hL
      obtain ⟨_, o0, o1, of0, of1⟩ := hS.out.out
      obtain ⟨rh, r0, r1, rf0, rf1⟩ := hS.out.res
      have rhH := Hid.intro rh
      clear rh
      go_wp2
      all_goals first | omega | skip
      have hin : i = ts.length := by rw [← hnH.out]; omega
      obtain ⟨s1, s2⟩ := two_set rhH.out rfl (.slice a1 L c1) (.int .u32 kc)
      have hb2 : Below w.heap.size w ((wr.setCell ⟨w.heap.size + 1, 0, none⟩ (.slice a1 L c1)).setCell ⟨w.heap.size + 1, 1, none⟩ (.int .u32 kc)) := hS.out.bel.grown s2 hS.out.bel.size (fun j hj => by cases hj; omega)
      generalize ((wr.setCell ⟨w.heap.size + 1, 0, none⟩ (.slice a1 L c1)).setCell ⟨w.heap.size + 1, 1, none⟩ (.int .u32 kc)) = w3 at s1 s2 hb2 ⊢
      obtain ⟨_, z0, z1, _, _⟩ := s1
      refine bodyPost_ret (by simp [results, Try.results35, go_sem, z0, z1]; try rfl) rfl ?_
      refine ⟨hb2, _, by rw [hkcH.out], ?_⟩
      have hown := own_weaken (own_low hS.out.own s2 (by omega)) (B := w.heap.size) (by omega)
      rw [hin, List.take_length] at hown
      exact hown
end Go.Proofs.Ytebbbefknfldoaa
namespace Go.Proofs.Ytebbbefknfldoaa
open Go.ChangeShapes Go.WideShapes Go.ChangeAt Go.RowKit
set_option linter.unusedVariables false
set_option maxRecDepth 100000
structure BelowQ (w : World) where
  wd : World
  h : Below w.heap.size w wd
instance {w : World} : Inhabited (BelowQ w) := ⟨⟨w, Below.refl _ _⟩⟩
theorem BelowQ.cell {w : World} (p : BelowQ w) {a : Addr} {v : Value} (ha : a.block < w.heap.size) (h : w.cell? a = some v) : p.wd.cell? a = some v := by rw [p.h.cell ha]; exact h
theorem wp_region_quiet_q {P : Program} {id : Nat} {Q : Exit → Act → World → Prop} {a : Act} {w : World} {l : List Oper} (hm : P.follows .mixedOrders = true) (hB : Region.lexB .any l.toArray = true)
    (h : wpQuiet P l.toArray (fun w' => ∃ p : BelowQ w, w' = p.wd) (fun a' => ∀ w', (∃ p : BelowQ w, w' = p.wd) → Q .normal a' w') l a) : (Code.region id l.toArray true).wp P Q a w :=
  wp_region_quiet (C := fun w' => ∃ p : BelowQ w, w' = p.wd) hm hB ⟨⟨w.drew, (Below.refl _ _).drew⟩, rfl⟩ (by simpa using h)
theorem wpQuiet_skipQ {P : Program} {ops : Array Oper} {C : World → Prop} {Q : Act → Prop} {a : Act} {o : Oper} {rest : List Oper} (h : Region.wanted o (yielded ops a.tmps) = false) (k : wpQuiet P ops C Q rest (a.put o.dst undef)) : wpQuiet P ops C Q (o :: rest) a := by
  unfold wpQuiet
  rw [if_neg (by rw [h]; decide)]
  exact k
theorem str_list (l : List UInt8) : (str l).toList = l := by
  rw [Lib.toList_data]
  rfl
structure ASt (w : World) (a1 a2 : Option Addr) (c1 c2 n1 n2 : Nat) (xs ys : List Tm) (k1 k2 kc : Int) (i j : Nat) (v : Value) (zs : List Tm) (wr : World) : Prop where
  o : OSt w (w.heap.size + 1 + 1) (w.heap.size + 1 + 1 + 1) (w.heap.size + 1 + 1 + 1 + 1) kc zs v wr
  x : Two wr w.heap.size 29 (.slice a1 n1 c1) (.int .u32 k1)
  y : Two wr (w.heap.size + 1) 29 (.slice a2 n2 c2) (.int .u32 k2)
  inv : zs ++ mrg (xs.drop i) (ys.drop j) = mrg xs ys
  len : zs.length ≤ i + j
theorem Two.lt' {w : World} {g : Nat} {T : TypeId} {x y : Value} (h : Two w g T x y) : g < w.heap.size := (Array.getElem?_eq_some_iff.1 h.heap).1
theorem ASt.kept {w wr wr' : World} {a1 a2 : Option Addr} {c1 c2 n1 n2 : Nat} {xs ys : List Tm} {k1 k2 kc : Int} {i j : Nat} {v : Value} {zs : List Tm} (h : ASt w a1 a2 c1 c2 n1 n2 xs ys k1 k2 kc i j v zs wr) (hb : Below wr.heap.size wr wr') : ASt w a1 a2 c1 c2 n1 n2 xs ys k1 k2 kc i j v zs wr' :=
  ⟨h.o.kept hb, h.x.below hb h.x.lt', h.y.below hb h.y.lt', h.inv, h.len⟩
theorem ASt.push {w wr wa w3 : World} {a1 a2 : Option Addr} {c1 c2 n1 n2 : Nat} {xs ys : List Tm} {k1 k2 kc : Int} {i j i' j' L d : Nat} {b : Option Addr} {zs : List Tm} {t : Tm} {v2 : Value} (h : ASt w a1 a2 c1 c2 n1 n2 xs ys k1 k2 kc i j (.slice b L d) zs wr) (hL : L = zs.length) (hb : Below wr.heap.size wr wa)
    (hown : w3.ownsRow (w.heap.size + 1 + 1 + 1 + 1) 49 2 v2 (L + 1) (rowT (zs ++ [t]))) (hg : wa.grownBy w3 (Value.slice b L d).ownBlock) (hinv : mrg (xs.drop i) (ys.drop j) = t :: mrg (xs.drop i') (ys.drop j')) (hlen : i + j + 1 ≤ i' + j') :
    ASt w a1 a2 c1 c2 n1 n2 xs ys k1 k2 kc i' j' v2 (zs ++ [t]) (w3.setCell ⟨w.heap.size + 1 + 1 + 1, 0, none⟩ v2) :=
  ⟨h.o.push hL hb hown hg, two_beside h.o h.x (by omega) hb hg, two_beside h.o h.y (by omega) hb hg, by rw [List.append_assoc, List.singleton_append, ← hinv, h.inv], by have := h.len; simp; omega⟩
theorem ASt.skip {w wr : World} {a1 a2 : Option Addr} {c1 c2 n1 n2 : Nat} {xs ys : List Tm} {k1 k2 kc : Int} {i j i' j' : Nat} {v : Value} {zs : List Tm} (h : ASt w a1 a2 c1 c2 n1 n2 xs ys k1 k2 kc i j v zs wr) (hinv : mrg (xs.drop i) (ys.drop j) = mrg (xs.drop i') (ys.drop j')) (hlen : i + j ≤ i' + j') : ASt w a1 a2 c1 c2 n1 n2 xs ys k1 k2 kc i' j' v zs wr :=
  ⟨h.o, h.x, h.y, by rw [← hinv]; exact h.inv, Nat.le_trans h.len hlen⟩
set_option maxHeartbeats 8000000 in
theorem refAdd_any (a1 a2 : Option Addr) (c1 c2 : Nat) (xs ys : List Tm) (k1 k2 : Int) (w : World) (hx : TmLies w a1 xs) (hy : TmLies w a2 ys) (hl1 : xs.length ≤ 1100000) (hl2 : ys.length ≤ 1100000) :
    Calls Try.prog 36 #[linV (.slice a1 xs.length c1) k1, linV (.slice a2 ys.length c2) k2] w fun e w' => Below w.heap.size w w' ∧ ∃ v, e = .returned (linV v ((k1 + k2) % 4294967296)) ∧ w'.ownsRow w.heap.size 49 2 v (mrg xs ys).length (rowT (mrg xs ys)) := by
  obtain ⟨n1, hn1⟩ : ∃ n1, n1 = xs.length := ⟨_, rfl⟩
  obtain ⟨n2, hn2⟩ : ∃ n2, n2 = ys.length := ⟨_, rfl⟩
  rw [← hn1, ← hn2]
  rw [← hn1] at hl1
  rw [← hn2] at hl2
  have hXH := Hid.intro hx
  have hYH := Hid.intro hy
  have hn1H := Hid.intro hn1
  have hn2H := Hid.intro hn2
  clear hx hy hn1 hn2
  go_enter Try.func36, Try.ntmps36
  go_wp2
  have hStart : Hid (ASt w a1 a2 c1 c2 n1 n2 xs ys k1 k2 ((k1 + k2) % 4294967296) 0 0 (.slice none 0 0) [] ((((w.alloc (.cells #[.slice a1 n1 c1, .int .u32 k1] 29)).alloc (.cells #[.slice a2 n2 c2, .int .u32 k2] 29)).alloc (.cells #[.slice none 0 0, .int .u32 0] 29)).alloc (.cells #[.slice none 0 0, .int .u32 ((k1 + k2) % 4294967296)] 29))) := by
    refine ⟨⟨?_, ?_, World.ownsRow_nil _ _ _ _, ((((below_alloc w _).alloc (by simp) _).alloc (by simp; omega) _).alloc (by simp; omega) _), by omega, by omega, by omega, by simp⟩, ?_, ?_, rfl, Nat.zero_le _⟩
    · have := (two_new ((w.alloc (.cells #[.slice a1 n1 c1, .int .u32 k1] 29)).alloc (.cells #[.slice a2 n2 c2, .int .u32 k2] 29)) 29 (.slice none 0 0) (.int .u32 0)).alloc (.cells #[.slice none 0 0, .int .u32 ((k1 + k2) % 4294967296)] 29)
      simpa using this
    · have := two_new (((w.alloc (.cells #[.slice a1 n1 c1, .int .u32 k1] 29)).alloc (.cells #[.slice a2 n2 c2, .int .u32 k2] 29)).alloc (.cells #[.slice none 0 0, .int .u32 0] 29)) 29 (.slice none 0 0) (.int .u32 ((k1 + k2) % 4294967296))
      simpa using this
    · exact (((two_new w 29 (.slice a1 n1 c1) (.int .u32 k1)).alloc _).alloc _).alloc _
    · have := ((two_new (w.alloc (.cells #[.slice a1 n1 c1, .int .u32 k1] 29)) 29 (.slice a2 n2 c2) (.int .u32 k2)).alloc (.cells #[.slice none 0 0, .int .u32 0] 29)).alloc (.cells #[.slice none 0 0, .int .u32 ((k1 + k2) % 4294967296)] 29)
      simpa using this
  generalize ((((w.alloc (.cells #[.slice a1 n1 c1, .int .u32 k1] 29)).alloc (.cells #[.slice a2 n2 c2, .int .u32 k2] 29)).alloc (.cells #[.slice none 0 0, .int .u32 0] 29)).alloc (.cells #[.slice none 0 0, .int .u32 ((k1 + k2) % 4294967296)] 29)) = w0 at *
  obtain ⟨kc, hkc⟩ : ∃ kc, kc = (k1 + k2) % 4294967296 := ⟨_, rfl⟩
  rw [← hkc] at hStart
  have hkcH := Hid.intro hkc
  clear hkc
  go_loopw [6, 7] (fun vi vj wr => ∃ (i j : Nat) (v : Value) (zs : List Tm), i ≤ n1 ∧ j ≤ n2 ∧ vi = .int .i64 (i : Int) ∧ vj = .int .i64 (j : Int) ∧ Hid (ASt w a1 a2 c1 c2 n1 n2 xs ys k1 k2 kc i j v zs wr)) (fun vi vj _ => (n1 - (intOf vi).toNat) + (n2 - (intOf vj).toNat))
  case atStart => exact ⟨0, 0, .slice none 0 0, [], Nat.zero_le _, Nat.zero_le _, rfl, rfl, hStart⟩
  case round =>
    obtain ⟨i, j, v, zs, hi, hj, rfl, rfl, hS⟩ := hrel
    obtain ⟨b, d, rfl⟩ := own_slice hS.out.o.own
    obtain ⟨L, hL⟩ : ∃ L, L = zs.length := ⟨_, rfl⟩
    rw [← hL] at hS
    have hLl : L ≤ 4400000 := by have := hS.out.len; omega
    have hLH := Hid.intro hL
    clear hL
    have hlow := hS.out.o.bel
    obtain ⟨_, x0, x1, _, _⟩ := hS.out.x
    obtain ⟨_, y0, y1, _, _⟩ := hS.out.y
    have hxl := hS.out.x.lt'
    have hyl := hS.out.y.lt'
    have u0 : ∀ p : BelowQ wr, p.wd.cell? ⟨w.heap.size, 0, none⟩ = some (.slice a1 n1 c1) := fun p => p.cell hxl x0
    have u1 : ∀ p : BelowQ wr, p.wd.cell? ⟨w.heap.size + 1, 0, none⟩ = some (.slice a2 n2 c2) := fun p => p.cell hyl y0
    have i1 : (0 : Int) ≤ (i : Int) := by omega
    have j1 : (0 : Int) ≤ (j : Int) := by omega
    have hlowH := Hid.intro hlow
    clear hlow
    by_cases hiN : i < n1
    · obtain ⟨t, ht⟩ : ∃ t, xs[i]? = some t := ⟨xs[i]'(by rw [← hn1H.out]; exact hiN), List.getElem?_eq_getElem _⟩
      obtain ⟨gx, ox, rfl, hgx, hTx⟩ : ∃ gx ox, a1 = some ⟨gx, ox, none⟩ ∧ gx < w.heap.size ∧ TmAt w gx (ox + i * 2) t := by
        rcases hXH.out with h | ⟨gx, ox, e1, e2, e3⟩
        · rw [h] at ht; simp at ht
        · exact ⟨gx, ox, e1, e2, e3 i t ht⟩
      have hdx : xs.drop i = t :: xs.drop (i + 1) := by
        obtain ⟨hl, he⟩ := List.getElem?_eq_some_iff.1 ht
        rw [List.drop_eq_getElem_cons hl, he]
      have hTxr := Hid.intro (hTx.below hlowH.out hgx)
      have hgxr : gx < wr.heap.size := Nat.lt_of_lt_of_le hgx hlowH.out.size
      have v0 : ∀ p : BelowQ wr, p.wd.cell? ⟨gx, ox + i * 2, none⟩ = some (.string (str t.name)) := fun p => p.cell hgxr hTxr.out.1
      have v1 : ∀ p : BelowQ wr, p.wd.cell? ⟨gx, ox + i * 2 + 1, none⟩ = some (.int .u32 t.coef) := fun p => p.cell hgxr hTxr.out.2
      have i2 : (i : Int) < (n1 : Int) := by omega
      have i3 : ((i : Int) == (n1 : Int)) = false := by simp; omega
      have hdxH := Hid.intro hdx
      clear ht hTx hdx
      by_cases hjN : j < n2
      · obtain ⟨s, hs⟩ : ∃ s, ys[j]? = some s := ⟨ys[j]'(by rw [← hn2H.out]; exact hjN), List.getElem?_eq_getElem _⟩
        obtain ⟨gy, oy, rfl, hgy, hTy⟩ : ∃ gy oy, a2 = some ⟨gy, oy, none⟩ ∧ gy < w.heap.size ∧ TmAt w gy (oy + j * 2) s := by
          rcases hYH.out with h | ⟨gy, oy, e1, e2, e3⟩
          · rw [h] at hs; simp at hs
          · exact ⟨gy, oy, e1, e2, e3 j s hs⟩
        have hdy : ys.drop j = s :: ys.drop (j + 1) := by
          obtain ⟨hl, he⟩ := List.getElem?_eq_some_iff.1 hs
          rw [List.drop_eq_getElem_cons hl, he]
        have hTyr := Hid.intro (hTy.below hlowH.out hgy)
        have hgyr : gy < wr.heap.size := Nat.lt_of_lt_of_le hgy hlowH.out.size
        have s0 : ∀ p : BelowQ wr, p.wd.cell? ⟨gy, oy + j * 2, none⟩ = some (.string (str s.name)) := fun p => p.cell hgyr hTyr.out.1
        have s1 : ∀ p : BelowQ wr, p.wd.cell? ⟨gy, oy + j * 2 + 1, none⟩ = some (.int .u32 s.coef) := fun p => p.cell hgyr hTyr.out.2
        have j2 : (j : Int) < (n2 : Int) := by omega
        have j3 : ((j : Int) == (n2 : Int)) = false := by simp; omega
        have hdyH := Hid.intro hdy
        clear hs hTy hdy
        cases hlt : nlt t.name s.name with
        | true =>
          as_aux_lemma =>
            have e1 : Op.bytesLess (str t.name).toList (str s.name).toList = true := by rw [str_list, str_list]; exact hlt
            have hm : Hid (mrg (xs.drop i) (ys.drop j) = t :: mrg (xs.drop (i + 1)) (ys.drop j)) := by show _ = _; rw [hdxH.out, hdyH.out, mrg_left hlt]
            clear hlt
            go_wp2
            all_goals first | omega | skip
            refine wp_region_quiet_q (by kernel_rfl) (by kernel_rfl) ?_
            repeat (first | (with_reducible refine wpQuiet_skipQ (by with_unfolding_all rfl) ?_; simp only [Act.put, List.setIfInBounds_toArray, List.set_cons_zero, List.set_cons_succ]) | (with_reducible refine wpQuiet_step (fun K hK => ?_); go_simp; (with_reducible refine hK _ ?_; clear hK K)))
            with_reducible refine wpQuiet_nil ?_
            intro _ hw'
            obtain ⟨pq, hw''⟩ := hw'
            subst hw''
            have hq := Hid.intro (hS.out.kept pq.h)
            have hcell := Hid.intro (fun wq : World => cells_new wq #[.string (str t.name), .int .u32 t.coef] 49)
            obtain ⟨_, o0, o1, of0, of1⟩ := hq.out.o.out
            have oA := fun o => (hq.out.kept (below_alloc pq.wd o)).o.out.c0
            have xA := fun o => (hq.out.kept (below_alloc pq.wd o)).x.c0
            have yA := fun o => (hq.out.kept (below_alloc pq.wd o)).y.c0
            have x2 := u0 pq
            have y2 := u1 pq
            have q0 : pq.wd.cell? ⟨gx, ox + i * 2, none⟩ = some (.string (str t.name)) := v0 pq
            have q1 : pq.wd.cell? ⟨gx, ox + i * 2 + 1, none⟩ = some (.int .u32 t.coef) := v1 pq
            have hgq : gx < pq.wd.heap.size := World.block_lt_of_cell? _ _ q0
            have qA : ∀ o, (pq.wd.alloc o).cell? ⟨gx, ox + i * 2, none⟩ = some (.string (str t.name)) := fun o => (TmAt.below ⟨q0, q1⟩ (below_alloc pq.wd o) hgq).1
            have qB : ∀ o, (pq.wd.alloc o).cell? ⟨gx, ox + i * 2 + 1, none⟩ = some (.int .u32 t.coef) := fun o => (TmAt.below ⟨q0, q1⟩ (below_alloc pq.wd o) hgq).2
            clear u0 u1 v0 v1 s0 s1
            go_wp2
            all_goals first | omega | skip
            go_region_law (refine step_term _ rfl (.tmp 55) (.tmp 61) rfl (w.heap.size + 1 + 1 + 1 + 1) b L d zs rfl (own_met hLH.out (hq.out.o.kept ((below_alloc pq.wd _).drew)).own) pq.wd.heap.size t rfl (hcell.out pq.wd) (by omega) (by have := hq.out.o.l4; simp; omega) ?_; intro a3 c3 w3 ho3 hg3; have hpf := Hid.intro (hq.out.push hLH.out ((below_alloc pq.wd _).drew) ho3 hg3 hm.out (by omega)); have hT3 := two_far hq.out.o ((below_alloc pq.wd _).drew) hg3; obtain ⟨_, z0, z1, zf0, zf1⟩ := hT3)
            all_goals clear z0 z1 zf0 zf1 oA xA yA qA qB o0 o1 of0 of1 q0 q1 x2 y2
            all_goals go_wp2_with fail
            all_goals first | omega | skip
            all_goals go_roundw
            case rel => exact ⟨i + 1, j, _, zs ++ [t], by omega, by omega, by go_num, by go_num, hpf⟩
            case measure => simp [intOf]; omega
            case rel => exact ⟨i + 1, j, _, zs ++ [t], by omega, by omega, by go_num, by go_num, hpf⟩
            case measure => simp [intOf]; omega
            case rel => exact ⟨i + 1, j, _, zs ++ [t], by omega, by omega, by go_num, by go_num, hpf⟩
            case measure => simp [intOf]; omega
            case rel => exact ⟨i + 1, j, _, zs ++ [t], by omega, by omega, by go_num, by go_num, hpf⟩
            case measure => simp [intOf]; omega
        | false =>
          cases hgt : nlt s.name t.name with
          | true =>
            as_aux_lemma =>
              have e1 : Op.bytesLess (str t.name).toList (str s.name).toList = false := by rw [str_list, str_list]; exact hlt
              have e2 : Op.bytesLess (str s.name).toList (str t.name).toList = true := by rw [str_list, str_list]; exact hgt
              have hm : Hid (mrg (xs.drop i) (ys.drop j) = s :: mrg (xs.drop i) (ys.drop (j + 1))) := by show _ = _; rw [hdxH.out, hdyH.out, mrg_right hgt]
              clear hlt hgt
              go_wp2
              all_goals first | omega | skip
              refine wp_region_quiet_q (by kernel_rfl) (by kernel_rfl) ?_
              repeat (first | (with_reducible refine wpQuiet_skipQ (by with_unfolding_all rfl) ?_; simp only [Act.put, List.setIfInBounds_toArray, List.set_cons_zero, List.set_cons_succ]) | (with_reducible refine wpQuiet_step (fun K hK => ?_); go_simp; (with_reducible refine hK _ ?_; clear hK K)))
              with_reducible refine wpQuiet_nil ?_
              intro _ hw'
              obtain ⟨pq, hw''⟩ := hw'
              subst hw''
              have ru0 : ∀ p : BelowQ pq.wd, p.wd.cell? ⟨w.heap.size, 0, none⟩ = some (.slice (some ⟨gx, ox, none⟩) n1 c1) := fun p => p.cell (Nat.lt_of_lt_of_le hxl pq.h.size) (u0 pq)
              have ru1 : ∀ p : BelowQ pq.wd, p.wd.cell? ⟨w.heap.size + 1, 0, none⟩ = some (.slice (some ⟨gy, oy, none⟩) n2 c2) := fun p => p.cell (Nat.lt_of_lt_of_le hyl pq.h.size) (u1 pq)
              have rv0 : ∀ p : BelowQ pq.wd, p.wd.cell? ⟨gx, ox + i * 2, none⟩ = some (.string (str t.name)) := fun p => p.cell (Nat.lt_of_lt_of_le hgxr pq.h.size) (v0 pq)
              have rv1 : ∀ p : BelowQ pq.wd, p.wd.cell? ⟨gx, ox + i * 2 + 1, none⟩ = some (.int .u32 t.coef) := fun p => p.cell (Nat.lt_of_lt_of_le hgxr pq.h.size) (v1 pq)
              have rs0 : ∀ p : BelowQ pq.wd, p.wd.cell? ⟨gy, oy + j * 2, none⟩ = some (.string (str s.name)) := fun p => p.cell (Nat.lt_of_lt_of_le hgyr pq.h.size) (s0 pq)
              have rs1 : ∀ p : BelowQ pq.wd, p.wd.cell? ⟨gy, oy + j * 2 + 1, none⟩ = some (.int .u32 s.coef) := fun p => p.cell (Nat.lt_of_lt_of_le hgyr pq.h.size) (s1 pq)
              clear u0 u1 v0 v1 s0 s1
              go_wp2_with fail
              all_goals first | omega | skip
              refine wp_region_quiet_q (by kernel_rfl) (by kernel_rfl) ?_
              repeat (first | (with_reducible refine wpQuiet_skipQ (by with_unfolding_all rfl) ?_; simp only [Act.put, List.setIfInBounds_toArray, List.set_cons_zero, List.set_cons_succ]) | (with_reducible refine wpQuiet_step (fun K hK => ?_); go_simp; (with_reducible refine hK _ ?_; clear hK K)))
              with_reducible refine wpQuiet_nil ?_
              intro _ hw'
              obtain ⟨pr, hw''⟩ := hw'
              subst hw''
              have hq := Hid.intro (hS.out.kept (pq.h.trans (pr.h.mono pq.h.size)))
              have hcell := Hid.intro (fun wq : World => cells_new wq #[.string (str s.name), .int .u32 s.coef] 49)
              obtain ⟨_, o0, o1, of0, of1⟩ := hq.out.o.out
              have oA := fun o => (hq.out.kept (below_alloc pr.wd o)).o.out.c0
              have xA := fun o => (hq.out.kept (below_alloc pr.wd o)).x.c0
              have yA := fun o => (hq.out.kept (below_alloc pr.wd o)).y.c0
              have x2 := ru0 pr
              have y2 := ru1 pr
              have q0 : pr.wd.cell? ⟨gy, oy + j * 2, none⟩ = some (.string (str s.name)) := rs0 pr
              have q1 : pr.wd.cell? ⟨gy, oy + j * 2 + 1, none⟩ = some (.int .u32 s.coef) := rs1 pr
              have hgq : gy < pr.wd.heap.size := World.block_lt_of_cell? _ _ q0
              have qA : ∀ o, (pr.wd.alloc o).cell? ⟨gy, oy + j * 2, none⟩ = some (.string (str s.name)) := fun o => (TmAt.below ⟨q0, q1⟩ (below_alloc pr.wd o) hgq).1
              have qB : ∀ o, (pr.wd.alloc o).cell? ⟨gy, oy + j * 2 + 1, none⟩ = some (.int .u32 s.coef) := fun o => (TmAt.below ⟨q0, q1⟩ (below_alloc pr.wd o) hgq).2
              clear ru0 ru1 rv0 rv1 rs0 rs1
              go_wp2
              all_goals first | omega | skip
              go_region_law (refine step_term _ rfl (.tmp 87) (.tmp 93) rfl (w.heap.size + 1 + 1 + 1 + 1) b L d zs rfl (own_met hLH.out (hq.out.o.kept ((below_alloc pr.wd _).drew)).own) pr.wd.heap.size s rfl (hcell.out pr.wd) (by omega) (by have := hq.out.o.l4; simp; omega) ?_; intro a3 c3 w3 ho3 hg3; have hpf := Hid.intro (hq.out.push hLH.out ((below_alloc pr.wd _).drew) ho3 hg3 hm.out (by omega)); have hT3 := two_far hq.out.o ((below_alloc pr.wd _).drew) hg3; obtain ⟨_, z0, z1, zf0, zf1⟩ := hT3)
              all_goals clear z0 z1 zf0 zf1 oA xA yA qA qB o0 o1 of0 of1 q0 q1 x2 y2
              all_goals go_wp2_with fail
              all_goals first | omega | skip
              all_goals go_roundw
              case rel => exact ⟨i, j + 1, _, zs ++ [s], by omega, by omega, by go_num, by go_num, hpf⟩
              case measure => simp [intOf]; omega
              case rel => exact ⟨i, j + 1, _, zs ++ [s], by omega, by omega, by go_num, by go_num, hpf⟩
              case measure => simp [intOf]; omega
              case rel => exact ⟨i, j + 1, _, zs ++ [s], by omega, by omega, by go_num, by go_num, hpf⟩
              case measure => simp [intOf]; omega
              case rel => exact ⟨i, j + 1, _, zs ++ [s], by omega, by omega, by go_num, by go_num, hpf⟩
              case measure => simp [intOf]; omega
          | false =>
            as_aux_lemma =>
              have e1 : Op.bytesLess (str t.name).toList (str s.name).toList = false := by rw [str_list, str_list]; exact hlt
              have e2 : Op.bytesLess (str s.name).toList (str t.name).toList = false := by rw [str_list, str_list]; exact hgt
              obtain ⟨C, hC⟩ : ∃ C, C = (t.coef + s.coef) % 4294967296 := ⟨_, rfl⟩
              have hm : Hid (mrg (xs.drop i) (ys.drop j) = emit t.name C (mrg (xs.drop (i + 1)) (ys.drop (j + 1)))) := by show _ = _; rw [hdxH.out, hdyH.out, mrg_both hlt hgt, hC]
              have hCe : (t.coef + s.coef) % 4294967296 = C := hC.symm
              have hCw : IntKind.u32.wrap (t.coef + s.coef) = C := by rw [hC]; simp [IntKind.wrap, IntKind.bits, IntKind.signed]
              clear hlt hgt hC
              go_wp2
              all_goals first | omega | skip
              refine wp_region_quiet_q (by kernel_rfl) (by kernel_rfl) ?_
              repeat (first | (with_reducible refine wpQuiet_skipQ (by with_unfolding_all rfl) ?_; simp only [Act.put, List.setIfInBounds_toArray, List.set_cons_zero, List.set_cons_succ]) | (with_reducible refine wpQuiet_step (fun K hK => ?_); go_simp; (with_reducible refine hK _ ?_; clear hK K)))
              with_reducible refine wpQuiet_nil ?_
              intro _ hw'
              obtain ⟨pq, hw''⟩ := hw'
              subst hw''
              have ru0 : ∀ p : BelowQ pq.wd, p.wd.cell? ⟨w.heap.size, 0, none⟩ = some (.slice (some ⟨gx, ox, none⟩) n1 c1) := fun p => p.cell (Nat.lt_of_lt_of_le hxl pq.h.size) (u0 pq)
              have ru1 : ∀ p : BelowQ pq.wd, p.wd.cell? ⟨w.heap.size + 1, 0, none⟩ = some (.slice (some ⟨gy, oy, none⟩) n2 c2) := fun p => p.cell (Nat.lt_of_lt_of_le hyl pq.h.size) (u1 pq)
              have rv0 : ∀ p : BelowQ pq.wd, p.wd.cell? ⟨gx, ox + i * 2, none⟩ = some (.string (str t.name)) := fun p => p.cell (Nat.lt_of_lt_of_le hgxr pq.h.size) (v0 pq)
              have rv1 : ∀ p : BelowQ pq.wd, p.wd.cell? ⟨gx, ox + i * 2 + 1, none⟩ = some (.int .u32 t.coef) := fun p => p.cell (Nat.lt_of_lt_of_le hgxr pq.h.size) (v1 pq)
              have rs0 : ∀ p : BelowQ pq.wd, p.wd.cell? ⟨gy, oy + j * 2, none⟩ = some (.string (str s.name)) := fun p => p.cell (Nat.lt_of_lt_of_le hgyr pq.h.size) (s0 pq)
              have rs1 : ∀ p : BelowQ pq.wd, p.wd.cell? ⟨gy, oy + j * 2 + 1, none⟩ = some (.int .u32 s.coef) := fun p => p.cell (Nat.lt_of_lt_of_le hgyr pq.h.size) (s1 pq)
              clear u0 u1 v0 v1 s0 s1
              go_wp2_with fail
              all_goals first | omega | skip
              refine wp_region_quiet_q (by kernel_rfl) (by kernel_rfl) ?_
              repeat (first | (with_reducible refine wpQuiet_skipQ (by with_unfolding_all rfl) ?_; simp only [Act.put, List.setIfInBounds_toArray, List.set_cons_zero, List.set_cons_succ]) | (with_reducible refine wpQuiet_step (fun K hK => ?_); go_simp; (with_reducible refine hK _ ?_; clear hK K)))
              with_reducible refine wpQuiet_nil ?_
              intro _ hw'
              obtain ⟨pr, hw''⟩ := hw'
              subst hw''
              have ku0 : ∀ p : BelowQ pr.wd, p.wd.cell? ⟨w.heap.size, 0, none⟩ = some (.slice (some ⟨gx, ox, none⟩) n1 c1) := fun p => p.cell (Nat.lt_of_lt_of_le (Nat.lt_of_lt_of_le hxl pq.h.size) pr.h.size) (ru0 pr)
              have ku1 : ∀ p : BelowQ pr.wd, p.wd.cell? ⟨w.heap.size + 1, 0, none⟩ = some (.slice (some ⟨gy, oy, none⟩) n2 c2) := fun p => p.cell (Nat.lt_of_lt_of_le (Nat.lt_of_lt_of_le hyl pq.h.size) pr.h.size) (ru1 pr)
              have kv0 : ∀ p : BelowQ pr.wd, p.wd.cell? ⟨gx, ox + i * 2, none⟩ = some (.string (str t.name)) := fun p => p.cell (Nat.lt_of_lt_of_le (Nat.lt_of_lt_of_le hgxr pq.h.size) pr.h.size) (rv0 pr)
              have kv1 : ∀ p : BelowQ pr.wd, p.wd.cell? ⟨gx, ox + i * 2 + 1, none⟩ = some (.int .u32 t.coef) := fun p => p.cell (Nat.lt_of_lt_of_le (Nat.lt_of_lt_of_le hgxr pq.h.size) pr.h.size) (rv1 pr)
              have ks0 : ∀ p : BelowQ pr.wd, p.wd.cell? ⟨gy, oy + j * 2, none⟩ = some (.string (str s.name)) := fun p => p.cell (Nat.lt_of_lt_of_le (Nat.lt_of_lt_of_le hgyr pq.h.size) pr.h.size) (rs0 pr)
              have ks1 : ∀ p : BelowQ pr.wd, p.wd.cell? ⟨gy, oy + j * 2 + 1, none⟩ = some (.int .u32 s.coef) := fun p => p.cell (Nat.lt_of_lt_of_le (Nat.lt_of_lt_of_le hgyr pq.h.size) pr.h.size) (rs1 pr)
              clear ru0 ru1 rv0 rv1 rs0 rs1
              go_wp2_with fail
              all_goals first | omega | skip
              refine wp_region_quiet_q (by kernel_rfl) (by kernel_rfl) ?_
              repeat (first | (with_reducible refine wpQuiet_skipQ (by with_unfolding_all rfl) ?_; simp only [Act.put, List.setIfInBounds_toArray, List.set_cons_zero, List.set_cons_succ]) | (with_reducible refine wpQuiet_step (fun K hK => ?_); go_simp; (with_reducible refine hK _ ?_; clear hK K)))
              with_reducible refine wpQuiet_nil ?_
              intro _ hw'
              obtain ⟨ps, hw''⟩ := hw'
              subst hw''
              by_cases hC0 : C = 0
              · have hCb : (C != 0) = false := by simp [hC0]
                have hm2 : Hid (mrg (xs.drop i) (ys.drop j) = mrg (xs.drop (i + 1)) (ys.drop (j + 1))) := by show _ = _; rw [hm.out, emit, if_pos hC0]
                have hq := Hid.intro ((hS.out.kept ((pq.h.trans (pr.h.mono pq.h.size)).trans (ps.h.mono (Nat.le_trans pq.h.size pr.h.size)))).skip hm2.out (by omega))
                clear ku0 ku1 kv0 kv1 ks0 ks1
                go_wp2
                all_goals first | omega | skip
                go_roundw
                case rel => exact ⟨i + 1, j + 1, _, zs, by omega, by omega, by go_num, by go_num, hq⟩
                case measure => simp [intOf]; omega
              · have hCb : (C != 0) = true := by simp [hC0]
                have hm3 : Hid (mrg (xs.drop i) (ys.drop j) = ⟨t.name, C⟩ :: mrg (xs.drop (i + 1)) (ys.drop (j + 1))) := by show _ = _; rw [hm.out, emit, if_neg hC0]
                clear hm
                have hm := hm3
                clear hm3
                have hq := Hid.intro (hS.out.kept ((pq.h.trans (pr.h.mono pq.h.size)).trans (ps.h.mono (Nat.le_trans pq.h.size pr.h.size))))
                have hcell := Hid.intro (fun wq : World => cells_new wq #[.string (str t.name), .int .u32 C] 49)
                obtain ⟨_, o0, o1, of0, of1⟩ := hq.out.o.out
                have oA := fun o => (hq.out.kept (below_alloc ps.wd o)).o.out.c0
                have xA := fun o => (hq.out.kept (below_alloc ps.wd o)).x.c0
                have yA := fun o => (hq.out.kept (below_alloc ps.wd o)).y.c0
                have x2 := ku0 ps
                have y2 := ku1 ps
                have q0 : ps.wd.cell? ⟨gx, ox + i * 2, none⟩ = some (.string (str t.name)) := kv0 ps
                have q1 : ps.wd.cell? ⟨gx, ox + i * 2 + 1, none⟩ = some (.int .u32 t.coef) := kv1 ps
                have hgq : gx < ps.wd.heap.size := World.block_lt_of_cell? _ _ q0
                have qA : ∀ o, (ps.wd.alloc o).cell? ⟨gx, ox + i * 2, none⟩ = some (.string (str t.name)) := fun o => (TmAt.below ⟨q0, q1⟩ (below_alloc ps.wd o) hgq).1
                have qB : ∀ o, (ps.wd.alloc o).cell? ⟨gx, ox + i * 2 + 1, none⟩ = some (.int .u32 t.coef) := fun o => (TmAt.below ⟨q0, q1⟩ (below_alloc ps.wd o) hgq).2
                clear ku0 ku1 kv0 kv1 ks0 ks1
                go_wp2
                all_goals first | omega | skip
                go_region_law (refine step_term _ rfl (.tmp 114) (.tmp 123) rfl (w.heap.size + 1 + 1 + 1 + 1) b L d zs rfl (own_met hLH.out (hq.out.o.kept ((below_alloc ps.wd _).drew)).own) ps.wd.heap.size ⟨t.name, C⟩ rfl (hcell.out ps.wd) (by omega) (by have := hq.out.o.l4; simp; omega) ?_; intro a3 c3 w3 ho3 hg3; have hpf := Hid.intro (hq.out.push hLH.out ((below_alloc ps.wd _).drew) ho3 hg3 hm.out (by omega)); have hT3 := two_far hq.out.o ((below_alloc ps.wd _).drew) hg3; obtain ⟨_, z0, z1, zf0, zf1⟩ := hT3)
                all_goals clear z0 z1 zf0 zf1 oA xA yA qA qB o0 o1 of0 of1 q0 q1 x2 y2
                all_goals go_wp2_with fail
                all_goals first | omega | skip
                all_goals go_roundw
                case rel => exact ⟨i + 1, j + 1, _, zs ++ [⟨t.name, C⟩], by omega, by omega, by go_num, by go_num, hpf⟩
                case measure => simp [intOf]; omega
                case rel => exact ⟨i + 1, j + 1, _, zs ++ [⟨t.name, C⟩], by omega, by omega, by go_num, by go_num, hpf⟩
                case measure => simp [intOf]; omega
                case rel => exact ⟨i + 1, j + 1, _, zs ++ [⟨t.name, C⟩], by omega, by omega, by go_num, by go_num, hpf⟩
                case measure => simp [intOf]; omega
                case rel => exact ⟨i + 1, j + 1, _, zs ++ [⟨t.name, C⟩], by omega, by omega, by go_num, by go_num, hpf⟩
                case measure => simp [intOf]; omega
      · as_aux_lemma =>
          have j3 : ((j : Int) == (n2 : Int)) = true := by simp; omega
          have j4 : ¬ ((j : Int) < (n2 : Int)) := by omega
          obtain rfl : n2 = j := by omega
          have hm : Hid (mrg (xs.drop i) (ys.drop n2) = t :: mrg (xs.drop (i + 1)) (ys.drop n2)) := by show _ = _; rw [hn2H.out, List.drop_length, mrg_nil, mrg_nil, hdxH.out]
          go_wp2
          all_goals first | omega | skip
          refine wp_region_quiet_q (by kernel_rfl) (by kernel_rfl) ?_
          repeat (first | (with_reducible refine wpQuiet_skipQ (by with_unfolding_all rfl) ?_; simp only [Act.put, List.setIfInBounds_toArray, List.set_cons_zero, List.set_cons_succ]) | (with_reducible refine wpQuiet_step (fun K hK => ?_); go_simp; (with_reducible refine hK _ ?_; clear hK K)))
          with_reducible refine wpQuiet_nil ?_
          intro _ hw'
          obtain ⟨pq, hw''⟩ := hw'
          subst hw''
          have hq := Hid.intro (hS.out.kept pq.h)
          have hcell := Hid.intro (fun wq : World => cells_new wq #[.string (str t.name), .int .u32 t.coef] 49)
          obtain ⟨_, o0, o1, of0, of1⟩ := hq.out.o.out
          have oA := fun o => (hq.out.kept (below_alloc pq.wd o)).o.out.c0
          have xA := fun o => (hq.out.kept (below_alloc pq.wd o)).x.c0
          have yA := fun o => (hq.out.kept (below_alloc pq.wd o)).y.c0
          have x2 := u0 pq
          have y2 := u1 pq
          have q0 : pq.wd.cell? ⟨gx, ox + i * 2, none⟩ = some (.string (str t.name)) := v0 pq
          have q1 : pq.wd.cell? ⟨gx, ox + i * 2 + 1, none⟩ = some (.int .u32 t.coef) := v1 pq
          have hgq : gx < pq.wd.heap.size := World.block_lt_of_cell? _ _ q0
          have qA : ∀ o, (pq.wd.alloc o).cell? ⟨gx, ox + i * 2, none⟩ = some (.string (str t.name)) := fun o => (TmAt.below ⟨q0, q1⟩ (below_alloc pq.wd o) hgq).1
          have qB : ∀ o, (pq.wd.alloc o).cell? ⟨gx, ox + i * 2 + 1, none⟩ = some (.int .u32 t.coef) := fun o => (TmAt.below ⟨q0, q1⟩ (below_alloc pq.wd o) hgq).2
          clear u0 u1 v0 v1
          go_wp2
          all_goals first | omega | skip
          go_region_law (refine step_term _ rfl (.tmp 55) (.tmp 61) rfl (w.heap.size + 1 + 1 + 1 + 1) b L d zs rfl (own_met hLH.out (hq.out.o.kept ((below_alloc pq.wd _).drew)).own) pq.wd.heap.size t rfl (hcell.out pq.wd) (by omega) (by have := hq.out.o.l4; simp; omega) ?_; intro a3 c3 w3 ho3 hg3; have hpf := Hid.intro (hq.out.push hLH.out ((below_alloc pq.wd _).drew) ho3 hg3 hm.out (by omega)); have hT3 := two_far hq.out.o ((below_alloc pq.wd _).drew) hg3; obtain ⟨_, z0, z1, zf0, zf1⟩ := hT3)
          all_goals clear z0 z1 zf0 zf1 oA xA yA qA qB o0 o1 of0 of1 q0 q1 x2 y2
          all_goals go_wp2_with fail
          all_goals first | omega | skip
          all_goals go_roundw
          case rel => exact ⟨i + 1, n2, _, zs ++ [t], by omega, by omega, by go_num, by go_num, hpf⟩
          case measure => simp [intOf]; omega
          case rel => exact ⟨i + 1, n2, _, zs ++ [t], by omega, by omega, by go_num, by go_num, hpf⟩
          case measure => simp [intOf]; omega
          case rel => exact ⟨i + 1, n2, _, zs ++ [t], by omega, by omega, by go_num, by go_num, hpf⟩
          case measure => simp [intOf]; omega
          case rel => exact ⟨i + 1, n2, _, zs ++ [t], by omega, by omega, by go_num, by go_num, hpf⟩
          case measure => simp [intOf]; omega
    · have i3 : ((i : Int) == (n1 : Int)) = true := by simp; omega
      have i4 : ¬ ((i : Int) < (n1 : Int)) := by omega
      obtain rfl : n1 = i := by omega
      by_cases hjN : j < n2
      · as_aux_lemma =>
          obtain ⟨s, hs⟩ : ∃ s, ys[j]? = some s := ⟨ys[j]'(by rw [← hn2H.out]; exact hjN), List.getElem?_eq_getElem _⟩
          obtain ⟨gy, oy, rfl, hgy, hTy⟩ : ∃ gy oy, a2 = some ⟨gy, oy, none⟩ ∧ gy < w.heap.size ∧ TmAt w gy (oy + j * 2) s := by
            rcases hYH.out with h | ⟨gy, oy, e1, e2, e3⟩
            · rw [h] at hs; simp at hs
            · exact ⟨gy, oy, e1, e2, e3 j s hs⟩
          have hdy : ys.drop j = s :: ys.drop (j + 1) := by
            obtain ⟨hl, he⟩ := List.getElem?_eq_some_iff.1 hs
            rw [List.drop_eq_getElem_cons hl, he]
          have hTyr := Hid.intro (hTy.below hlowH.out hgy)
          have hgyr : gy < wr.heap.size := Nat.lt_of_lt_of_le hgy hlowH.out.size
          have s0 : ∀ p : BelowQ wr, p.wd.cell? ⟨gy, oy + j * 2, none⟩ = some (.string (str s.name)) := fun p => p.cell hgyr hTyr.out.1
          have s1 : ∀ p : BelowQ wr, p.wd.cell? ⟨gy, oy + j * 2 + 1, none⟩ = some (.int .u32 s.coef) := fun p => p.cell hgyr hTyr.out.2
          have j2 : (j : Int) < (n2 : Int) := by omega
          have j3 : ((j : Int) == (n2 : Int)) = false := by simp; omega
          have hm : Hid (mrg (xs.drop n1) (ys.drop j) = s :: mrg (xs.drop n1) (ys.drop (j + 1))) := by show _ = _; rw [hn1H.out, List.drop_length, nil_mrg, nil_mrg, hdy]
          clear hs hTy hdy
          go_wp2
          all_goals first | omega | skip
          refine wp_region_quiet_q (by kernel_rfl) (by kernel_rfl) ?_
          repeat (first | (with_reducible refine wpQuiet_skipQ (by with_unfolding_all rfl) ?_; simp only [Act.put, List.setIfInBounds_toArray, List.set_cons_zero, List.set_cons_succ]) | (with_reducible refine wpQuiet_step (fun K hK => ?_); go_simp; (with_reducible refine hK _ ?_; clear hK K)))
          with_reducible refine wpQuiet_nil ?_
          intro _ hw'
          obtain ⟨pq, hw''⟩ := hw'
          subst hw''
          have ru0 : ∀ p : BelowQ pq.wd, p.wd.cell? ⟨w.heap.size, 0, none⟩ = some (.slice a1 n1 c1) := fun p => p.cell (Nat.lt_of_lt_of_le hxl pq.h.size) (u0 pq)
          have ru1 : ∀ p : BelowQ pq.wd, p.wd.cell? ⟨w.heap.size + 1, 0, none⟩ = some (.slice (some ⟨gy, oy, none⟩) n2 c2) := fun p => p.cell (Nat.lt_of_lt_of_le hyl pq.h.size) (u1 pq)
          have rs0 : ∀ p : BelowQ pq.wd, p.wd.cell? ⟨gy, oy + j * 2, none⟩ = some (.string (str s.name)) := fun p => p.cell (Nat.lt_of_lt_of_le hgyr pq.h.size) (s0 pq)
          have rs1 : ∀ p : BelowQ pq.wd, p.wd.cell? ⟨gy, oy + j * 2 + 1, none⟩ = some (.int .u32 s.coef) := fun p => p.cell (Nat.lt_of_lt_of_le hgyr pq.h.size) (s1 pq)
          clear u0 u1 s0 s1
          go_wp2_with fail
          all_goals first | omega | skip
          refine wp_region_quiet_q (by kernel_rfl) (by kernel_rfl) ?_
          repeat (first | (with_reducible refine wpQuiet_skipQ (by with_unfolding_all rfl) ?_; simp only [Act.put, List.setIfInBounds_toArray, List.set_cons_zero, List.set_cons_succ]) | (with_reducible refine wpQuiet_step (fun K hK => ?_); go_simp; (with_reducible refine hK _ ?_; clear hK K)))
          with_reducible refine wpQuiet_nil ?_
          intro _ hw'
          obtain ⟨pr, hw''⟩ := hw'
          subst hw''
          have hq := Hid.intro (hS.out.kept (pq.h.trans (pr.h.mono pq.h.size)))
          have hcell := Hid.intro (fun wq : World => cells_new wq #[.string (str s.name), .int .u32 s.coef] 49)
          obtain ⟨_, o0, o1, of0, of1⟩ := hq.out.o.out
          have oA := fun o => (hq.out.kept (below_alloc pr.wd o)).o.out.c0
          have xA := fun o => (hq.out.kept (below_alloc pr.wd o)).x.c0
          have yA := fun o => (hq.out.kept (below_alloc pr.wd o)).y.c0
          have x2 := ru0 pr
          have y2 := ru1 pr
          have q0 : pr.wd.cell? ⟨gy, oy + j * 2, none⟩ = some (.string (str s.name)) := rs0 pr
          have q1 : pr.wd.cell? ⟨gy, oy + j * 2 + 1, none⟩ = some (.int .u32 s.coef) := rs1 pr
          have hgq : gy < pr.wd.heap.size := World.block_lt_of_cell? _ _ q0
          have qA : ∀ o, (pr.wd.alloc o).cell? ⟨gy, oy + j * 2, none⟩ = some (.string (str s.name)) := fun o => (TmAt.below ⟨q0, q1⟩ (below_alloc pr.wd o) hgq).1
          have qB : ∀ o, (pr.wd.alloc o).cell? ⟨gy, oy + j * 2 + 1, none⟩ = some (.int .u32 s.coef) := fun o => (TmAt.below ⟨q0, q1⟩ (below_alloc pr.wd o) hgq).2
          clear ru0 ru1 rs0 rs1
          go_wp2
          all_goals first | omega | skip
          go_region_law (refine step_term _ rfl (.tmp 87) (.tmp 93) rfl (w.heap.size + 1 + 1 + 1 + 1) b L d zs rfl (own_met hLH.out (hq.out.o.kept ((below_alloc pr.wd _).drew)).own) pr.wd.heap.size s rfl (hcell.out pr.wd) (by omega) (by have := hq.out.o.l4; simp; omega) ?_; intro a3 c3 w3 ho3 hg3; have hpf := Hid.intro (hq.out.push hLH.out ((below_alloc pr.wd _).drew) ho3 hg3 hm.out (by omega)); have hT3 := two_far hq.out.o ((below_alloc pr.wd _).drew) hg3; obtain ⟨_, z0, z1, zf0, zf1⟩ := hT3)
          all_goals clear z0 z1 zf0 zf1 oA xA yA qA qB o0 o1 of0 of1 q0 q1 x2 y2
          all_goals go_wp2_with fail
          all_goals first | omega | skip
          all_goals go_roundw
          case rel => exact ⟨n1, j + 1, _, zs ++ [s], by omega, by omega, by go_num, by go_num, hpf⟩
          case measure => simp [intOf]; omega
          case rel => exact ⟨n1, j + 1, _, zs ++ [s], by omega, by omega, by go_num, by go_num, hpf⟩
          case measure => simp [intOf]; omega
          case rel => exact ⟨n1, j + 1, _, zs ++ [s], by omega, by omega, by go_num, by go_num, hpf⟩
          case measure => simp [intOf]; omega
          case rel => exact ⟨n1, j + 1, _, zs ++ [s], by omega, by omega, by go_num, by go_num, hpf⟩
          case measure => simp [intOf]; omega
      · obtain rfl : n2 = j := by omega
        have j4 : ¬ ((n2 : Int) < (n2 : Int)) := by omega
        obtain ⟨_, o0, o1, of0, of1⟩ := hS.out.o.out
        obtain ⟨rh, r0, r1, rf0, rf1⟩ := hS.out.o.res
        have rhH := Hid.intro rh
        have hfin : Hid (zs = mrg xs ys) := by
          show zs = _
          have h1 := hS.out.inv
          rw [hn1H.out, hn2H.out, List.drop_length, List.drop_length, nil_mrg, List.append_nil] at h1
          exact h1
        have hl4 := hS.out.o.l4
        clear rh u0 u1
        go_wp2
        all_goals first | omega | skip
        obtain ⟨s1, s2⟩ := two_set rhH.out rfl (.slice b L d) (.int .u32 kc)
        have hb2 : Below w.heap.size w ((wr.setCell ⟨w.heap.size + 1 + 1, 0, none⟩ (.slice b L d)).setCell ⟨w.heap.size + 1 + 1, 1, none⟩ (.int .u32 kc)) := hS.out.o.bel.grown s2 hS.out.o.bel.size (fun q hq => by cases hq; omega)
        generalize ((wr.setCell ⟨w.heap.size + 1 + 1, 0, none⟩ (.slice b L d)).setCell ⟨w.heap.size + 1 + 1, 1, none⟩ (.int .u32 kc)) = w3 at s1 s2 hb2 ⊢
        obtain ⟨_, z0, z1, _, _⟩ := s1
        refine bodyPost_ret (by simp [results, Try.results36, go_sem, z0, z1]; try rfl) rfl ?_
        refine ⟨hb2, _, by rw [hkcH.out], ?_⟩
        have hown := own_weaken (own_low hS.out.o.own s2 (by omega)) (B := w.heap.size) (by omega)
        rw [hfin.out] at hown
        exact hown
end Go.Proofs.Ytebbbefknfldoaa
/- Sums of several expressions, and what Put makes, as functions on lists: plain facts. -/
namespace Go.Proofs.Ytebbbefknfldoaa
set_option linter.unusedVariables false
set_option linter.unusedSimpArgs false
theorem nodup_le {α : Type} [DecidableEq α] : ∀ (l m : List α), l.Nodup → (∀ x ∈ l, x ∈ m) → l.length ≤ m.length
  | [], m, _, _ => Nat.zero_le _
  | x :: l, m, hn, hs => by
    obtain ⟨hx, hl⟩ := List.nodup_cons.1 hn
    have hm := hs x (by simp)
    have h1 := nodup_le l (m.erase x) hl (fun y hy => (List.mem_erase_of_ne (fun e => hx (by rw [← e]; exact hy))).2 (hs y (by simp [hy])))
    have h2 := List.length_erase_of_mem hm
    have h3 := List.length_pos_of_mem hm
    simp only [List.length_cons]
    omega
theorem Canon.nodup {l : List Tm} (h : Canon l) : (l.map (·.name)).Nodup := by
  rw [List.Nodup, List.pairwise_map]
  exact h.rise.imp fun h e => nlt_ne h e
theorem canon_len {l : List Tm} (h : Canon l) {S : List (List UInt8)} (hs : ∀ t ∈ l, t.name ∈ S) : l.length ≤ S.length := by
  have := nodup_le _ S h.nodup (fun x hx => by obtain ⟨t, ht, rfl⟩ := List.mem_map.1 hx; exact hs t ht)
  simpa using this
structure CanL (x : Lin) : Prop where
  terms : Canon x.terms
  const : 0 ≤ x.const ∧ x.const < 4294967296
def sumN (ps : List Lin) : Lin := ⟨norm (ps.flatMap (·.terms)), (ps.map (·.const)).sum % 4294967296⟩
theorem sumN_can (ps : List Lin) : CanL (sumN ps) := ⟨canon_norm _, by unfold sumN; dsimp only; omega⟩
theorem canL_ext {x y : Lin} (hx : CanL x) (hy : CanL y) (h : ∀ n, cfOf n x.terms % 4294967296 = cfOf n y.terms % 4294967296) (hc : x.const % 4294967296 = y.const % 4294967296) : x = y := by
  obtain ⟨a, b⟩ := x
  obtain ⟨c, d⟩ := y
  have h1 := hx.const
  have h2 := hy.const
  have e1 := canon_unique hx.terms hy.terms h
  dsimp only at *
  rw [e1, show b = d by omega]
theorem sumN_one {p : Lin} (h : CanL p) : sumN [p] = p := by
  obtain ⟨a, b⟩ := p
  have h2 := h.const
  have e := norm_canon h.terms
  unfold sumN
  simp only [List.flatMap_cons, List.flatMap_nil, List.append_nil, List.map_cons, List.map_nil, List.sum_cons, List.sum_nil, Int.add_zero]
  dsimp only at *
  rw [e, Int.emod_eq_of_lt h2.1 h2.2]
theorem sumN_append (a b : List Lin) : sumN (a ++ b) = ⟨addT (sumN a).terms (sumN b).terms, ((sumN a).const + (sumN b).const) % 4294967296⟩ := by
  unfold sumN
  simp only [List.flatMap_append, List.map_append, List.sum_append]
  congr 1
  · refine canon_unique (canon_norm _) (canon_add _ _) fun n => ?_
    rw [cf_norm, cf_add, cfOf_append]
    have h1 := cf_norm n (a.flatMap (·.terms))
    have h2 := cf_norm n (b.flatMap (·.terms))
    omega
  · omega
theorem mem_gather {t : Tm} : ∀ {l : List Tm}, t ∈ gather l → ∃ x ∈ l, x.name = t.name
  | [], h => by cases h
  | a :: l, h => by
    rw [gather_gat] at h
    rcases mem_gat h with e | h
    · exact ⟨a, by simp, e.symm⟩
    · exact h
theorem mem_norm {t : Tm} {l : List Tm} (h : t ∈ norm l) : ∃ x ∈ l, x.name = t.name := by
  obtain ⟨x, hx, e⟩ := mem_gather h
  exact ⟨x, (List.mergeSort_perm l leT).mem_iff.1 hx, e⟩
theorem mem_sumN {t : Tm} {ps : List Lin} (h : t ∈ (sumN ps).terms) : ∃ p ∈ ps, ∃ x ∈ p.terms, x.name = t.name := by
  obtain ⟨x, hx, e⟩ := mem_norm h
  obtain ⟨p, hp, hx⟩ := List.mem_flatMap.1 hx
  exact ⟨p, hp, x, hx, e⟩
def mulL (x : Lin) (n : Int) : Lin := ⟨timesT x.terms n, x.const * n % 4294967296⟩
theorem mulL_can {x : Lin} (h : CanL x) (n : Int) : CanL (mulL x n) := ⟨canon_times h.terms n, by unfold mulL; dsimp only; omega⟩
def partsF (F : List UInt8 → Option Lin) (ts : List Tm) : List Lin := ts.filterMap fun t => (F t.name).map fun e => mulL e t.coef
def restF (F : List UInt8 → Option Lin) (ts : List Tm) : List Tm := ts.filter fun t => (F t.name).isNone
def putN (F : List UInt8 → Option Lin) (x : Lin) : Lin := sumN (partsF F x.terms ++ [⟨restF F x.terms, x.const⟩])
theorem putN_can (F : List UInt8 → Option Lin) (x : Lin) : CanL (putN F x) := sumN_can _
theorem partsF_some {F : List UInt8 → Option Lin} {ts : List Tm} {i : Nat} {t : Tm} {e : Lin} (ht : ts[i]? = some t) (h : F t.name = some e) : partsF F (ts.take (i + 1)) = partsF F (ts.take i) ++ [mulL e t.coef] ∧ restF F (ts.take (i + 1)) = restF F (ts.take i) := by
  unfold partsF restF
  rw [List.take_add_one, ht, List.filterMap_append, List.filter_append]
  simp [h]
theorem partsF_none {F : List UInt8 → Option Lin} {ts : List Tm} {i : Nat} {t : Tm} (ht : ts[i]? = some t) (h : F t.name = none) : partsF F (ts.take (i + 1)) = partsF F (ts.take i) ∧ restF F (ts.take (i + 1)) = restF F (ts.take i) ++ [t] := by
  unfold partsF restF
  rw [List.take_add_one, ht, List.filterMap_append, List.filter_append]
  simp [h]
theorem canon_filter {l : List Tm} (h : Canon l) (p : Tm → Bool) : Canon (l.filter p) := ⟨h.rise.filter p, fun t ht => h.some t (List.mem_filter.1 ht).1⟩
theorem rest_can {F : List UInt8 → Option Lin} {x : Lin} (h : CanL x) (k : Nat) : CanL ⟨restF F (x.terms.take k), x.const⟩ := ⟨canon_filter ⟨h.terms.rise.sublist (List.take_sublist _ _), fun t ht => h.terms.some t (List.mem_of_mem_take ht)⟩ _, h.const⟩
theorem partsF_mem {F : List UInt8 → Option Lin} {ts : List Tm} {p : Lin} (h : p ∈ partsF F ts) : ∃ t ∈ ts, ∃ e, F t.name = some e ∧ p = mulL e t.coef := by
  obtain ⟨t, ht, h2⟩ := List.mem_filterMap.1 h
  cases he : F t.name with
  | none => rw [he] at h2; cases h2
  | some e => rw [he] at h2; exact ⟨t, ht, e, he, (Option.some.inj h2).symm⟩
end Go.Proofs.Ytebbbefknfldoaa
/- equ.sum. -/
namespace Go.Proofs.Ytebbbefknfldoaa
open Go.ChangeShapes Go.WideShapes Go.ChangeAt Go.RowKit
set_option linter.unusedVariables false
set_option linter.unusedSimpArgs false
set_option maxRecDepth 100000
def PartsAt (w : World) (lo : Nat) (a : Option Addr) (ps : List Lin) : Prop := ∃ g o, a = some ⟨g, o, none⟩ ∧ g < w.heap.size ∧ ∀ i p, ps[i]? = some p → ∃ v, w.cell? ⟨g, o + i * 2, none⟩ = some v ∧ w.cell? ⟨g, o + i * 2 + 1, none⟩ = some (.int .u32 p.const) ∧ w.ownsRow lo 49 2 v p.terms.length (rowT p.terms)
theorem own_bel {w w' : World} {lo B : Nat} {T : TypeId} {sz : Nat} {v : Value} {n : Nat} {xs : List Value} (h : w.ownsRow lo T sz v n xs) (hb : Below B w w') (hB : w.heap.size ≤ B) : w'.ownsRow lo T sz v n xs := by
  refine ⟨h.1, ?_⟩
  rcases h.2 with hx | ⟨g, cap, cur, k1, k2, k3, k4⟩
  · exact .inl hx
  · have := (Array.getElem?_eq_some_iff.1 k3).1
    exact .inr ⟨g, cap, cur, k1, k2, (hb.block g (by omega)).trans k3, k4⟩
theorem PartsAt.below {w w' : World} {lo : Nat} {a : Option Addr} {ps : List Lin} (h : PartsAt w lo a ps) (hb : Below w.heap.size w w') : PartsAt w' lo a ps := by
  obtain ⟨g, o, ha, hg, h⟩ := h
  refine ⟨g, o, ha, Nat.lt_of_lt_of_le hg hb.size, fun i p hi => ?_⟩
  obtain ⟨v, h1, h2, h3⟩ := h i p hi
  exact ⟨v, (hb.cell (p := ⟨g, _, none⟩) hg).trans h1, (hb.cell (p := ⟨g, _, none⟩) hg).trans h2, own_bel h3 hb (Nat.le_refl _)⟩
theorem cut_h (a : Option Addr) (len c n : Nat) (h : n ≤ c) (w : World) : (Instr.slice 87 (.slice a len c) none (some (.int .i64 (n : Int))) none).run Try.prog w = .ok (.slice a n c) w := by
  rw [run_slice_h w 87 a len c (by kernel_rfl) .i64 (n : Int) (by omega) (by omega)]
  have : (sizeOf (Try.prog.elem 87)).run Try.prog w = .ok 2 w := by kernel_rfl
  rw [this]
  simp only [Result.andThen, sliced]
  cases a with
  | none => simp
  | some a => simp [Addr.add]
theorem cut_hAt (a : Option Addr) (len c n : Nat) (h : n ≤ c) (w : World) : (Instr.sliceAt 87 (.slice a len c) none (some (.int .i64 (n : Int))) none).run Try.prog w = .ok (.slice a n c) w := by
  rw [run_sliceAt_slice w 87 _ _ _ _ (by kernel_rfl)]
  exact cut_h a len c n h w
theorem cut_l (g o len c n : Nat) (h : n < len) (h2 : len ≤ c) (w : World) : (Instr.slice 87 (.slice (some ⟨g, o, none⟩) len c) (some (.int .i64 (n : Int))) none none).run Try.prog w = .ok (.slice (some ⟨g, o + n * 2, none⟩) (len - n) (c - n)) w := by
  rw [run_slice_l w 87 (some ⟨g, o, none⟩) len c (by kernel_rfl) .i64 (n : Int) (by omega) (by omega)]
  have : (sizeOf (Try.prog.elem 87)).run Try.prog w = .ok 2 w := by kernel_rfl
  rw [this]
  simp only [Result.andThen, sliced]
  have : n ≠ c := by omega
  simp [Addr.add]
  rw [if_neg (by omega)]
  by_cases hz : n * 2 = 0
  · rw [if_pos hz, show o + n * 2 = o by omega]
  · rw [if_neg hz]
theorem cut_lAt (g o len c n : Nat) (h : n < len) (h2 : len ≤ c) (w : World) : (Instr.sliceAt 87 (.slice (some ⟨g, o, none⟩) len c) (some (.int .i64 (n : Int))) none none).run Try.prog w = .ok (.slice (some ⟨g, o + n * 2, none⟩) (len - n) (c - n)) w := by
  rw [run_sliceAt_slice w 87 _ _ _ _ (by kernel_rfl)]
  exact cut_l g o len c n h h2 w
set_option maxHeartbeats 8000000 in
theorem sum_any (S : List (List UInt8)) (hS : S.length ≤ 4400000) : ∀ (m : Nat) (ps : List Lin), ps.length ≤ m → 0 < ps.length → (∀ p ∈ ps, CanL p ∧ ∀ t ∈ p.terms, t.name ∈ S) → ∀ (w : World) (a : Option Addr) (c lo : Nat), ps.length ≤ c → c ≤ 9223372036854775807 → lo ≤ w.heap.size → PartsAt w lo a ps →
    Calls Try.prog 47 #[.slice a ps.length c] w fun e w' => Below w.heap.size w w' ∧ ∃ v, e = .returned (linV v (sumN ps).const) ∧ w'.ownsRow lo 49 2 v (sumN ps).terms.length (rowT (sumN ps).terms)
  | 0, ps, hm, h0, hp, w, a, c, lo, hc, hc2, hlo, hP => by omega
  | m + 1, ps, hm, h0, hp, w, a, c, lo, hc, hc2, hlo, hP => by
    have hsl : ∀ qs : List Lin, (∀ p ∈ qs, p ∈ ps) → (sumN qs).terms.length ≤ 4400000 := fun qs hq => by
      refine Nat.le_trans (canon_len (sumN_can qs).terms (S := S) fun t ht => ?_) hS
      obtain ⟨p, hp1, x, hx, e⟩ := mem_sumN ht
      rw [← e]
      exact (hp p (hq p hp1)).2 x hx
    have hbw := below_alloc w (.cells #[.slice none 0 0, .int .u32 0] 29)
    have t0 := two_new w 29 (.slice none 0 0) (.int .u32 0)
    by_cases h1 : ps.length = 1
    · obtain ⟨p, rfl⟩ : ∃ p, ps = [p] := by
        match ps, h1 with
        | [p], _ => exact ⟨p, rfl⟩
      rw [sumN_one (hp p (by simp)).1]
      obtain ⟨g, o, rfl, hg, hP⟩ := hP
      obtain ⟨v, h2, h3, h4⟩ := hP 0 p rfl
      rw [Nat.zero_mul, Nat.add_zero] at h2 h3
      have d0 := (hbw.cell (p := ⟨g, o, none⟩) hg).trans h2
      have d1 := (hbw.cell (p := ⟨g, o + 1, none⟩) hg).trans h3
      have h4H := Hid.intro h4
      have hgn : ¬ w.heap.size = g := by omega
      have hgn2 : ¬ g = w.heap.size := by omega
      have hbH := Hid.intro hbw
      obtain ⟨_, x0, x1, xf0, xf1⟩ := t0
      obtain ⟨va, vc, rfl⟩ := own_slice h4
      obtain ⟨pn, hpn⟩ : ∃ pn, pn = p.terms.length := ⟨_, rfl⟩
      have hpH := Hid.intro hpn
      rw [← hpn] at h2 d0
      clear h4 hP hp hsl h2 h3 hbw hpn
      go_enter Try.func47, Try.ntmps47
      go_wp2
      all_goals first | omega | skip
      obtain ⟨_, z0, z1, _, _⟩ := two_new w 29 (.slice va pn vc) (.int .u32 p.const)
      refine bodyPost_ret (by simp [results, Try.results47, go_sem, z0, z1]; try rfl) rfl ?_
      exact ⟨below_alloc w _, _, rfl, by rw [hpH.out]; exact h4H.out.alloc _⟩
    · obtain ⟨g, o, rfl, hg, hPs⟩ := id hP
      obtain ⟨h, hh⟩ : ∃ h, h = ps.length / 2 := ⟨_, rfl⟩
      obtain ⟨n, hn⟩ : ∃ n, n = ps.length := ⟨_, rfl⟩
      have hh1 : 0 < h ∧ h < n := by omega
      have hh2 : h ≤ 9223372036854775807 := by omega
      have hP0 := hP.below hbw
      obtain ⟨W0, hW0⟩ : ∃ W0, W0 = w.alloc (.cells #[.slice none 0 0, .int .u32 0] 29) := ⟨_, rfl⟩
      have hs0 : W0.heap.size = w.heap.size + 1 := by rw [hW0]; simp
      rw [← hW0] at hP0 t0 hbw
      have htk : (ps.take h).length = h := by rw [List.length_take]; omega
      have hdr : (ps.drop h).length = n - h := by rw [List.length_drop]; omega
      have hAp : ∀ W, Below W0.heap.size W0 W → PartsAt W lo (some ⟨g, o, none⟩) (ps.take h) := fun W hB => by
        obtain ⟨g', o', e, h1, h2⟩ := hP0.below hB
        cases e
        exact ⟨g, o, rfl, h1, fun i p hi => h2 i p (by rw [List.getElem?_take] at hi; split at hi; exact hi; cases hi)⟩
      have hBp : ∀ W, Below W0.heap.size W0 W → PartsAt W lo (some ⟨g, o + h * 2, none⟩) (ps.drop h) := fun W hB => by
        obtain ⟨g', o', e, h1, h2⟩ := hP0.below hB
        cases e
        refine ⟨g, o + h * 2, rfl, h1, fun i p hi => ?_⟩
        rw [List.getElem?_drop] at hi
        obtain ⟨v, k1, k2, k3⟩ := h2 (h + i) p hi
        exact ⟨v, by rw [show o + h * 2 + i * 2 = o + (h + i) * 2 by omega]; exact k1, by rw [show o + h * 2 + i * 2 + 1 = o + (h + i) * 2 + 1 by omega]; exact k2, k3⟩
      have hlA := hsl (ps.take h) fun p hp => List.mem_of_mem_take hp
      have hlB := hsl (ps.drop h) fun p hp => List.mem_of_mem_drop hp
      have hsum := sumN_append (ps.take h) (ps.drop h)
      rw [List.take_append_drop] at hsum
      have iA := fun W lo2 hlo2 hPA => sum_any S hS m (ps.take h) (by omega) (by omega) (fun p hp1 => hp p (List.mem_of_mem_take hp1)) W (some ⟨g, o, none⟩) c lo2 (by omega) hc2 hlo2 hPA
      have iB := fun W lo2 hlo2 hPA => sum_any S hS m (ps.drop h) (by omega) (by omega) (fun p hp1 => hp p (List.mem_of_mem_drop hp1)) W (some ⟨g, o + h * 2, none⟩) (c - h) lo2 (by omega) (by omega) hlo2 hPA
      rw [htk] at iA
      rw [hdr] at iB
      generalize sumN (ps.take h) = A at *
      generalize sumN (ps.drop h) = B at *
      obtain ⟨na, hna⟩ : ∃ na, na = A.terms.length := ⟨_, rfl⟩
      obtain ⟨nb, hnb⟩ : ∃ nb, nb = B.terms.length := ⟨_, rfl⟩
      have hA : Hid (Calls Try.prog 47 #[.slice (some ⟨g, o, none⟩) h c] W0.drew fun e w1 => ∃ va vc, e = .returned (linV (.slice va na vc) A.const) ∧ Hid (w1.ownsRow lo 49 2 (.slice va na vc) na (rowT A.terms)) ∧ Hid (Below W0.heap.size W0 w1)) := by
        have hbd : Below W0.heap.size W0 W0.drew := (Below.refl _ W0).drew
        refine (iA W0.drew lo (by show lo ≤ W0.heap.size; omega) (hAp _ hbd)).mono ?_
        rintro e w1 ⟨hb1, v, rfl, ho⟩
        obtain ⟨va, vc, rfl⟩ := own_slice ho
        exact ⟨va, vc, by rw [hna], by show World.ownsRow _ _ _ _ _ _ _; rw [hna]; exact ho, hbd.trans hb1⟩
      have hB : Hid (∀ va vc w1, Hid (w1.ownsRow lo 49 2 (.slice va na vc) na (rowT A.terms)) → Hid (Below W0.heap.size W0 w1) → Calls Try.prog 47 #[.slice (some ⟨g, o + h * 2, none⟩) (n - h) (c - h)] w1 fun e w2 => ∃ vb cb, e = .returned (linV (.slice vb nb cb) B.const) ∧ Hid (w2.ownsRow lo 49 2 (.slice va na vc) na (rowT A.terms)) ∧ Hid (w2.ownsRow lo 49 2 (.slice vb nb cb) nb (rowT B.terms)) ∧ Hid (Below W0.heap.size W0 w2)) := fun va vc w1 ho1 hb1 => by
        refine (iB w1 lo (by have := hb1.out.size; omega) (hBp _ hb1.out)).mono ?_
        rintro e w2 ⟨hb2, v, rfl, ho⟩
        obtain ⟨vb, cb, rfl⟩ := own_slice ho
        exact ⟨vb, cb, by rw [hnb], own_bel ho1.out hb2 (Nat.le_refl _), by show World.ownsRow _ _ _ _ _ _ _; rw [hnb]; exact ho, hb1.out.trans (hb2.mono hb1.out.size)⟩
      have hC : Hid (∀ va vc vb cb w2, Hid (w2.ownsRow lo 49 2 (.slice va na vc) na (rowT A.terms)) → Hid (w2.ownsRow lo 49 2 (.slice vb nb cb) nb (rowT B.terms)) → Hid (Below W0.heap.size W0 w2) → Calls Try.prog 56 #[linV (.slice va na vc) A.const, linV (.slice vb nb cb) B.const] w2 fun e w3 => ∃ v3 n3 c3, e = .returned (linV (.slice v3 n3 c3) (sumN ps).const) ∧ Hid (w3.ownsRow (w.heap.size + 1) 49 2 (.slice v3 n3 c3) (sumN ps).terms.length (rowT (sumN ps).terms)) ∧ Hid (Below W0.heap.size W0 w3) ∧ w3.cell? ⟨w.heap.size, 0, none⟩ = some (.slice none 0 0) ∧ w3.cell? ⟨w.heap.size, 1, none⟩ = some (.int .u32 0) ∧ w3.frozen? ⟨w.heap.size, 0, none⟩ = false ∧ w3.frozen? ⟨w.heap.size, 1, none⟩ = false) := fun va vc vb cb w2 ho1 ho2 hb2 => by
        rw [hna] at ho1 ⊢
        rw [hnb] at ho2 ⊢
        refine (add_any va vb vc cb A.terms B.terms A.const B.const w2 (own_held ho1.out) (own_held ho2.out) hlA hlB).mono ?_
        rintro e w3 ⟨hb3, v, rfl, ho⟩
        obtain ⟨v3, c3, rfl⟩ := own_slice ho
        have hb4 := hb2.out.trans (hb3.mono hb2.out.size)
        obtain ⟨_, q0, q1, q2, q3⟩ := t0.below hb4 (by omega)
        rw [hsum]
        exact ⟨v3, _, c3, rfl, own_weaken ho (by have := hb2.out.size; omega), hb4, q0, q1, q2, q3⟩
      have hcut1 := cut_h (some ⟨g, o, none⟩) n c h (by omega)
      have hcut2 := cut_hAt (some ⟨g, o, none⟩) n c h (by omega)
      have hcut3 := cut_l g o n c h hh1.2 (by omega)
      have hcut4 := cut_lAt g o n c h hh1.2 (by omega)
      have hdv : ((n : Int)).tdiv 2 = (h : Int) := by rw [hh, ← hn]; rfl
      have hdv2 : ((n : Int)) / 2 = (h : Int) := by omega
      have hw1 : ¬ n = 1 := by omega
      have hlo2 := Hid.intro hlo
      have hbH := Hid.intro hbw
      have hs0H := Hid.intro hs0
      have t0H := Hid.intro t0
      rw [← hn] at *
      obtain ⟨h0, hh0⟩ : ∃ h0 : Nat, h0 = h := ⟨_, rfl⟩
      clear iA iB hAp hBp hP hPs hP0 hp hsl hsum hna hnb hlA hlB htk hdr hn hh t0 hbw hlo hs0
      generalize sumN ps = R at *
      go_enter Try.func47, Try.ntmps47
      go_upto_region 4 with fail
      all_goals first | omega | skip
      rw [← hW0]
      clear hW0
      go_region_held3 (fun _ => True) (trivial)
        ((first
          | (go_at_call 47; (with_reducible refine (hA.out).mono ?_); rintro e w1 ⟨va, vc, rfl, ho1, hb1⟩)
          | (go_at_call 47; (with_reducible refine (hB.out _ _ _ ho1 hb1).mono ?_); rintro e w2 ⟨vb, cb, rfl, ho2, ho3, hb2⟩)
          | (go_at_call 56; (with_reducible refine (hC.out _ _ _ _ _ ho2 ho3 hb2).mono ?_); rintro e w3 ⟨v3, n3, c3, rfl, ho4, hb3, q0, q1, q2, q3⟩)))
      obtain ⟨s1, s2⟩ := two_set (t0H.out.below hb3.out (by have := hs0H.out; omega)).heap rfl (.slice v3 n3 c3) (.int .u32 R.const)
      have hb4 : Below w.heap.size w ((w3.setCell ⟨w.heap.size, 0, none⟩ (.slice v3 n3 c3)).setCell ⟨w.heap.size, 1, none⟩ (.int .u32 R.const)) := (hbH.out.trans (hb3.out.mono (by have := hs0H.out; omega))).grown s2 (by have := hb3.out.size; have := hs0H.out; omega) (fun j hj => by cases hj; omega)
      generalize ((w3.setCell ⟨w.heap.size, 0, none⟩ (.slice v3 n3 c3)).setCell ⟨w.heap.size, 1, none⟩ (.int .u32 R.const)) = w4 at s1 s2 hb4 ⊢
      obtain ⟨_, z0, z1, _, _⟩ := s1
      go_wp2
      refine bodyPost_ret (by simp [results, Try.results47, go_sem, z0, z1]; try rfl) rfl ?_
      exact ⟨hb4, _, rfl, own_weaken (own_low ho4.out s2 (by omega)) (by have := hlo2.out; omega)⟩
end Go.Proofs.Ytebbbefknfldoaa
/- A map of names to expressions in memory: map[string]api.Lin. -/
namespace Go.Proofs.Ytebbbefknfldoaa
open Go.ChangeShapes Go.WideShapes Go.ChangeAt Go.RowKit Go.WideMaps Go.Maps
set_option linter.unusedVariables false
set_option maxRecDepth 100000
structure LV where
  a : Option Addr
  n : Nat
  c : Nat
  k : Int
abbrev LV.addr (x : LV) : Option Addr := x.a
abbrev LV.val (x : LV) : Value := .agg #[.slice x.a x.n x.c, .int .u32 x.k]
def spotD : Option Nat → DataW Unit
  | none => .nil
  | some s => .lit (.int .i64 s)
def addrD : Option Addr → DataW Unit
  | none => .nil
  | some p => .agg [.lit (.int .i64 p.block), .lit (.int .i64 p.off), spotD p.spot]
theorem spotD_inj : ∀ {x y : Option Nat}, spotD x = spotD y → x = y
  | none, none, _ => rfl
  | none, some y, h => by simp [spotD] at h
  | some x, none, h => by simp [spotD] at h
  | some x, some y, h => by simp [spotD] at h; rw [show x = y by omega]
theorem addrD_inj : ∀ {x y : Option Addr}, addrD x = addrD y → x = y
  | none, none, _ => rfl
  | none, some y, h => by simp [addrD] at h
  | some x, none, h => by simp [addrD] at h
  | some ⟨b, o, s⟩, some ⟨b', o', s'⟩, h => by
    simp only [addrD, DataW.agg.injEq, List.cons.injEq, DataW.lit.injEq, Lit.int.injEq, and_true, true_and] at h
    obtain ⟨h1, h2, h3⟩ := h
    rw [show b = b' by omega, show o = o' by omega, spotD_inj h3]
def LV.dat (x : LV) : DataW Unit := .agg [addrD x.a, .lit (.int .i64 x.n), .lit (.int .i64 x.c), .lit (.int .u32 x.k)]
theorem LV.dat_inj {x y : LV} (h : x.dat = y.dat) : x = y := by
  obtain ⟨a, n, c, k⟩ := x
  obtain ⟨a', n', c', k'⟩ := y
  simp only [LV.dat, DataW.agg.injEq, List.cons.injEq, DataW.lit.injEq, Lit.int.injEq, and_true, true_and] at h
  obtain ⟨h0, h1, h2, h3⟩ := h
  rw [addrD_inj h0, show n = n' by omega, show c = c' by omega, h3]
open Classical in
noncomputable def linE (v : Value) : Option (DataW Unit × List MemPlace) := if h : ∃ x : LV, v = x.val then some (h.choose.dat, []) else none
theorem LV.val_inj {x y : LV} (h : x.val = y.val) : x = y := by
  obtain ⟨a, n, c, k⟩ := x
  obtain ⟨a', n', c', k'⟩ := y
  simp only [LV.val, Value.agg.injEq, Array.mk.injEq, List.cons.injEq, Value.slice.injEq, Value.int.injEq, and_true, true_and] at h
  obtain ⟨⟨h0, h1, h2⟩, h3⟩ := h
  subst h0 h1 h2 h3
  rfl
theorem linE_mk (x : LV) : linE x.val = some (x.dat, []) := by
  have h : ∃ y : LV, x.val = y.val := ⟨x, rfl⟩
  unfold linE
  rw [dif_pos h]
  have := h.choose_spec
  rw [← LV.val_inj this]
theorem linE_inv {v : Value} {x : LV} {ps : List MemPlace} (h : linE v = some (x.dat, ps)) : v = x.val := by
  unfold linE at h
  split at h
  · next hx =>
    have h2 := hx.choose_spec
    have h3 : hx.choose.dat = x.dat := by
      injection h with h
      injection h
    rw [h2, LV.dat_inj h3]
  · cases h
def LV.zero : LV := ⟨none, 0, 0, 0⟩
theorem zero29 (w : World) : (zeroValue 29).run Try.prog w = .ok LV.zero.val w := by kernel_rfl
def LnIs (w : World) (b n : Nat) (f : List UInt8 → Option LV) : Prop :=
  ∃ D : DataW Unit, w.ownsMap Try.prog 9 linE b n D ∧ IsMap D ∧ ∀ s, has D (.string s) = (f s).isSome ∧ ∀ z, f s = some z → ∀ zd, D.atKey (.string s) zd = z.dat
theorem LnIs.lt {w : World} {b n : Nat} {f : List UInt8 → Option LV} (h : LnIs w b n f) : b < w.heap.size := by
  obtain ⟨D, h1, _⟩ := h
  exact h1.lt
theorem LnIs.kept {w w' : World} {b n : Nat} {row : Option Nat} {f : List UInt8 → Option LV} (h : LnIs w b n f) (hg : w.grownBy w' row) (hne : some b ≠ row) : LnIs w' b n f := by
  obtain ⟨D, h1, h2, h3⟩ := h
  exact ⟨D, h1.kept hg hne, h2, h3⟩
theorem lnlook_run {w : World} {b n : Nat} {f : List UInt8 → Option LV} (h : LnIs w b n f) (s : List UInt8) (hs : s.length ≤ 140737488355328) : (Instr.lookup 69 (.map (some b)) (.string (str s)) true).run Try.prog w = .ok (.tuple #[((f s).getD LV.zero).val, .bool (f s).isSome]) w := by
  obtain ⟨D, hown, hD1, hD2⟩ := h
  have hsz : (str s).size ≤ maxLen := by
    have h2 : (str s).size = s.length := by simp [str, ByteArray.size]
    unfold maxLen
    omega
  have hkey : keyOf Try.prog 9 (.string (str s)) = some (.string s) := keyOf_string_mk Try.underlying9 hsz
  obtain ⟨v, ps, hrun, hv⟩ := hown.look_ok lawS Try.underlying69 (zero29 w) (linE_mk LV.zero) hkey
  rw [hrun, (hD2 s).1]
  cases hf : f s with
  | some z =>
    rw [(hD2 s).2 z hf] at hv
    rw [linE_inv hv]
    rfl
  | none =>
    have hno : has D (.string s) = false := by rw [(hD2 s).1, hf]; rfl
    rw [atKey_of_not_has hno] at hv
    rw [linE_inv hv]
    rfl
theorem lnput_run {w : World} {b n : Nat} {f : List UInt8 → Option LV} (h : LnIs w b n f) (hn : n ≤ 3000000) (s : List UInt8) (z : LV) (hs : s.length ≤ 140737488355328) :
    ∃ w', (Instr.mapUpdate 69 (.map (some b)) (.string (str s)) z.val).run Try.prog w = .ok () w' ∧ LnIs w' b (n + 1) (fun x => if x = s then some z else f x) ∧ w.grownBy w' (some b) := by
  obtain ⟨D, hown, hD1, hD2⟩ := h
  have hsz : (str s).size ≤ maxLen := by
    have h2 : (str s).size = s.length := by simp [str, ByteArray.size]
    unfold maxLen
    omega
  have hkey : keyOf Try.prog 9 (.string (str s)) = some (.string s) := keyOf_string_mk Try.underlying9 hsz
  obtain ⟨w', hrun, r1, r2⟩ := hown.update lawS Try.underlying69 (by unfold maxLen; omega) hkey (linE_mk z)
  refine ⟨w', hrun, ⟨_, r1, hD1.put _ _, fun x => ?_⟩, r2⟩
  by_cases hx : x = s
  · subst hx
    simp only [if_true]
    refine ⟨by rw [has_put_same hD1 (show WideAt.IsKeyLit (.string x) from trivial)]; rfl, fun y hy zd => ?_⟩
    cases hy
    exact atKey_put_same hD1 (show WideAt.IsKeyLit (.string x) from trivial) _ _
  · have n1 : (Lit.string x) ≠ .string s := fun e => hx (by injection e)
    simp only [hx, if_false]
    refine ⟨by rw [has_put_other n1]; exact (hD2 x).1, fun y hy zd => ?_⟩
    rw [atKey_put_other n1]
    exact (hD2 x).2 y hy zd
theorem LnIs.made (w : World) : LnIs (w.alloc (.map #[] 0)) w.heap.size 0 (fun _ => none) := by
  refine ⟨_, World.ownsMap_made w Try.prog 9 linE, ?_, fun s => ⟨rfl, fun z hz => by cases hz⟩⟩
  exact (World.ownsMap_made w Try.prog 9 linE).isMap
def LinMap (w : World) (b n : Nat) (F : List UInt8 → Option Lin) : Prop := ∃ f, LnIs w b n f ∧ ∀ s, (F s = none → f s = none) ∧ ∀ e, F s = some e → ∃ x, f s = some x ∧ x.n = e.terms.length ∧ x.k = e.const ∧ TmLies w x.addr e.terms
theorem LinMap.below {w w' : World} {b n : Nat} {F : List UInt8 → Option Lin} (h : LinMap w b n F) (hb : Below w.heap.size w w') : LinMap w' b n F := by
  obtain ⟨f, h1, h2⟩ := h
  refine ⟨f, h1.kept (row := none) ⟨hb.os, hb.tape, hb.output, hb.size, fun k hk _ => hb.block k hk⟩ (by simp), fun s => ⟨(h2 s).1, fun e he => ?_⟩⟩
  obtain ⟨x, k1, k2, k3, k4⟩ := (h2 s).2 e he
  exact ⟨x, k1, k2, k3, k4.below hb (Nat.le_refl _)⟩
theorem LinMap.made (w : World) : LinMap (w.alloc (.map #[] 0)) w.heap.size 0 (fun _ => none) := ⟨_, LnIs.made w, fun s => ⟨fun _ => rfl, fun e he => by cases he⟩⟩
theorem LinMap.lt {w : World} {b n : Nat} {F : List UInt8 → Option Lin} (h : LinMap w b n F) : b < w.heap.size := by
  obtain ⟨f, h1, _⟩ := h
  exact h1.lt
theorem LnIs.isMap {w : World} {b n : Nat} {f : List UInt8 → Option LV} (h : LnIs w b n f) : ∃ es clock, w.heap[b]? = some (.map es clock) := by
  obtain ⟨D, ⟨es, clock, h1, _⟩, _⟩ := h
  exact ⟨es, clock, h1⟩
theorem tm_cells {w : World} {g o : Nat} {t : Tm} (h : TmAt w g o t) {b : Nat} {es : Array MapEntry} {clock : Nat} (hb : w.heap[b]? = some (.map es clock)) : g ≠ b := fun e => by
  have := h.name
  subst e
  simp [World.cell?, hb] at this
theorem TmLies.turned {w w' : World} {a : Option Addr} {ts : List Tm} (h : TmLies w a ts) {b : Nat} {es : Array MapEntry} {clock : Nat} (hb : w.heap[b]? = some (.map es clock)) (hg : w.grownBy w' (some b)) : TmLies w' a ts := by
  rcases h with h | ⟨g, o, ha, hgl, h⟩
  · exact .inl h
  · refine .inr ⟨g, o, ha, Nat.lt_of_lt_of_le hgl hg.size, fun i t hi => ?_⟩
    have hne := tm_cells (h i t hi) hb
    have hc : ∀ j, w'.cell? ⟨g, j, none⟩ = w.cell? ⟨g, j, none⟩ := fun j => by
      have := hg.block g hgl (fun e => hne (Option.some.inj e))
      simp only [World.cell?, this]
    exact ⟨(hc _).trans (h i t hi).name, (hc _).trans (h i t hi).coef⟩
theorem linput {w : World} {b n : Nat} {F : List UInt8 → Option Lin} (h : LinMap w b n F) (hn : n ≤ 3000000) (s : List UInt8) (hs : s.length ≤ 140737488355328) (e : Lin) (a : Option Addr) (c : Nat) (hT : TmLies w a e.terms) :
    ∃ w', (Instr.mapUpdate 69 (.map (some b)) (.string (str s)) (.agg #[.slice a e.terms.length c, .int .u32 e.const])).run Try.prog w = .ok () w' ∧ LinMap w' b (n + 1) (fun x => if x = s then some e else F x) ∧ w.grownBy w' (some b) := by
  obtain ⟨f, h1, h2⟩ := h
  obtain ⟨w', hr, h3, hg⟩ := lnput_run h1 hn s ⟨a, e.terms.length, c, e.const⟩ hs
  obtain ⟨es, clock, hb⟩ := h1.isMap
  refine ⟨w', hr, ⟨_, h3, fun x => ?_⟩, hg⟩
  by_cases hx : x = s
  · simp only [hx, if_true]
    exact ⟨fun h => (by cases h), fun e' he => (by cases he; exact ⟨_, rfl, rfl, rfl, hT.turned hb hg⟩)⟩
  · simp only [hx, if_false]
    refine ⟨(h2 x).1, fun e' he => ?_⟩
    obtain ⟨y, k1, k2, k3, k4⟩ := (h2 x).2 e' he
    exact ⟨y, k1, k2, k3, k4.turned hb hg⟩
def eqF (l : List (List UInt8 × Lin)) : List UInt8 → Option Lin := l.foldl (fun f q => fun x => if x = q.1 then some q.2 else f x) (fun _ => none)
theorem eqF_take {l : List (List UInt8 × Lin)} {i : Nat} {q : List UInt8 × Lin} (h : l[i]? = some q) : eqF (l.take (i + 1)) = fun x => if x = q.1 then some q.2 else eqF (l.take i) x := by
  unfold eqF
  rw [List.take_add_one, h]
  simp [List.foldl_append]
theorem eqF_fold : ∀ (l : List (List UInt8 × Lin)) (g : List UInt8 → Option Lin) (x : List UInt8) (e : Lin), l.foldl (fun f q => fun x => if x = q.1 then some q.2 else f x) g x = some e → (∃ q ∈ l, q.1 = x ∧ q.2 = e) ∨ g x = some e
  | [], g, x, e, h => .inr h
  | q :: l, g, x, e, h => by
    rcases eqF_fold l _ x e h with ⟨r, h1, h2⟩ | h1
    · exact .inl ⟨r, by simp [h1], h2⟩
    · dsimp only at h1
      split at h1
      · next hx => exact .inl ⟨q, by simp, hx.symm, Option.some.inj h1⟩
      · exact .inr h1
theorem eqF_some {l : List (List UInt8 × Lin)} {x : List UInt8} {e : Lin} (h : eqF l x = some e) : ∃ q ∈ l, q.1 = x ∧ q.2 = e := by
  rcases eqF_fold l _ x e h with h | h
  · exact h
  · cases h
end Go.Proofs.Ytebbbefknfldoaa
namespace Go.Proofs.Ytebbbefknfldoaa
open Go.ChangeShapes Go.WideShapes Go.ChangeAt Go.RowKit
set_option linter.unusedVariables false
set_option linter.unusedSimpArgs false
set_option maxRecDepth 100000
theorem info29 : (Try.prog.info? 29).map (fun i => (i.zero, i.size, i.bytes)) = some (some (.agg #[.slice none 0 0, .int .u32 0]), 2, 32) := by kernel_rfl
def rowP (qs : List (Lin × Value)) : List Value := qs.flatMap fun q => [q.2, .int .u32 q.1.const]
theorem rowP_push (qs : List (Lin × Value)) (q : Lin × Value) : rowP (qs ++ [q]) = rowP qs ++ [q.2, .int .u32 q.1.const] := by simp [rowP]
theorem rowP_get : ∀ (qs : List (Lin × Value)) (i : Nat) (q : Lin × Value), qs[i]? = some q → (rowP qs)[i * 2]? = some q.2 ∧ (rowP qs)[i * 2 + 1]? = some (.int .u32 q.1.const)
  | [], i, q, h => by cases h
  | x :: l, 0, q, h => by
    have : x = q := by simpa using h
    subst this
    exact ⟨rfl, rfl⟩
  | x :: l, i + 1, q, h => by
    obtain ⟨h1, h2⟩ := rowP_get l i q (by simpa using h)
    have e : rowP (x :: l) = x.2 :: .int .u32 x.1.const :: rowP l := rfl
    rw [e, show (i + 1) * 2 = i * 2 + 1 + 1 by omega]
    exact ⟨h1, h2⟩
theorem own_ne {w w' : World} {lo : Nat} {T : TypeId} {sz : Nat} {v : Value} {n : Nat} {xs : List Value} {k : Option Nat} (h : w.ownsRow lo T sz v n xs) (hk : ∀ g, v.ownBlock = some g → k ≠ some g) (hg : w.grownBy w' k) : w'.ownsRow lo T sz v n xs := own_row h hk hg
theorem own_types {w : World} {lo lo' : Nat} {T T' : TypeId} {sz sz' : Nat} {v v' : Value} {n n' : Nat} {xs xs' : List Value} (h : w.ownsRow lo T sz v n xs) (h' : w.ownsRow lo' T' sz' v' n' xs') (hT : T ≠ T') : ∀ g, v.ownBlock = some g → v'.ownBlock ≠ some g := fun g e e' => by
  obtain ⟨c1, h1⟩ := own_type h e
  obtain ⟨c2, h2⟩ := own_type h' e'
  rw [h1] at h2
  injection h2 with h2
  injection h2 with _ h2
  exact hT h2
structure PSt (w : World) (F : List UInt8 → Option Lin) (x : Lin) (i : Nat) (qs : List (Lin × Value)) (v6 vr : Value) (wr : World) : Prop where
  le : i ≤ x.terms.length
  res : Two wr (w.heap.size + 1) 29 (.slice none 0 0) (.int .u32 0)
  rst : Two wr (w.heap.size + 1 + 1) 29 vr (.int .u32 x.const)
  ro : wr.ownsRow (w.heap.size + 1 + 1 + 1) 49 2 vr (restF F (x.terms.take i)).length (rowT (restF F (x.terms.take i)))
  ps : qs.map Prod.fst = partsF F (x.terms.take i)
  po : wr.ownsRow (w.heap.size + 1 + 1 + 1) 29 2 v6 qs.length (rowP qs)
  qo : ∀ q ∈ qs, wr.ownsRow (w.heap.size + 1 + 1 + 1) 49 2 q.2 q.1.terms.length (rowT q.1.terms) ∧ ∀ g, q.2.ownBlock = some g → vr.ownBlock ≠ some g
  bel : Below w.heap.size w wr
  size : w.heap.size + 1 + 1 + 1 ≤ wr.heap.size
section
variable {w : World} {F : List UInt8 → Option Lin} {x : Lin} {i : Nat} {qs : List (Lin × Value)} {v6 vr : Value} {wr w' : World}
theorem PSt.below (h : PSt w F x i qs v6 vr wr) (hb : Below wr.heap.size wr w') : PSt w F x i qs v6 vr w' := by
  have hs := h.size
  exact ⟨h.le, h.res.below hb (by omega), h.rst.below hb (by omega), own_bel h.ro hb (Nat.le_refl _), h.ps, own_bel h.po hb (Nat.le_refl _), fun q hq => ⟨own_bel (h.qo q hq).1 hb (Nat.le_refl _), (h.qo q hq).2⟩, h.bel.trans (hb.mono h.bel.size), Nat.le_trans hs hb.size⟩
theorem PSt.part (h : PSt w F x i qs v6 vr wr) {t : Tm} {e : Lin} (ht : x.terms[i]? = some t) (he : F t.name = some e) {lo : Nat} {vn v6' : Value} (hlo : wr.heap.size ≤ lo) {w1 : World} (hb : Below wr.heap.size wr w1) (hn : w1.ownsRow lo 49 2 vn (mulL e t.coef).terms.length (rowT (mulL e t.coef).terms)) (ho : w'.ownsRow (w.heap.size + 1 + 1 + 1) 29 2 v6' (qs.length + 1) (rowP qs ++ [vn, .int .u32 (mulL e t.coef).const])) (hg : w1.grownBy w' v6.ownBlock) :
    PSt w F x (i + 1) (qs ++ [(mulL e t.coef, vn)]) v6' vr w' := by
  obtain ⟨e1, e2⟩ := partsF_some ht he
  have h1 := h.below hb
  have hs := h.size
  have hk : ∀ g, v6.ownBlock = some g → w.heap.size + 1 + 1 + 1 ≤ g := fun g e => (h1.po.lt g e).1
  have hi := (List.getElem?_eq_some_iff.1 ht).1
  refine ⟨hi, h1.res.grown hg (fun e => by have := hk _ e; omega), h1.rst.grown hg (fun e => by have := hk _ e; omega), ?_, ?_, ?_, fun q hq => ?_, h1.bel.grown hg h1.bel.size (fun g e => by have := hk g e; omega), Nat.le_trans h1.size hg.size⟩
  · rw [e2]
    exact own_ne h1.ro (own_types h1.ro h1.po (by decide)) hg
  · rw [e1, List.map_append, h.ps]; rfl
  · rw [rowP_push, List.length_append]
    exact ho
  · rcases List.mem_append.1 hq with hq | hq
    · exact ⟨own_ne (h1.qo q hq).1 (own_types (h1.qo q hq).1 h1.po (by decide)) hg, (h1.qo q hq).2⟩
    · rw [List.mem_singleton.1 hq]
      refine ⟨own_weaken (own_ne hn (own_types hn h1.po (by decide)) hg) (by omega), fun g e e' => ?_⟩
      have h2 := (hn.lt g e).1
      have h3 := (h.ro.lt g e').2
      omega
theorem PSt.stay (h : PSt w F x i qs v6 vr wr) {t : Tm} (ht : x.terms[i]? = some t) (he : F t.name = none) {vr' : Value} {w1 w2 : World} (hb : Below wr.heap.size wr w1) (ho : w2.ownsRow (w.heap.size + 1 + 1 + 1) 49 2 vr' ((restF F (x.terms.take i)).length + 1) (rowT (restF F (x.terms.take i)) ++ t.cells)) (hg : w1.grownBy w2 vr.ownBlock) (hw : vr'.ownBlock = vr.ownBlock ∨ vr'.ownBlock = some w1.heap.size) :
    Two w2 (w.heap.size + 1 + 1) 29 vr (.int .u32 x.const) ∧ PSt w F x (i + 1) qs v6 vr' (w2.setCell ⟨w.heap.size + 1 + 1, 0, none⟩ vr') := by
  obtain ⟨e1, e2⟩ := partsF_none ht he
  have h1 := h.below hb
  have hs := h.size
  have hk : ∀ g, vr.ownBlock = some g → w.heap.size + 1 + 1 + 1 ≤ g := fun g e => (h1.ro.lt g e).1
  have hi := (List.getElem?_eq_some_iff.1 ht).1
  have hr := h1.rst.grown hg (fun e => by have := hk _ e; omega)
  obtain ⟨s1, s2⟩ := two_put hr vr'
  refine ⟨hr, hi, (h1.res.grown hg (fun e => by have := hk _ e; omega)).grown s2 (by simp), s1, ?_, by rw [e1]; exact h.ps, own_low (own_ne h1.po (fun g e e' => own_types h1.po h1.ro (by decide) g e e') hg) s2 (by omega), fun q hq => ⟨own_low (own_ne (h1.qo q hq).1 (h1.qo q hq).2 hg) s2 (by omega), fun g e e' => ?_⟩, (h1.bel.grown hg h1.bel.size (fun g e => by have := hk g e; omega)).grown s2 (Nat.le_trans h1.bel.size hg.size) (fun j hj => by cases hj; omega), ?_⟩
  · rw [e2, rowT_push, List.length_append]
    exact own_low ho s2 (by omega)
  · rcases hw with hw | hw
    · rw [hw] at e'
      exact (h1.qo q hq).2 g e e'
    · rw [hw] at e'
      have := ((h1.qo q hq).1.lt g e).2
      cases e'
      omega
  · have := h1.size
    have := hg.size
    have := s2.size
    omega
end
end Go.Proofs.Ytebbbefknfldoaa

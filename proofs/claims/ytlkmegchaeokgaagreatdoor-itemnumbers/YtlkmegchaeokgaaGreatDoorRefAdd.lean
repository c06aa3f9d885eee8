/- The document's Add. -/
import Derived.Test.YtlkmegchaeokgaaGreatDoorLinM
import Derived.Test.YtlkmegchaeokgaaGreatDoorTimes
import Derived.Deep.RegionLaw
import Derived.Deep.DeepCutAuto
import Derived.Deep.DeepAppendWide
import Derived.Deep.QuietTactic
import Derived.BigQuiet
import Derived.WalkSmall
import Derived.WalkSpells
import Derived.Laws.Cover1
/- Two lists of terms, merged by name; for canonical lists that is their sum. -/
namespace Go.Proofs.YtlkmegchaeokgaaGreatDoor
set_option linter.unusedVariables false
def mrg : List Tm -> List Tm -> List Tm
 | [], ys => ys
 | x :: xs, [] => x :: xs
 | x :: xs, y :: ys =>
  if nlt x.name y.name = true then x :: mrg xs (y :: ys)
  else if nlt y.name x.name = true then y :: mrg (x :: xs) ys
  else emit x.name ((x.coef + y.coef) % 4294967296) (mrg xs ys)
termination_by xs ys => xs.length + ys.length
theorem mrg_nil (xs : List Tm) : mrg xs [] = xs := by cases xs <;> rw [mrg]
theorem nil_mrg (ys : List Tm) : mrg [] ys = ys := by rw [mrg]
theorem mrg_left {x y : Tm} {xs ys : List Tm} (h : nlt x.name y.name = true) : mrg (x :: xs) (y :: ys) = x :: mrg xs (y :: ys) := by rw [mrg, if_pos h]
theorem mrg_right {x y : Tm} {xs ys : List Tm} (h : nlt y.name x.name = true) : mrg (x :: xs) (y :: ys) = y :: mrg (x :: xs) ys := by
 rw [mrg, if_neg (by rw [nlt_asymm h]; decide), if_pos h]
theorem mrg_both {x y : Tm} {xs ys : List Tm} (h1 : nlt x.name y.name = false) (h2 : nlt y.name x.name = false) : mrg (x :: xs) (y :: ys) = emit x.name ((x.coef + y.coef) % 4294967296) (mrg xs ys) := by
 rw [mrg, if_neg (by rw [h1]; decide), if_neg (by rw [h2]; decide)]
theorem mrg_len (xs ys : List Tm) : (mrg xs ys).length <= xs.length + ys.length := by
 fun_induction mrg xs ys with
 | case1 ys => simp
 | case2 x xs => simp
 | case3 x xs y ys h ih => simp at *; omega
 | case4 x xs y ys h h2 ih => simp at *; omega
 | case5 x xs y ys h h2 ih =>
  have := emit_len x.name ((x.coef + y.coef) % 4294967296) (mrg xs ys)
  simp at *
  omega
theorem mem_emit2 {n : List UInt8} {c : Int} {l : List Tm} {t : Tm} (h : t ∈ emit n c l) : t = ⟨n, c⟩ /\ c ≠ 0 ∨ t ∈ l := by
 unfold emit at h
 split at h
 ·exact .inr h
 ·rcases List.mem_cons.1 h with h | h
  ·exact .inl ⟨h, by assumption⟩
  ·exact .inr h
theorem mem_mrg {xs ys : List Tm} {t : Tm} (h : t ∈ mrg xs ys) : ∃ x, (x ∈ xs ∨ x ∈ ys) /\ x.name = t.name := by
 fun_induction mrg xs ys with
 | case1 ys => exact ⟨t, .inr h, rfl⟩
 | case2 x xs => exact ⟨t, .inl h, rfl⟩
 | case3 x xs y ys h1 ih =>
  rcases List.mem_cons.1 h with rfl | h
  ·exact ⟨t, .inl (by simp), rfl⟩
  ·obtain ⟨z, hz, he⟩ := ih h
   exact ⟨z, hz.imp (fun q => by simp [q]) id, he⟩
 | case4 x xs y ys h1 h2 ih =>
  rcases List.mem_cons.1 h with rfl | h
  ·exact ⟨t, .inr (by simp), rfl⟩
  ·obtain ⟨z, hz, he⟩ := ih h
   exact ⟨z, hz.imp id (fun q => by simp [q]), he⟩
 | case5 x xs y ys h1 h2 ih =>
  rcases mem_emit2 h with ⟨rfl, _⟩ | h
  ·exact ⟨x, .inl (by simp), rfl⟩
  ·obtain ⟨z, hz, he⟩ := ih h
   exact ⟨z, hz.imp (fun q => by simp [q]) (fun q => by simp [q]), he⟩
theorem cf_emit2 (m n : List UInt8) (c : Int) (l : List Tm) : cfOf m (emit n c l) = (if n = m then c else 0) + cfOf m l := by
 unfold emit
 split
 ·rename_i h
  subst h
  split <;> simp
 ·rfl
theorem cf_mrg (n : List UInt8) (xs ys : List Tm) : cfOf n (mrg xs ys) % 4294967296 = (cfOf n xs + cfOf n ys) % 4294967296 := by
 fun_induction mrg xs ys with
 | case1 ys => simp [cfOf]
 | case2 x xs => simp [cfOf]
 | case3 x xs y ys h1 ih =>
  simp only [cfOf] at *
  omega
 | case4 x xs y ys h1 h2 ih =>
  simp only [cfOf] at *
  omega
 | case5 x xs y ys h1 h2 ih =>
  have he : x.name = y.name := by
   rcases nlt_tri x.name y.name with h | h | h
   ·exact absurd h h1
   ·exact h
   ·exact absurd h h2
  rw [cf_emit2]
  simp only [cfOf, <- he]
  split <;> omega
theorem canon_mrg {xs ys : List Tm} (hx : Canon xs) (hy : Canon ys) : Canon (mrg xs ys) := by
 fun_induction mrg xs ys with
 | case1 ys => exact hy
 | case2 x xs => exact hx
 | case3 x xs y ys h1 ih =>
  have h := ih hx.tail hy
  refine ⟨List.pairwise_cons.2 ⟨fun t ht => ?_, h.rise⟩, fun t ht => ?_⟩
  ·obtain ⟨z, hz, he⟩ := mem_mrg ht
   rw [<- he]
   rcases hz with hz | hz
   ·exact hx.head z hz
   ·rcases List.mem_cons.1 hz with rfl | hz
    ·exact h1
    ·exact nlt_trans h1 (hy.head z hz)
  ·rcases List.mem_cons.1 ht with rfl | ht
   ·exact hx.some _ (by simp)
   ·exact h.some t ht
 | case4 x xs y ys h1 h2 ih =>
  have h := ih hx hy.tail
  refine ⟨List.pairwise_cons.2 ⟨fun t ht => ?_, h.rise⟩, fun t ht => ?_⟩
  ·obtain ⟨z, hz, he⟩ := mem_mrg ht
   rw [<- he]
   rcases hz with hz | hz
   ·rcases List.mem_cons.1 hz with rfl | hz
    ·exact h2
    ·exact nlt_trans h2 (hx.head z hz)
   ·exact hy.head z hz
  ·rcases List.mem_cons.1 ht with rfl | ht
   ·exact hy.some _ (by simp)
   ·exact h.some t ht
 | case5 x xs y ys h1 h2 ih =>
  have h := ih hx.tail hy.tail
  have he : x.name = y.name := by
   rcases nlt_tri x.name y.name with h | h | h
   ·exact absurd h h1
   ·exact h
   ·exact absurd h h2
  unfold emit
  split
  ·exact h
  ·rename_i hz
   refine ⟨List.pairwise_cons.2 ⟨fun t ht => ?_, h.rise⟩, fun t ht => ?_⟩
   ·obtain ⟨z, hz, he2⟩ := mem_mrg ht
    rw [<- he2]
    rcases hz with hz | hz
    ·exact hx.head z hz
    ·rw [he]; exact hy.head z hz
   ·rcases List.mem_cons.1 ht with rfl | ht
    ·show 0 < (x.coef + y.coef) % 4294967296 /\ _
     exact ⟨by omega, by show (x.coef + y.coef) % 4294967296 < _; omega⟩
    ·exact h.some t ht
theorem mrg_add {xs ys : List Tm} (hx : Canon xs) (hy : Canon ys) : mrg xs ys = addT xs ys :=
 canon_unique (canon_mrg hx hy) (canon_add xs ys) fun n => by rw [cf_mrg, cf_add]
end Go.Proofs.YtlkmegchaeokgaaGreatDoor
/- The document's Times. -/
namespace Go.Proofs.YtlkmegchaeokgaaGreatDoor
open Go.ChangeShapes Go.WideShapes Go.ChangeAt Go.RowKit
set_option linter.unusedVariables false
set_option maxRecDepth 100000
theorem own_below' {w w' : World} {B : Nat} {e : TypeId} {size : Nat} {v : Value} {n : Nat} {xs : List Value} (h : w.ownsRow B e size v n xs) (hb : Below w.heap.size w w') : w'.ownsRow B e size v n xs := by
 obtain ⟨hl, h | ⟨g, cap, cur, hv, hbg, hg, r⟩⟩ := h
 ·exact ⟨hl, .inl h⟩
 ·exact ⟨hl, .inr ⟨g, cap, cur, hv, hbg, by rw [hb.block g (Array.getElem?_eq_some_iff.1 hg).1]; exact hg, r⟩⟩
theorem step_term {ops : Array Oper} {o : Oper} {a : Act} {K : Act -> World -> Prop} {Q : Exit -> Act -> World -> Prop} {E : Prop} (w : World) (hgd : o.guard = none) (s x : Operand)
  (ho : o.op = .call { callee := .builtin .append, args := #[s, x], argTypes := #[28, 28] }) (base : Nat) (a1 : Option Addr) (L c1 : Nat) (zs : List Tm) (hs : a.eval s = .slice a1 L c1) (hown : w.ownsRow base 61 2 (.slice a1 L c1) L (rowT zs))
  (g : Nat) (t : Tm) (hx : a.eval x = .slice (some ⟨g, 0, none⟩) 1 1) (hc : ∀ j u, [Value.string (str t.name), .int .u32 t.coef][j]? = some u -> w.cell? ((⟨g, 0, none⟩ : Addr).add j) = some u) (hm : L <= 4500000) (hbase : base <= w.heap.size)
  (hK : ∀ a' c' w', w'.ownsRow base 61 2 (.slice a' (L + 1) c') (L + 1) (rowT (zs ++ [t])) -> w.grownBy w' (Value.slice a1 L c1).ownBlock -> K (a.put o.dst (.slice a' (L + 1) c')) w') :
  if Region.wanted o (yielded ops a.tmps) = true then Oper.wp Tryz.prog o a w K Q else E := by
 have hw : Region.wanted o (yielded ops a.tmps) = true := by simp [Region.wanted, hgd]
 rw [if_pos hw]
 obtain ⟨i0, hi, hz0, hz1, hz2⟩ := info_parts Tryz.info61
 obtain ⟨v', w', hrun, r1, r2, _⟩ := run_append_own_wide (P := Tryz.prog) w base 28 o.type 61 i0 (.agg #[.string ⟨#[]⟩, .int .u32 0]) 2 24 Tryz.underlying28 hi hz0 hz1 hz2 rfl (by decide) (.slice a1 L c1) L (rowT zs) hown ⟨g, 0, none⟩ 1 1 [.string (str t.name), .int .u32 t.coef] rfl hc (by simp [Value.oneCell']) (by unfold maxLen; omega) (by omega) hbase
 obtain ⟨a', c', rfl⟩ := own_slice r1
 unfold Oper.wp
 simp [execOp, ho, resolve, invoke, builtin, hs, hx, hrun, Result.andThen]
 exact hK a' c' w' (by rw [rowT_push]; exact r1) r2
structure OSt (w : World) (gr go lo : Nat) (kc : Int) (zs : List Tm) (v : Value) (wr : World) : Prop where
 res : Two wr gr 31 (.slice none 0 0) (.int .u32 0)
 out : Two wr go 31 v (.int .u32 kc)
 own : wr.ownsRow lo 61 2 v zs.length (rowT zs)
 bel : Below w.heap.size w wr
 l1 : w.heap.size <= gr
 l2 : gr < go
 l3 : go < lo
 l4 : lo <= wr.heap.size
theorem OSt.kept {w wr wr' : World} {gr go lo : Nat} {kc : Int} {zs : List Tm} {v : Value} (h : OSt w gr go lo kc zs v wr) (hb : Below wr.heap.size wr wr') : OSt w gr go lo kc zs v wr' :=
 ⟨h.res.below hb (by have := h.l2; have := h.l3; have := h.l4; omega), h.out.below hb (by have := h.l3; have := h.l4; omega), own_below' h.own hb, h.bel.trans (hb.mono h.bel.size), h.l1, h.l2, h.l3, Nat.le_trans h.l4 hb.size⟩
theorem OSt.push {w wr wa w3 : World} {gr go lo L c1 : Nat} {kc : Int} {zs : List Tm} {t : Tm} {a1 : Option Addr} {v2 : Value} (h : OSt w gr go lo kc zs (.slice a1 L c1) wr) (hL : L = zs.length) (hb : Below wr.heap.size wr wa)
  (hown : w3.ownsRow lo 61 2 v2 (L + 1) (rowT (zs ++ [t]))) (hg : wa.grownBy w3 (Value.slice a1 L c1).ownBlock) : OSt w gr go lo kc (zs ++ [t]) v2 (w3.setCell ⟨go, 0, none⟩ v2) := by
 have hk := h.kept hb
 have hnb : (Value.slice a1 L c1).ownBlock ≠ some gr := fun e => by have := (h.own.lt _ e).1; have := h.l2; have := h.l3; omega
 have hnb2 : (Value.slice a1 L c1).ownBlock ≠ some go := fun e => by have := (h.own.lt _ e).1; have := h.l3; omega
 have hr := hk.res.grown hg hnb
 have ho := hk.out.grown hg hnb2
 obtain ⟨s1, s2⟩ := two_put ho v2
 have hs3 := hg.size
 have h4 := hk.l4
 have h1 := h.l1
 have h2 := h.l2
 have h3 := h.l3
 refine ⟨hr.grown s2 (by simp; omega), s1, ?_, ?_, h.l1, h.l2, h.l3, by have := s2.size; omega⟩
 ·rw [List.length_append, List.length_singleton, <- hL]
  exact own_low hown s2 (by omega)
 ·refine Below.grown ?_ s2 (by have := hk.bel.size; omega) (fun j hj => by cases hj; omega)
  exact hk.bel.grown hg hk.bel.size (fun j hj => by have := (h.own.lt _ hj).1; omega)
theorem own_met {w : World} {B L c1 : Nat} {a1 : Option Addr} {zs : List Tm} (hL : L = zs.length) (h : w.ownsRow B 61 2 (.slice a1 L c1) zs.length (rowT zs)) : w.ownsRow B 61 2 (.slice a1 L c1) L (rowT zs) := by
 rw [<- hL] at h
 exact h
theorem two_far {w wr wa w3 : World} {gr go lo L c1 : Nat} {kc : Int} {zs : List Tm} {a1 : Option Addr} (h : OSt w gr go lo kc zs (.slice a1 L c1) wr) (hb : Below wr.heap.size wr wa) (hg : wa.grownBy w3 (Value.slice a1 L c1).ownBlock) : Two w3 go 31 (.slice a1 L c1) (.int .u32 kc) :=
 (h.kept hb).out.grown hg (fun e => by have := (h.own.lt _ e).1; have := h.l3; omega)
theorem two_beside {w wr wa w3 : World} {gr go lo L c1 gx : Nat} {kc : Int} {zs : List Tm} {a1 : Option Addr} {v2 X Y : Value} {T : TypeId} (h : OSt w gr go lo kc zs (.slice a1 L c1) wr) (hX : Two wr gx T X Y) (hgx : gx < gr) (hb : Below wr.heap.size wr wa) (hg : wa.grownBy w3 (Value.slice a1 L c1).ownBlock) : Two (w3.setCell ⟨go, 0, none⟩ v2) gx T X Y := by
 have h2 := h.l2
 have h3 := h.l3
 have h4 := h.l4
 obtain ⟨_, s2⟩ := two_put (two_far h hb hg) v2
 exact ((hX.below hb (by omega)).grown hg (fun e => by have := (h.own.lt _ e).1; omega)).grown s2 (by simp; omega)
set_option maxHeartbeats 2000000 in
theorem refTimes_any (a : Option Addr) (c : Nat) (ts : List Tm) (k n : Int) (hl : ts.length <= 4400000) (w : World) (hT : TmLies w a ts) :
  Calls Tryz.prog 99 #[linV (.slice a ts.length c) k, .int .u32 n] w fun e w' => Below w.heap.size w w' /\ ∃ v, e = .returned (linV v (k * n % 4294967296)) /\ w'.ownsRow w.heap.size 61 2 v (timesT ts n).length (rowT (timesT ts n)) := by
 obtain ⟨n0, hn0⟩ : ∃ n0, n0 = ts.length := ⟨_, rfl⟩
 rw [<- hn0] at hl ⊢
 have hTH := Hid.intro hT
 have hnH := Hid.intro hn0
 clear hT hn0
 go_enter Tryz.func99, Tryz.ntmps99
 go_wp2
 have hStart : Hid (OSt w (w.heap.size + 1) (w.heap.size + 1 + 1) (w.heap.size + 1 + 1 + 1) (k * n % 4294967296) [] (.slice none 0 0) (((w.alloc (.cells #[.slice a n0 c, .int .u32 k] 31)).alloc (.cells #[.slice none 0 0, .int .u32 0] 31)).alloc (.cells #[.slice none 0 0, .int .u32 (k * n % 4294967296)] 31))) := by
  refine ⟨?_, ?_, World.ownsRow_nil _ _ _ _, (((below_alloc w _).alloc (by simp) _).alloc (by simp; omega) _), by omega, by omega, by omega, by simp⟩
  ·have := (two_new (w.alloc (.cells #[.slice a n0 c, .int .u32 k] 31)) 31 (.slice none 0 0) (.int .u32 0)).alloc (.cells #[.slice none 0 0, .int .u32 (k * n % 4294967296)] 31)
   simpa using this
  ·have := two_new ((w.alloc (.cells #[.slice a n0 c, .int .u32 k] 31)).alloc (.cells #[.slice none 0 0, .int .u32 0] 31)) 31 (.slice none 0 0) (.int .u32 (k * n % 4294967296))
   simpa using this
 have hX : Hid (Two (((w.alloc (.cells #[.slice a n0 c, .int .u32 k] 31)).alloc (.cells #[.slice none 0 0, .int .u32 0] 31)).alloc (.cells #[.slice none 0 0, .int .u32 (k * n % 4294967296)] 31)) w.heap.size 31 (.slice a n0 c) (.int .u32 k)) := ((two_new w 31 (.slice a n0 c) (.int .u32 k)).alloc _).alloc _
 have hbX := Hid.intro (Below.refl ((((w.alloc (.cells #[.slice a n0 c, .int .u32 k] 31)).alloc (.cells #[.slice none 0 0, .int .u32 0] 31)).alloc (.cells #[.slice none 0 0, .int .u32 (k * n % 4294967296)] 31))).heap.size (((w.alloc (.cells #[.slice a n0 c, .int .u32 k] 31)).alloc (.cells #[.slice none 0 0, .int .u32 0] 31)).alloc (.cells #[.slice none 0 0, .int .u32 (k * n % 4294967296)] 31)))
 clear hbX
 generalize (((w.alloc (.cells #[.slice a n0 c, .int .u32 k] 31)).alloc (.cells #[.slice none 0 0, .int .u32 0] 31)).alloc (.cells #[.slice none 0 0, .int .u32 (k * n % 4294967296)] 31)) = w0 at *
 obtain ⟨kc, hkc⟩ : ∃ kc, kc = k * n % 4294967296 := ⟨_, rfl⟩
 rw [<- hkc] at hStart
 have hkcH := Hid.intro hkc
 clear hkc
 go_loopw [6] (fun vi wr => ∃ (i : Nat) (v : Value), i <= n0 /\ vi = .int .i64 (i : Int) /\ Hid (OSt w (w.heap.size + 1) (w.heap.size + 1 + 1) (w.heap.size + 1 + 1 + 1) kc (timesT (ts.take i) n) v wr) /\ Hid (Two wr w.heap.size 31 (.slice a n0 c) (.int .u32 k))) (fun vi _ => n0 - (intOf vi).toNat)
 case atStart => exact ⟨0, .slice none 0 0, Nat.zero_le _, rfl, hStart, hX⟩
 case round =>
  obtain ⟨i, v, hle, rfl, hS, hXr⟩ := hrel
  obtain ⟨_, x0, x1, _, _⟩ := hXr.out
  by_cases hlt : i < n0
  ·obtain ⟨t, ht⟩ : ∃ t, ts[i]? = some t := ⟨ts[i]'(by rw [<- hnH.out]; exact hlt), List.getElem?_eq_getElem _⟩
   obtain ⟨a1, c1, rfl⟩ := own_slice hS.out.own
   obtain ⟨L, hL⟩ : ∃ L, L = (timesT (ts.take i) n).length := ⟨_, rfl⟩
   rw [<- hL] at hS
   have hLl : L <= 4400000 := by
    rw [hL]
    have := times_len (ts.take i) n
    rw [List.length_take] at this
    omega
   have hLH := Hid.intro hL
   rcases hTH.out with hx | ⟨g, o_, rfl, hg, hT⟩
   ·rw [hx] at hnH; have := hnH.out; simp at this; omega
   have hgr : g < wr.heap.size := Nat.lt_of_lt_of_le hg hS.out.bel.size
   obtain ⟨q0, q1⟩ := (hT i t ht).below hS.out.bel hg
   have htk : timesT (ts.take (i + 1)) n = timesT (ts.take i) n ++ emit t.name (t.coef * n % 4294967296) [] := by
    rw [take_at ts i t ht, timesT_append, timesT_cons, timesT_nil]
   clear hT ht hL
   have i1 : (0 : Int) <= (i : Int) := by omega
   have i2 : (i : Int) < (n0 : Int) := by omega
   by_cases hz : t.coef * n % 4294967296 = 0
   ·have hz' : (t.coef * n % 4294967296 != 0) = false := by simp [hz]
    have hS2 : Hid (OSt w (w.heap.size + 1) (w.heap.size + 1 + 1) (w.heap.size + 1 + 1 + 1) kc (timesT (ts.take (i + 1)) n) (.slice a1 L c1) wr) := by
     show OSt _ _ _ _ _ _ _ _
     rw [htk, emit, if_pos hz, List.append_nil]
     exact hS.out
    clear htk hS
    go_wp2
    all_goals first | omega | skip
    go_roundw
    case rel => exact ⟨i + 1, .slice a1 L c1, by omega, by go_num, hS2, hXr⟩
    case measure => simp [intOf]; omega
   ·have hz' : (t.coef * n % 4294967296 != 0) = true := by simp [hz]
    obtain ⟨C, hC⟩ : ∃ C, C = t.coef * n % 4294967296 := ⟨_, rfl⟩
    have hCz : C ≠ 0 := by rw [hC]; exact hz
    have hCb : (C != 0) = true := by simpa using hCz
    have htk2 : Hid (timesT (ts.take (i + 1)) n = timesT (ts.take i) n ++ [⟨t.name, C⟩]) := by
     show _ = _
     rw [htk, <- hC, emit, if_neg hCz]
    rw [<- hC] at hz'
    have hCe : t.coef * n % 4294967296 = C := hC.symm
    obtain ⟨_, o0, o1, of0, of1⟩ := hS.out.out
    have hsz := hS.out.l4
    clear htk hz hC hCz
    have cn : ∀ wq : World, ∀ j u, [Value.string (str t.name), .int .u32 C][j]? = some u -> (wq.alloc (.cells #[.string (str t.name), .int .u32 C] 61)).drew.cell? ((⟨wq.heap.size, 0, none⟩ : Addr).add j) = some u := fun wq => cells_new wq #[.string (str t.name), .int .u32 C] 61
    have cnH := Hid.intro cn
    clear cn
    have oA := fun o => (hS.out.kept (below_alloc wr o)).out.c0
    have xA := fun o => (hXr.out.alloc o).c0
    have qA : ∀ o, (wr.alloc o).cell? ⟨g, o_ + i * 2, none⟩ = some (.string (str t.name)) := fun o => (TmAt.below ⟨q0, q1⟩ (below_alloc wr o) hgr).1
    go_wp2
    all_goals first | omega | skip
    go_region_law (refine step_term _ rfl (.tmp 31) (.tmp 40) rfl (w.heap.size + 1 + 1 + 1) a1 L c1 (timesT (ts.take i) n) rfl (own_met hLH.out (hS.out.kept ((below_alloc wr _).drew)).own) wr.heap.size ⟨t.name, C⟩ rfl (cnH.out wr) (by omega) (by have := hS.out.l4; simp; omega) ?_; intro a3 c3 w3 ho3 hg3; have hpf := Hid.intro (hS.out.push hLH.out ((below_alloc wr _).drew) ho3 hg3); have hXf := Hid.intro (fun v2 => two_beside (v2 := v2) hS.out hXr.out (by omega) ((below_alloc wr _).drew) hg3); have hT3 := two_far hS.out ((below_alloc wr _).drew) hg3; obtain ⟨_, z0, z1, zf0, zf1⟩ := hT3)
    all_goals have hS3 : Hid (OSt w (w.heap.size + 1) (w.heap.size + 1 + 1) (w.heap.size + 1 + 1 + 1) kc (timesT (ts.take (i + 1)) n) (.slice a3 (L + 1) c3) (w3.setCell ⟨w.heap.size + 1 + 1, 0, none⟩ (.slice a3 (L + 1) c3))) := (show OSt _ _ _ _ _ _ _ _ by rw [htk2.out]; exact hpf.out)
    all_goals clear z0 z1 zf0 zf1 oA xA qA o0 o1 of0 of1 x0 x1 q0 q1
    all_goals go_wp2_with fail
    all_goals go_roundw
    case rel => exact ⟨i + 1, _, by omega, by go_num, hS3, hXf.out _⟩
    case measure => simp [intOf]; omega
    case rel => exact ⟨i + 1, _, by omega, by go_num, hS3, hXf.out _⟩
    case measure => simp [intOf]; omega
    case rel => exact ⟨i + 1, _, by omega, by go_num, hS3, hXf.out _⟩
    case measure => simp [intOf]; omega
    case rel => exact ⟨i + 1, _, by omega, by go_num, hS3, hXf.out _⟩
    case measure => simp [intOf]; omega
  ·obtain ⟨a1, c1, rfl⟩ := own_slice hS.out.own
   obtain ⟨L, hL⟩ : ∃ L, L = (timesT (ts.take i) n).length := ⟨_, rfl⟩
   rw [<- hL] at hS
   have hLH := Hid.intro hL
   clear hL
   obtain ⟨_, o0, o1, of0, of1⟩ := hS.out.out
   obtain ⟨rh, r0, r1, rf0, rf1⟩ := hS.out.res
   have rhH := Hid.intro rh
   clear rh
   go_wp2
   all_goals first | omega | skip
   have hin : i = ts.length := by rw [<- hnH.out]; omega
   obtain ⟨s1, s2⟩ := two_set rhH.out rfl (.slice a1 L c1) (.int .u32 kc)
   have hb2 : Below w.heap.size w ((wr.setCell ⟨w.heap.size + 1, 0, none⟩ (.slice a1 L c1)).setCell ⟨w.heap.size + 1, 1, none⟩ (.int .u32 kc)) := hS.out.bel.grown s2 hS.out.bel.size (fun j hj => by cases hj; omega)
   generalize ((wr.setCell ⟨w.heap.size + 1, 0, none⟩ (.slice a1 L c1)).setCell ⟨w.heap.size + 1, 1, none⟩ (.int .u32 kc)) = w3 at s1 s2 hb2 ⊢
   obtain ⟨_, z0, z1, _, _⟩ := s1
   refine bodyPost_ret (by simp [results, Tryz.results99, go_sem, z0, z1]; try rfl) rfl ?_
   refine ⟨hb2, _, by rw [hkcH.out], ?_⟩
   have hown := own_weaken (own_low hS.out.own s2 (by omega)) (B := w.heap.size) (by omega)
   rw [hin, List.take_length] at hown
   exact hown
end Go.Proofs.YtlkmegchaeokgaaGreatDoor
namespace Go.Proofs.YtlkmegchaeokgaaGreatDoor
open Go.ChangeShapes Go.WideShapes Go.ChangeAt Go.RowKit
set_option linter.unusedVariables false
set_option maxRecDepth 100000
structure BelowQ (w : World) where
 wd : World
 h : Below w.heap.size w wd
instance {w : World} : Inhabited (BelowQ w) := ⟨⟨w, Below.refl _ _⟩⟩
theorem BelowQ.cell {w : World} (p : BelowQ w) {a : Addr} {v : Value} (ha : a.block < w.heap.size) (h : w.cell? a = some v) : p.wd.cell? a = some v := by rw [p.h.cell ha]; exact h
theorem wp_region_quiet_q {P : Program} {id : Nat} {Q : Exit -> Act -> World -> Prop} {a : Act} {w : World} {l : List Oper} (hm : P.follows .mixedOrders = true) (hB : Region.lexB .any l.toArray = true)
  (h : wpQuiet P l.toArray (fun w' => ∃ p : BelowQ w, w' = p.wd) (fun a' => ∀ w', (∃ p : BelowQ w, w' = p.wd) -> Q .normal a' w') l a) : (Code.region id l.toArray true).wp P Q a w :=
 wp_region_quiet (C := fun w' => ∃ p : BelowQ w, w' = p.wd) hm hB ⟨⟨w.drew, (Below.refl _ _).drew⟩, rfl⟩ (by simpa using h)
theorem wpQuiet_skipQ {P : Program} {ops : Array Oper} {C : World -> Prop} {Q : Act -> Prop} {a : Act} {o : Oper} {rest : List Oper} (h : Region.wanted o (yielded ops a.tmps) = false) (k : wpQuiet P ops C Q rest (a.put o.dst undef)) : wpQuiet P ops C Q (o :: rest) a := by
 unfold wpQuiet
 rw [if_neg (by rw [h]; decide)]
 exact k
theorem str_list (l : List UInt8) : (str l).toList = l := by
 rw [Lib.toList_data]
 rfl
structure ASt (w : World) (a1 a2 : Option Addr) (c1 c2 n1 n2 : Nat) (xs ys : List Tm) (k1 k2 kc : Int) (i j : Nat) (v : Value) (zs : List Tm) (wr : World) : Prop where
 o : OSt w (w.heap.size + 1 + 1) (w.heap.size + 1 + 1 + 1) (w.heap.size + 1 + 1 + 1 + 1) kc zs v wr
 x : Two wr w.heap.size 31 (.slice a1 n1 c1) (.int .u32 k1)
 y : Two wr (w.heap.size + 1) 31 (.slice a2 n2 c2) (.int .u32 k2)
 inv : zs ++ mrg (xs.drop i) (ys.drop j) = mrg xs ys
 len : zs.length <= i + j
theorem Two.lt' {w : World} {g : Nat} {T : TypeId} {x y : Value} (h : Two w g T x y) : g < w.heap.size := (Array.getElem?_eq_some_iff.1 h.heap).1
theorem ASt.kept {w wr wr' : World} {a1 a2 : Option Addr} {c1 c2 n1 n2 : Nat} {xs ys : List Tm} {k1 k2 kc : Int} {i j : Nat} {v : Value} {zs : List Tm} (h : ASt w a1 a2 c1 c2 n1 n2 xs ys k1 k2 kc i j v zs wr) (hb : Below wr.heap.size wr wr') : ASt w a1 a2 c1 c2 n1 n2 xs ys k1 k2 kc i j v zs wr' :=
 ⟨h.o.kept hb, h.x.below hb h.x.lt', h.y.below hb h.y.lt', h.inv, h.len⟩
theorem ASt.push {w wr wa w3 : World} {a1 a2 : Option Addr} {c1 c2 n1 n2 : Nat} {xs ys : List Tm} {k1 k2 kc : Int} {i j i' j' L d : Nat} {b : Option Addr} {zs : List Tm} {t : Tm} {v2 : Value} (h : ASt w a1 a2 c1 c2 n1 n2 xs ys k1 k2 kc i j (.slice b L d) zs wr) (hL : L = zs.length) (hb : Below wr.heap.size wr wa)
  (hown : w3.ownsRow (w.heap.size + 1 + 1 + 1 + 1) 61 2 v2 (L + 1) (rowT (zs ++ [t]))) (hg : wa.grownBy w3 (Value.slice b L d).ownBlock) (hinv : mrg (xs.drop i) (ys.drop j) = t :: mrg (xs.drop i') (ys.drop j')) (hlen : i + j + 1 <= i' + j') :
  ASt w a1 a2 c1 c2 n1 n2 xs ys k1 k2 kc i' j' v2 (zs ++ [t]) (w3.setCell ⟨w.heap.size + 1 + 1 + 1, 0, none⟩ v2) :=
 ⟨h.o.push hL hb hown hg, two_beside h.o h.x (by omega) hb hg, two_beside h.o h.y (by omega) hb hg, by rw [List.append_assoc, List.singleton_append, <- hinv, h.inv], by have := h.len; simp; omega⟩
theorem ASt.skip {w wr : World} {a1 a2 : Option Addr} {c1 c2 n1 n2 : Nat} {xs ys : List Tm} {k1 k2 kc : Int} {i j i' j' : Nat} {v : Value} {zs : List Tm} (h : ASt w a1 a2 c1 c2 n1 n2 xs ys k1 k2 kc i j v zs wr) (hinv : mrg (xs.drop i) (ys.drop j) = mrg (xs.drop i') (ys.drop j')) (hlen : i + j <= i' + j') : ASt w a1 a2 c1 c2 n1 n2 xs ys k1 k2 kc i' j' v zs wr :=
 ⟨h.o, h.x, h.y, by rw [<- hinv]; exact h.inv, Nat.le_trans h.len hlen⟩
set_option maxHeartbeats 8000000 in
theorem refAdd_any (a1 a2 : Option Addr) (c1 c2 : Nat) (xs ys : List Tm) (k1 k2 : Int) (w : World) (hx : TmLies w a1 xs) (hy : TmLies w a2 ys) (hl1 : xs.length <= 1100000) (hl2 : ys.length <= 1100000) :
  Calls Tryz.prog 100 #[linV (.slice a1 xs.length c1) k1, linV (.slice a2 ys.length c2) k2] w fun e w' => Below w.heap.size w w' /\ ∃ v, e = .returned (linV v ((k1 + k2) % 4294967296)) /\ w'.ownsRow w.heap.size 61 2 v (mrg xs ys).length (rowT (mrg xs ys)) := by
 obtain ⟨n1, hn1⟩ : ∃ n1, n1 = xs.length := ⟨_, rfl⟩
 obtain ⟨n2, hn2⟩ : ∃ n2, n2 = ys.length := ⟨_, rfl⟩
 rw [<- hn1, <- hn2]
 rw [<- hn1] at hl1
 rw [<- hn2] at hl2
 have hXH := Hid.intro hx
 have hYH := Hid.intro hy
 have hn1H := Hid.intro hn1
 have hn2H := Hid.intro hn2
 clear hx hy hn1 hn2
 go_enter Tryz.func100, Tryz.ntmps100
 go_wp2
 have hStart : Hid (ASt w a1 a2 c1 c2 n1 n2 xs ys k1 k2 ((k1 + k2) % 4294967296) 0 0 (.slice none 0 0) [] ((((w.alloc (.cells #[.slice a1 n1 c1, .int .u32 k1] 31)).alloc (.cells #[.slice a2 n2 c2, .int .u32 k2] 31)).alloc (.cells #[.slice none 0 0, .int .u32 0] 31)).alloc (.cells #[.slice none 0 0, .int .u32 ((k1 + k2) % 4294967296)] 31))) := by
  refine ⟨⟨?_, ?_, World.ownsRow_nil _ _ _ _, ((((below_alloc w _).alloc (by simp) _).alloc (by simp; omega) _).alloc (by simp; omega) _), by omega, by omega, by omega, by simp⟩, ?_, ?_, rfl, Nat.zero_le _⟩
  ·have := (two_new ((w.alloc (.cells #[.slice a1 n1 c1, .int .u32 k1] 31)).alloc (.cells #[.slice a2 n2 c2, .int .u32 k2] 31)) 31 (.slice none 0 0) (.int .u32 0)).alloc (.cells #[.slice none 0 0, .int .u32 ((k1 + k2) % 4294967296)] 31)
   simpa using this
  ·have := two_new (((w.alloc (.cells #[.slice a1 n1 c1, .int .u32 k1] 31)).alloc (.cells #[.slice a2 n2 c2, .int .u32 k2] 31)).alloc (.cells #[.slice none 0 0, .int .u32 0] 31)) 31 (.slice none 0 0) (.int .u32 ((k1 + k2) % 4294967296))
   simpa using this
  ·exact (((two_new w 31 (.slice a1 n1 c1) (.int .u32 k1)).alloc _).alloc _).alloc _
  ·have := ((two_new (w.alloc (.cells #[.slice a1 n1 c1, .int .u32 k1] 31)) 31 (.slice a2 n2 c2) (.int .u32 k2)).alloc (.cells #[.slice none 0 0, .int .u32 0] 31)).alloc (.cells #[.slice none 0 0, .int .u32 ((k1 + k2) % 4294967296)] 31)
   simpa using this
 generalize ((((w.alloc (.cells #[.slice a1 n1 c1, .int .u32 k1] 31)).alloc (.cells #[.slice a2 n2 c2, .int .u32 k2] 31)).alloc (.cells #[.slice none 0 0, .int .u32 0] 31)).alloc (.cells #[.slice none 0 0, .int .u32 ((k1 + k2) % 4294967296)] 31)) = w0 at *
 obtain ⟨kc, hkc⟩ : ∃ kc, kc = (k1 + k2) % 4294967296 := ⟨_, rfl⟩
 rw [<- hkc] at hStart
 have hkcH := Hid.intro hkc
 clear hkc
 go_loopw [6, 7] (fun vi vj wr => ∃ (i j : Nat) (v : Value) (zs : List Tm), i <= n1 /\ j <= n2 /\ vi = .int .i64 (i : Int) /\ vj = .int .i64 (j : Int) /\ Hid (ASt w a1 a2 c1 c2 n1 n2 xs ys k1 k2 kc i j v zs wr)) (fun vi vj _ => (n1 - (intOf vi).toNat) + (n2 - (intOf vj).toNat))
 case atStart => exact ⟨0, 0, .slice none 0 0, [], Nat.zero_le _, Nat.zero_le _, rfl, rfl, hStart⟩
 case round =>
  obtain ⟨i, j, v, zs, hi, hj, rfl, rfl, hS⟩ := hrel
  obtain ⟨b, d, rfl⟩ := own_slice hS.out.o.own
  obtain ⟨L, hL⟩ : ∃ L, L = zs.length := ⟨_, rfl⟩
  rw [<- hL] at hS
  have hLl : L <= 4400000 := by have := hS.out.len; omega
  have hLH := Hid.intro hL
  clear hL
  have hlow := hS.out.o.bel
  obtain ⟨_, x0, x1, _, _⟩ := hS.out.x
  obtain ⟨_, y0, y1, _, _⟩ := hS.out.y
  have hxl := hS.out.x.lt'
  have hyl := hS.out.y.lt'
  have u0 : ∀ p : BelowQ wr, p.wd.cell? ⟨w.heap.size, 0, none⟩ = some (.slice a1 n1 c1) := fun p => p.cell hxl x0
  have u1 : ∀ p : BelowQ wr, p.wd.cell? ⟨w.heap.size + 1, 0, none⟩ = some (.slice a2 n2 c2) := fun p => p.cell hyl y0
  have i1 : (0 : Int) <= (i : Int) := by omega
  have j1 : (0 : Int) <= (j : Int) := by omega
  have hlowH := Hid.intro hlow
  clear hlow
  by_cases hiN : i < n1
  ·obtain ⟨t, ht⟩ : ∃ t, xs[i]? = some t := ⟨xs[i]'(by rw [<- hn1H.out]; exact hiN), List.getElem?_eq_getElem _⟩
   obtain ⟨gx, ox, rfl, hgx, hTx⟩ : ∃ gx ox, a1 = some ⟨gx, ox, none⟩ /\ gx < w.heap.size /\ TmAt w gx (ox + i * 2) t := by
    rcases hXH.out with h | ⟨gx, ox, e1, e2, e3⟩
    ·rw [h] at ht; simp at ht
    ·exact ⟨gx, ox, e1, e2, e3 i t ht⟩
   have hdx : xs.drop i = t :: xs.drop (i + 1) := by
    obtain ⟨hl, he⟩ := List.getElem?_eq_some_iff.1 ht
    rw [List.drop_eq_getElem_cons hl, he]
   have hTxr := Hid.intro (hTx.below hlowH.out hgx)
   have hgxr : gx < wr.heap.size := Nat.lt_of_lt_of_le hgx hlowH.out.size
   have v0 : ∀ p : BelowQ wr, p.wd.cell? ⟨gx, ox + i * 2, none⟩ = some (.string (str t.name)) := fun p => p.cell hgxr hTxr.out.1
   have v1 : ∀ p : BelowQ wr, p.wd.cell? ⟨gx, ox + i * 2 + 1, none⟩ = some (.int .u32 t.coef) := fun p => p.cell hgxr hTxr.out.2
   have i2 : (i : Int) < (n1 : Int) := by omega
   have i3 : ((i : Int) == (n1 : Int)) = false := by simp; omega
   have hdxH := Hid.intro hdx
   clear ht hTx hdx
   by_cases hjN : j < n2
   ·obtain ⟨s, hs⟩ : ∃ s, ys[j]? = some s := ⟨ys[j]'(by rw [<- hn2H.out]; exact hjN), List.getElem?_eq_getElem _⟩
    obtain ⟨gy, oy, rfl, hgy, hTy⟩ : ∃ gy oy, a2 = some ⟨gy, oy, none⟩ /\ gy < w.heap.size /\ TmAt w gy (oy + j * 2) s := by
     rcases hYH.out with h | ⟨gy, oy, e1, e2, e3⟩
     ·rw [h] at hs; simp at hs
     ·exact ⟨gy, oy, e1, e2, e3 j s hs⟩
    have hdy : ys.drop j = s :: ys.drop (j + 1) := by
     obtain ⟨hl, he⟩ := List.getElem?_eq_some_iff.1 hs
     rw [List.drop_eq_getElem_cons hl, he]
    have hTyr := Hid.intro (hTy.below hlowH.out hgy)
    have hgyr : gy < wr.heap.size := Nat.lt_of_lt_of_le hgy hlowH.out.size
    have s0 : ∀ p : BelowQ wr, p.wd.cell? ⟨gy, oy + j * 2, none⟩ = some (.string (str s.name)) := fun p => p.cell hgyr hTyr.out.1
    have s1 : ∀ p : BelowQ wr, p.wd.cell? ⟨gy, oy + j * 2 + 1, none⟩ = some (.int .u32 s.coef) := fun p => p.cell hgyr hTyr.out.2
    have j2 : (j : Int) < (n2 : Int) := by omega
    have j3 : ((j : Int) == (n2 : Int)) = false := by simp; omega
    have hdyH := Hid.intro hdy
    clear hs hTy hdy
    cases hlt : nlt t.name s.name with
    | true =>
     as_aux_lemma =>
      have e1 : Op.bytesLess (str t.name).toList (str s.name).toList = true := by rw [str_list, str_list]; exact hlt
      have hm : Hid (mrg (xs.drop i) (ys.drop j) = t :: mrg (xs.drop (i + 1)) (ys.drop j)) := by show _ = _; rw [hdxH.out, hdyH.out, mrg_left hlt]
      clear hlt
      go_wp2
      all_goals first | omega | skip
      refine wp_region_quiet_q (by kernel_rfl) (by kernel_rfl) ?_
      repeat (first | (with_reducible refine wpQuiet_skipQ (by with_unfolding_all rfl) ?_; simp only [Act.put, List.setIfInBounds_toArray, List.set_cons_zero, List.set_cons_succ]) | (with_reducible refine wpQuiet_step (fun K hK => ?_); go_simp; (with_reducible refine hK _ ?_; clear hK K)))
      with_reducible refine wpQuiet_nil ?_
      intro _ hw'
      obtain ⟨pq, hw''⟩ := hw'
      subst hw''
      have hq := Hid.intro (hS.out.kept pq.h)
      have hcell := Hid.intro (fun wq : World => cells_new wq #[.string (str t.name), .int .u32 t.coef] 61)
      obtain ⟨_, o0, o1, of0, of1⟩ := hq.out.o.out
      have oA := fun o => (hq.out.kept (below_alloc pq.wd o)).o.out.c0
      have xA := fun o => (hq.out.kept (below_alloc pq.wd o)).x.c0
      have yA := fun o => (hq.out.kept (below_alloc pq.wd o)).y.c0
      have x2 := u0 pq
      have y2 := u1 pq
      have q0 : pq.wd.cell? ⟨gx, ox + i * 2, none⟩ = some (.string (str t.name)) := v0 pq
      have q1 : pq.wd.cell? ⟨gx, ox + i * 2 + 1, none⟩ = some (.int .u32 t.coef) := v1 pq
      have hgq : gx < pq.wd.heap.size := World.block_lt_of_cell? _ _ q0
      have qA : ∀ o, (pq.wd.alloc o).cell? ⟨gx, ox + i * 2, none⟩ = some (.string (str t.name)) := fun o => (TmAt.below ⟨q0, q1⟩ (below_alloc pq.wd o) hgq).1
      have qB : ∀ o, (pq.wd.alloc o).cell? ⟨gx, ox + i * 2 + 1, none⟩ = some (.int .u32 t.coef) := fun o => (TmAt.below ⟨q0, q1⟩ (below_alloc pq.wd o) hgq).2
      clear u0 u1 v0 v1 s0 s1
      go_wp2
      all_goals first | omega | skip
      go_region_law (refine step_term _ rfl (.tmp 55) (.tmp 61) rfl (w.heap.size + 1 + 1 + 1 + 1) b L d zs rfl (own_met hLH.out (hq.out.o.kept ((below_alloc pq.wd _).drew)).own) pq.wd.heap.size t rfl (hcell.out pq.wd) (by omega) (by have := hq.out.o.l4; simp; omega) ?_; intro a3 c3 w3 ho3 hg3; have hpf := Hid.intro (hq.out.push hLH.out ((below_alloc pq.wd _).drew) ho3 hg3 hm.out (by omega)); have hT3 := two_far hq.out.o ((below_alloc pq.wd _).drew) hg3; obtain ⟨_, z0, z1, zf0, zf1⟩ := hT3)
      all_goals clear z0 z1 zf0 zf1 oA xA yA qA qB o0 o1 of0 of1 q0 q1 x2 y2
      all_goals go_wp2_with fail
      all_goals first | omega | skip
      all_goals go_roundw
      case rel => exact ⟨i + 1, j, _, zs ++ [t], by omega, by omega, by go_num, by go_num, hpf⟩
      case measure => simp [intOf]; omega
      case rel => exact ⟨i + 1, j, _, zs ++ [t], by omega, by omega, by go_num, by go_num, hpf⟩
      case measure => simp [intOf]; omega
      case rel => exact ⟨i + 1, j, _, zs ++ [t], by omega, by omega, by go_num, by go_num, hpf⟩
      case measure => simp [intOf]; omega
      case rel => exact ⟨i + 1, j, _, zs ++ [t], by omega, by omega, by go_num, by go_num, hpf⟩
      case measure => simp [intOf]; omega
    | false =>
     cases hgt : nlt s.name t.name with
     | true =>
      as_aux_lemma =>
       have e1 : Op.bytesLess (str t.name).toList (str s.name).toList = false := by rw [str_list, str_list]; exact hlt
       have e2 : Op.bytesLess (str s.name).toList (str t.name).toList = true := by rw [str_list, str_list]; exact hgt
       have hm : Hid (mrg (xs.drop i) (ys.drop j) = s :: mrg (xs.drop i) (ys.drop (j + 1))) := by show _ = _; rw [hdxH.out, hdyH.out, mrg_right hgt]
       clear hlt hgt
       go_wp2
       all_goals first | omega | skip
       refine wp_region_quiet_q (by kernel_rfl) (by kernel_rfl) ?_
       repeat (first | (with_reducible refine wpQuiet_skipQ (by with_unfolding_all rfl) ?_; simp only [Act.put, List.setIfInBounds_toArray, List.set_cons_zero, List.set_cons_succ]) | (with_reducible refine wpQuiet_step (fun K hK => ?_); go_simp; (with_reducible refine hK _ ?_; clear hK K)))
       with_reducible refine wpQuiet_nil ?_
       intro _ hw'
       obtain ⟨pq, hw''⟩ := hw'
       subst hw''
       have ru0 : ∀ p : BelowQ pq.wd, p.wd.cell? ⟨w.heap.size, 0, none⟩ = some (.slice (some ⟨gx, ox, none⟩) n1 c1) := fun p => p.cell (Nat.lt_of_lt_of_le hxl pq.h.size) (u0 pq)
       have ru1 : ∀ p : BelowQ pq.wd, p.wd.cell? ⟨w.heap.size + 1, 0, none⟩ = some (.slice (some ⟨gy, oy, none⟩) n2 c2) := fun p => p.cell (Nat.lt_of_lt_of_le hyl pq.h.size) (u1 pq)
       have rv0 : ∀ p : BelowQ pq.wd, p.wd.cell? ⟨gx, ox + i * 2, none⟩ = some (.string (str t.name)) := fun p => p.cell (Nat.lt_of_lt_of_le hgxr pq.h.size) (v0 pq)
       have rv1 : ∀ p : BelowQ pq.wd, p.wd.cell? ⟨gx, ox + i * 2 + 1, none⟩ = some (.int .u32 t.coef) := fun p => p.cell (Nat.lt_of_lt_of_le hgxr pq.h.size) (v1 pq)
       have rs0 : ∀ p : BelowQ pq.wd, p.wd.cell? ⟨gy, oy + j * 2, none⟩ = some (.string (str s.name)) := fun p => p.cell (Nat.lt_of_lt_of_le hgyr pq.h.size) (s0 pq)
       have rs1 : ∀ p : BelowQ pq.wd, p.wd.cell? ⟨gy, oy + j * 2 + 1, none⟩ = some (.int .u32 s.coef) := fun p => p.cell (Nat.lt_of_lt_of_le hgyr pq.h.size) (s1 pq)
       clear u0 u1 v0 v1 s0 s1
       go_wp2_with fail
       all_goals first | omega | skip
       refine wp_region_quiet_q (by kernel_rfl) (by kernel_rfl) ?_
       repeat (first | (with_reducible refine wpQuiet_skipQ (by with_unfolding_all rfl) ?_; simp only [Act.put, List.setIfInBounds_toArray, List.set_cons_zero, List.set_cons_succ]) | (with_reducible refine wpQuiet_step (fun K hK => ?_); go_simp; (with_reducible refine hK _ ?_; clear hK K)))
       with_reducible refine wpQuiet_nil ?_
       intro _ hw'
       obtain ⟨pr, hw''⟩ := hw'
       subst hw''
       have hq := Hid.intro (hS.out.kept (pq.h.trans (pr.h.mono pq.h.size)))
       have hcell := Hid.intro (fun wq : World => cells_new wq #[.string (str s.name), .int .u32 s.coef] 61)
       obtain ⟨_, o0, o1, of0, of1⟩ := hq.out.o.out
       have oA := fun o => (hq.out.kept (below_alloc pr.wd o)).o.out.c0
       have xA := fun o => (hq.out.kept (below_alloc pr.wd o)).x.c0
       have yA := fun o => (hq.out.kept (below_alloc pr.wd o)).y.c0
       have x2 := ru0 pr
       have y2 := ru1 pr
       have q0 : pr.wd.cell? ⟨gy, oy + j * 2, none⟩ = some (.string (str s.name)) := rs0 pr
       have q1 : pr.wd.cell? ⟨gy, oy + j * 2 + 1, none⟩ = some (.int .u32 s.coef) := rs1 pr
       have hgq : gy < pr.wd.heap.size := World.block_lt_of_cell? _ _ q0
       have qA : ∀ o, (pr.wd.alloc o).cell? ⟨gy, oy + j * 2, none⟩ = some (.string (str s.name)) := fun o => (TmAt.below ⟨q0, q1⟩ (below_alloc pr.wd o) hgq).1
       have qB : ∀ o, (pr.wd.alloc o).cell? ⟨gy, oy + j * 2 + 1, none⟩ = some (.int .u32 s.coef) := fun o => (TmAt.below ⟨q0, q1⟩ (below_alloc pr.wd o) hgq).2
       clear ru0 ru1 rv0 rv1 rs0 rs1
       go_wp2
       all_goals first | omega | skip
       go_region_law (refine step_term _ rfl (.tmp 87) (.tmp 93) rfl (w.heap.size + 1 + 1 + 1 + 1) b L d zs rfl (own_met hLH.out (hq.out.o.kept ((below_alloc pr.wd _).drew)).own) pr.wd.heap.size s rfl (hcell.out pr.wd) (by omega) (by have := hq.out.o.l4; simp; omega) ?_; intro a3 c3 w3 ho3 hg3; have hpf := Hid.intro (hq.out.push hLH.out ((below_alloc pr.wd _).drew) ho3 hg3 hm.out (by omega)); have hT3 := two_far hq.out.o ((below_alloc pr.wd _).drew) hg3; obtain ⟨_, z0, z1, zf0, zf1⟩ := hT3)
       all_goals clear z0 z1 zf0 zf1 oA xA yA qA qB o0 o1 of0 of1 q0 q1 x2 y2
       all_goals go_wp2_with fail
       all_goals first | omega | skip
       all_goals go_roundw
       case rel => exact ⟨i, j + 1, _, zs ++ [s], by omega, by omega, by go_num, by go_num, hpf⟩
       case measure => simp [intOf]; omega
       case rel => exact ⟨i, j + 1, _, zs ++ [s], by omega, by omega, by go_num, by go_num, hpf⟩
       case measure => simp [intOf]; omega
       case rel => exact ⟨i, j + 1, _, zs ++ [s], by omega, by omega, by go_num, by go_num, hpf⟩
       case measure => simp [intOf]; omega
       case rel => exact ⟨i, j + 1, _, zs ++ [s], by omega, by omega, by go_num, by go_num, hpf⟩
       case measure => simp [intOf]; omega
     | false =>
      as_aux_lemma =>
       have e1 : Op.bytesLess (str t.name).toList (str s.name).toList = false := by rw [str_list, str_list]; exact hlt
       have e2 : Op.bytesLess (str s.name).toList (str t.name).toList = false := by rw [str_list, str_list]; exact hgt
       obtain ⟨C, hC⟩ : ∃ C, C = (t.coef + s.coef) % 4294967296 := ⟨_, rfl⟩
       have hm : Hid (mrg (xs.drop i) (ys.drop j) = emit t.name C (mrg (xs.drop (i + 1)) (ys.drop (j + 1)))) := by show _ = _; rw [hdxH.out, hdyH.out, mrg_both hlt hgt, hC]
       have hCe : (t.coef + s.coef) % 4294967296 = C := hC.symm
       have hCw : IntKind.u32.wrap (t.coef + s.coef) = C := by rw [hC]; simp [IntKind.wrap, IntKind.bits, IntKind.signed]
       clear hlt hgt hC
       go_wp2
       all_goals first | omega | skip
       refine wp_region_quiet_q (by kernel_rfl) (by kernel_rfl) ?_
       repeat (first | (with_reducible refine wpQuiet_skipQ (by with_unfolding_all rfl) ?_; simp only [Act.put, List.setIfInBounds_toArray, List.set_cons_zero, List.set_cons_succ]) | (with_reducible refine wpQuiet_step (fun K hK => ?_); go_simp; (with_reducible refine hK _ ?_; clear hK K)))
       with_reducible refine wpQuiet_nil ?_
       intro _ hw'
       obtain ⟨pq, hw''⟩ := hw'
       subst hw''
       have ru0 : ∀ p : BelowQ pq.wd, p.wd.cell? ⟨w.heap.size, 0, none⟩ = some (.slice (some ⟨gx, ox, none⟩) n1 c1) := fun p => p.cell (Nat.lt_of_lt_of_le hxl pq.h.size) (u0 pq)
       have ru1 : ∀ p : BelowQ pq.wd, p.wd.cell? ⟨w.heap.size + 1, 0, none⟩ = some (.slice (some ⟨gy, oy, none⟩) n2 c2) := fun p => p.cell (Nat.lt_of_lt_of_le hyl pq.h.size) (u1 pq)
       have rv0 : ∀ p : BelowQ pq.wd, p.wd.cell? ⟨gx, ox + i * 2, none⟩ = some (.string (str t.name)) := fun p => p.cell (Nat.lt_of_lt_of_le hgxr pq.h.size) (v0 pq)
       have rv1 : ∀ p : BelowQ pq.wd, p.wd.cell? ⟨gx, ox + i * 2 + 1, none⟩ = some (.int .u32 t.coef) := fun p => p.cell (Nat.lt_of_lt_of_le hgxr pq.h.size) (v1 pq)
       have rs0 : ∀ p : BelowQ pq.wd, p.wd.cell? ⟨gy, oy + j * 2, none⟩ = some (.string (str s.name)) := fun p => p.cell (Nat.lt_of_lt_of_le hgyr pq.h.size) (s0 pq)
       have rs1 : ∀ p : BelowQ pq.wd, p.wd.cell? ⟨gy, oy + j * 2 + 1, none⟩ = some (.int .u32 s.coef) := fun p => p.cell (Nat.lt_of_lt_of_le hgyr pq.h.size) (s1 pq)
       clear u0 u1 v0 v1 s0 s1
       go_wp2_with fail
       all_goals first | omega | skip
       refine wp_region_quiet_q (by kernel_rfl) (by kernel_rfl) ?_
       repeat (first | (with_reducible refine wpQuiet_skipQ (by with_unfolding_all rfl) ?_; simp only [Act.put, List.setIfInBounds_toArray, List.set_cons_zero, List.set_cons_succ]) | (with_reducible refine wpQuiet_step (fun K hK => ?_); go_simp; (with_reducible refine hK _ ?_; clear hK K)))
       with_reducible refine wpQuiet_nil ?_
       intro _ hw'
       obtain ⟨pr, hw''⟩ := hw'
       subst hw''
       have ku0 : ∀ p : BelowQ pr.wd, p.wd.cell? ⟨w.heap.size, 0, none⟩ = some (.slice (some ⟨gx, ox, none⟩) n1 c1) := fun p => p.cell (Nat.lt_of_lt_of_le (Nat.lt_of_lt_of_le hxl pq.h.size) pr.h.size) (ru0 pr)
       have ku1 : ∀ p : BelowQ pr.wd, p.wd.cell? ⟨w.heap.size + 1, 0, none⟩ = some (.slice (some ⟨gy, oy, none⟩) n2 c2) := fun p => p.cell (Nat.lt_of_lt_of_le (Nat.lt_of_lt_of_le hyl pq.h.size) pr.h.size) (ru1 pr)
       have kv0 : ∀ p : BelowQ pr.wd, p.wd.cell? ⟨gx, ox + i * 2, none⟩ = some (.string (str t.name)) := fun p => p.cell (Nat.lt_of_lt_of_le (Nat.lt_of_lt_of_le hgxr pq.h.size) pr.h.size) (rv0 pr)
       have kv1 : ∀ p : BelowQ pr.wd, p.wd.cell? ⟨gx, ox + i * 2 + 1, none⟩ = some (.int .u32 t.coef) := fun p => p.cell (Nat.lt_of_lt_of_le (Nat.lt_of_lt_of_le hgxr pq.h.size) pr.h.size) (rv1 pr)
       have ks0 : ∀ p : BelowQ pr.wd, p.wd.cell? ⟨gy, oy + j * 2, none⟩ = some (.string (str s.name)) := fun p => p.cell (Nat.lt_of_lt_of_le (Nat.lt_of_lt_of_le hgyr pq.h.size) pr.h.size) (rs0 pr)
       have ks1 : ∀ p : BelowQ pr.wd, p.wd.cell? ⟨gy, oy + j * 2 + 1, none⟩ = some (.int .u32 s.coef) := fun p => p.cell (Nat.lt_of_lt_of_le (Nat.lt_of_lt_of_le hgyr pq.h.size) pr.h.size) (rs1 pr)
       clear ru0 ru1 rv0 rv1 rs0 rs1
       go_wp2_with fail
       all_goals first | omega | skip
       refine wp_region_quiet_q (by kernel_rfl) (by kernel_rfl) ?_
       repeat (first | (with_reducible refine wpQuiet_skipQ (by with_unfolding_all rfl) ?_; simp only [Act.put, List.setIfInBounds_toArray, List.set_cons_zero, List.set_cons_succ]) | (with_reducible refine wpQuiet_step (fun K hK => ?_); go_simp; (with_reducible refine hK _ ?_; clear hK K)))
       with_reducible refine wpQuiet_nil ?_
       intro _ hw'
       obtain ⟨ps, hw''⟩ := hw'
       subst hw''
       by_cases hC0 : C = 0
       ·have hCb : (C != 0) = false := by simp [hC0]
        have hm2 : Hid (mrg (xs.drop i) (ys.drop j) = mrg (xs.drop (i + 1)) (ys.drop (j + 1))) := by show _ = _; rw [hm.out, emit, if_pos hC0]
        have hq := Hid.intro ((hS.out.kept ((pq.h.trans (pr.h.mono pq.h.size)).trans (ps.h.mono (Nat.le_trans pq.h.size pr.h.size)))).skip hm2.out (by omega))
        clear ku0 ku1 kv0 kv1 ks0 ks1
        go_wp2
        all_goals first | omega | skip
        go_roundw
        case rel => exact ⟨i + 1, j + 1, _, zs, by omega, by omega, by go_num, by go_num, hq⟩
        case measure => simp [intOf]; omega
       ·have hCb : (C != 0) = true := by simp [hC0]
        have hm3 : Hid (mrg (xs.drop i) (ys.drop j) = ⟨t.name, C⟩ :: mrg (xs.drop (i + 1)) (ys.drop (j + 1))) := by show _ = _; rw [hm.out, emit, if_neg hC0]
        clear hm
        have hm := hm3
        clear hm3
        have hq := Hid.intro (hS.out.kept ((pq.h.trans (pr.h.mono pq.h.size)).trans (ps.h.mono (Nat.le_trans pq.h.size pr.h.size))))
        have hcell := Hid.intro (fun wq : World => cells_new wq #[.string (str t.name), .int .u32 C] 61)
        obtain ⟨_, o0, o1, of0, of1⟩ := hq.out.o.out
        have oA := fun o => (hq.out.kept (below_alloc ps.wd o)).o.out.c0
        have xA := fun o => (hq.out.kept (below_alloc ps.wd o)).x.c0
        have yA := fun o => (hq.out.kept (below_alloc ps.wd o)).y.c0
        have x2 := ku0 ps
        have y2 := ku1 ps
        have q0 : ps.wd.cell? ⟨gx, ox + i * 2, none⟩ = some (.string (str t.name)) := kv0 ps
        have q1 : ps.wd.cell? ⟨gx, ox + i * 2 + 1, none⟩ = some (.int .u32 t.coef) := kv1 ps
        have hgq : gx < ps.wd.heap.size := World.block_lt_of_cell? _ _ q0
        have qA : ∀ o, (ps.wd.alloc o).cell? ⟨gx, ox + i * 2, none⟩ = some (.string (str t.name)) := fun o => (TmAt.below ⟨q0, q1⟩ (below_alloc ps.wd o) hgq).1
        have qB : ∀ o, (ps.wd.alloc o).cell? ⟨gx, ox + i * 2 + 1, none⟩ = some (.int .u32 t.coef) := fun o => (TmAt.below ⟨q0, q1⟩ (below_alloc ps.wd o) hgq).2
        clear ku0 ku1 kv0 kv1 ks0 ks1
        go_wp2
        all_goals first | omega | skip
        go_region_law (refine step_term _ rfl (.tmp 114) (.tmp 123) rfl (w.heap.size + 1 + 1 + 1 + 1) b L d zs rfl (own_met hLH.out (hq.out.o.kept ((below_alloc ps.wd _).drew)).own) ps.wd.heap.size ⟨t.name, C⟩ rfl (hcell.out ps.wd) (by omega) (by have := hq.out.o.l4; simp; omega) ?_; intro a3 c3 w3 ho3 hg3; have hpf := Hid.intro (hq.out.push hLH.out ((below_alloc ps.wd _).drew) ho3 hg3 hm.out (by omega)); have hT3 := two_far hq.out.o ((below_alloc ps.wd _).drew) hg3; obtain ⟨_, z0, z1, zf0, zf1⟩ := hT3)
        all_goals clear z0 z1 zf0 zf1 oA xA yA qA qB o0 o1 of0 of1 q0 q1 x2 y2
        all_goals go_wp2_with fail
        all_goals first | omega | skip
        all_goals go_roundw
        case rel => exact ⟨i + 1, j + 1, _, zs ++ [⟨t.name, C⟩], by omega, by omega, by go_num, by go_num, hpf⟩
        case measure => simp [intOf]; omega
        case rel => exact ⟨i + 1, j + 1, _, zs ++ [⟨t.name, C⟩], by omega, by omega, by go_num, by go_num, hpf⟩
        case measure => simp [intOf]; omega
        case rel => exact ⟨i + 1, j + 1, _, zs ++ [⟨t.name, C⟩], by omega, by omega, by go_num, by go_num, hpf⟩
        case measure => simp [intOf]; omega
        case rel => exact ⟨i + 1, j + 1, _, zs ++ [⟨t.name, C⟩], by omega, by omega, by go_num, by go_num, hpf⟩
        case measure => simp [intOf]; omega
   ·as_aux_lemma =>
     have j3 : ((j : Int) == (n2 : Int)) = true := by simp; omega
     have j4 : ¬ ((j : Int) < (n2 : Int)) := by omega
     obtain rfl : n2 = j := by omega
     have hm : Hid (mrg (xs.drop i) (ys.drop n2) = t :: mrg (xs.drop (i + 1)) (ys.drop n2)) := by show _ = _; rw [hn2H.out, List.drop_length, mrg_nil, mrg_nil, hdxH.out]
     go_wp2
     all_goals first | omega | skip
     refine wp_region_quiet_q (by kernel_rfl) (by kernel_rfl) ?_
     repeat (first | (with_reducible refine wpQuiet_skipQ (by with_unfolding_all rfl) ?_; simp only [Act.put, List.setIfInBounds_toArray, List.set_cons_zero, List.set_cons_succ]) | (with_reducible refine wpQuiet_step (fun K hK => ?_); go_simp; (with_reducible refine hK _ ?_; clear hK K)))
     with_reducible refine wpQuiet_nil ?_
     intro _ hw'
     obtain ⟨pq, hw''⟩ := hw'
     subst hw''
     have hq := Hid.intro (hS.out.kept pq.h)
     have hcell := Hid.intro (fun wq : World => cells_new wq #[.string (str t.name), .int .u32 t.coef] 61)
     obtain ⟨_, o0, o1, of0, of1⟩ := hq.out.o.out
     have oA := fun o => (hq.out.kept (below_alloc pq.wd o)).o.out.c0
     have xA := fun o => (hq.out.kept (below_alloc pq.wd o)).x.c0
     have yA := fun o => (hq.out.kept (below_alloc pq.wd o)).y.c0
     have x2 := u0 pq
     have y2 := u1 pq
     have q0 : pq.wd.cell? ⟨gx, ox + i * 2, none⟩ = some (.string (str t.name)) := v0 pq
     have q1 : pq.wd.cell? ⟨gx, ox + i * 2 + 1, none⟩ = some (.int .u32 t.coef) := v1 pq
     have hgq : gx < pq.wd.heap.size := World.block_lt_of_cell? _ _ q0
     have qA : ∀ o, (pq.wd.alloc o).cell? ⟨gx, ox + i * 2, none⟩ = some (.string (str t.name)) := fun o => (TmAt.below ⟨q0, q1⟩ (below_alloc pq.wd o) hgq).1
     have qB : ∀ o, (pq.wd.alloc o).cell? ⟨gx, ox + i * 2 + 1, none⟩ = some (.int .u32 t.coef) := fun o => (TmAt.below ⟨q0, q1⟩ (below_alloc pq.wd o) hgq).2
     clear u0 u1 v0 v1
     go_wp2
     all_goals first | omega | skip
     go_region_law (refine step_term _ rfl (.tmp 55) (.tmp 61) rfl (w.heap.size + 1 + 1 + 1 + 1) b L d zs rfl (own_met hLH.out (hq.out.o.kept ((below_alloc pq.wd _).drew)).own) pq.wd.heap.size t rfl (hcell.out pq.wd) (by omega) (by have := hq.out.o.l4; simp; omega) ?_; intro a3 c3 w3 ho3 hg3; have hpf := Hid.intro (hq.out.push hLH.out ((below_alloc pq.wd _).drew) ho3 hg3 hm.out (by omega)); have hT3 := two_far hq.out.o ((below_alloc pq.wd _).drew) hg3; obtain ⟨_, z0, z1, zf0, zf1⟩ := hT3)
     all_goals clear z0 z1 zf0 zf1 oA xA yA qA qB o0 o1 of0 of1 q0 q1 x2 y2
     all_goals go_wp2_with fail
     all_goals first | omega | skip
     all_goals go_roundw
     case rel => exact ⟨i + 1, n2, _, zs ++ [t], by omega, by omega, by go_num, by go_num, hpf⟩
     case measure => simp [intOf]; omega
     case rel => exact ⟨i + 1, n2, _, zs ++ [t], by omega, by omega, by go_num, by go_num, hpf⟩
     case measure => simp [intOf]; omega
     case rel => exact ⟨i + 1, n2, _, zs ++ [t], by omega, by omega, by go_num, by go_num, hpf⟩
     case measure => simp [intOf]; omega
     case rel => exact ⟨i + 1, n2, _, zs ++ [t], by omega, by omega, by go_num, by go_num, hpf⟩
     case measure => simp [intOf]; omega
  ·have i3 : ((i : Int) == (n1 : Int)) = true := by simp; omega
   have i4 : ¬ ((i : Int) < (n1 : Int)) := by omega
   obtain rfl : n1 = i := by omega
   by_cases hjN : j < n2
   ·as_aux_lemma =>
     obtain ⟨s, hs⟩ : ∃ s, ys[j]? = some s := ⟨ys[j]'(by rw [<- hn2H.out]; exact hjN), List.getElem?_eq_getElem _⟩
     obtain ⟨gy, oy, rfl, hgy, hTy⟩ : ∃ gy oy, a2 = some ⟨gy, oy, none⟩ /\ gy < w.heap.size /\ TmAt w gy (oy + j * 2) s := by
      rcases hYH.out with h | ⟨gy, oy, e1, e2, e3⟩
      ·rw [h] at hs; simp at hs
      ·exact ⟨gy, oy, e1, e2, e3 j s hs⟩
     have hdy : ys.drop j = s :: ys.drop (j + 1) := by
      obtain ⟨hl, he⟩ := List.getElem?_eq_some_iff.1 hs
      rw [List.drop_eq_getElem_cons hl, he]
     have hTyr := Hid.intro (hTy.below hlowH.out hgy)
     have hgyr : gy < wr.heap.size := Nat.lt_of_lt_of_le hgy hlowH.out.size
     have s0 : ∀ p : BelowQ wr, p.wd.cell? ⟨gy, oy + j * 2, none⟩ = some (.string (str s.name)) := fun p => p.cell hgyr hTyr.out.1
     have s1 : ∀ p : BelowQ wr, p.wd.cell? ⟨gy, oy + j * 2 + 1, none⟩ = some (.int .u32 s.coef) := fun p => p.cell hgyr hTyr.out.2
     have j2 : (j : Int) < (n2 : Int) := by omega
     have j3 : ((j : Int) == (n2 : Int)) = false := by simp; omega
     have hm : Hid (mrg (xs.drop n1) (ys.drop j) = s :: mrg (xs.drop n1) (ys.drop (j + 1))) := by show _ = _; rw [hn1H.out, List.drop_length, nil_mrg, nil_mrg, hdy]
     clear hs hTy hdy
     go_wp2
     all_goals first | omega | skip
     refine wp_region_quiet_q (by kernel_rfl) (by kernel_rfl) ?_
     repeat (first | (with_reducible refine wpQuiet_skipQ (by with_unfolding_all rfl) ?_; simp only [Act.put, List.setIfInBounds_toArray, List.set_cons_zero, List.set_cons_succ]) | (with_reducible refine wpQuiet_step (fun K hK => ?_); go_simp; (with_reducible refine hK _ ?_; clear hK K)))
     with_reducible refine wpQuiet_nil ?_
     intro _ hw'
     obtain ⟨pq, hw''⟩ := hw'
     subst hw''
     have ru0 : ∀ p : BelowQ pq.wd, p.wd.cell? ⟨w.heap.size, 0, none⟩ = some (.slice a1 n1 c1) := fun p => p.cell (Nat.lt_of_lt_of_le hxl pq.h.size) (u0 pq)
     have ru1 : ∀ p : BelowQ pq.wd, p.wd.cell? ⟨w.heap.size + 1, 0, none⟩ = some (.slice (some ⟨gy, oy, none⟩) n2 c2) := fun p => p.cell (Nat.lt_of_lt_of_le hyl pq.h.size) (u1 pq)
     have rs0 : ∀ p : BelowQ pq.wd, p.wd.cell? ⟨gy, oy + j * 2, none⟩ = some (.string (str s.name)) := fun p => p.cell (Nat.lt_of_lt_of_le hgyr pq.h.size) (s0 pq)
     have rs1 : ∀ p : BelowQ pq.wd, p.wd.cell? ⟨gy, oy + j * 2 + 1, none⟩ = some (.int .u32 s.coef) := fun p => p.cell (Nat.lt_of_lt_of_le hgyr pq.h.size) (s1 pq)
     clear u0 u1 s0 s1
     go_wp2_with fail
     all_goals first | omega | skip
     refine wp_region_quiet_q (by kernel_rfl) (by kernel_rfl) ?_
     repeat (first | (with_reducible refine wpQuiet_skipQ (by with_unfolding_all rfl) ?_; simp only [Act.put, List.setIfInBounds_toArray, List.set_cons_zero, List.set_cons_succ]) | (with_reducible refine wpQuiet_step (fun K hK => ?_); go_simp; (with_reducible refine hK _ ?_; clear hK K)))
     with_reducible refine wpQuiet_nil ?_
     intro _ hw'
     obtain ⟨pr, hw''⟩ := hw'
     subst hw''
     have hq := Hid.intro (hS.out.kept (pq.h.trans (pr.h.mono pq.h.size)))
     have hcell := Hid.intro (fun wq : World => cells_new wq #[.string (str s.name), .int .u32 s.coef] 61)
     obtain ⟨_, o0, o1, of0, of1⟩ := hq.out.o.out
     have oA := fun o => (hq.out.kept (below_alloc pr.wd o)).o.out.c0
     have xA := fun o => (hq.out.kept (below_alloc pr.wd o)).x.c0
     have yA := fun o => (hq.out.kept (below_alloc pr.wd o)).y.c0
     have x2 := ru0 pr
     have y2 := ru1 pr
     have q0 : pr.wd.cell? ⟨gy, oy + j * 2, none⟩ = some (.string (str s.name)) := rs0 pr
     have q1 : pr.wd.cell? ⟨gy, oy + j * 2 + 1, none⟩ = some (.int .u32 s.coef) := rs1 pr
     have hgq : gy < pr.wd.heap.size := World.block_lt_of_cell? _ _ q0
     have qA : ∀ o, (pr.wd.alloc o).cell? ⟨gy, oy + j * 2, none⟩ = some (.string (str s.name)) := fun o => (TmAt.below ⟨q0, q1⟩ (below_alloc pr.wd o) hgq).1
     have qB : ∀ o, (pr.wd.alloc o).cell? ⟨gy, oy + j * 2 + 1, none⟩ = some (.int .u32 s.coef) := fun o => (TmAt.below ⟨q0, q1⟩ (below_alloc pr.wd o) hgq).2
     clear ru0 ru1 rs0 rs1
     go_wp2
     all_goals first | omega | skip
     go_region_law (refine step_term _ rfl (.tmp 87) (.tmp 93) rfl (w.heap.size + 1 + 1 + 1 + 1) b L d zs rfl (own_met hLH.out (hq.out.o.kept ((below_alloc pr.wd _).drew)).own) pr.wd.heap.size s rfl (hcell.out pr.wd) (by omega) (by have := hq.out.o.l4; simp; omega) ?_; intro a3 c3 w3 ho3 hg3; have hpf := Hid.intro (hq.out.push hLH.out ((below_alloc pr.wd _).drew) ho3 hg3 hm.out (by omega)); have hT3 := two_far hq.out.o ((below_alloc pr.wd _).drew) hg3; obtain ⟨_, z0, z1, zf0, zf1⟩ := hT3)
     all_goals clear z0 z1 zf0 zf1 oA xA yA qA qB o0 o1 of0 of1 q0 q1 x2 y2
     all_goals go_wp2_with fail
     all_goals first | omega | skip
     all_goals go_roundw
     case rel => exact ⟨n1, j + 1, _, zs ++ [s], by omega, by omega, by go_num, by go_num, hpf⟩
     case measure => simp [intOf]; omega
     case rel => exact ⟨n1, j + 1, _, zs ++ [s], by omega, by omega, by go_num, by go_num, hpf⟩
     case measure => simp [intOf]; omega
     case rel => exact ⟨n1, j + 1, _, zs ++ [s], by omega, by omega, by go_num, by go_num, hpf⟩
     case measure => simp [intOf]; omega
     case rel => exact ⟨n1, j + 1, _, zs ++ [s], by omega, by omega, by go_num, by go_num, hpf⟩
     case measure => simp [intOf]; omega
   ·obtain rfl : n2 = j := by omega
    have j4 : ¬ ((n2 : Int) < (n2 : Int)) := by omega
    obtain ⟨_, o0, o1, of0, of1⟩ := hS.out.o.out
    obtain ⟨rh, r0, r1, rf0, rf1⟩ := hS.out.o.res
    have rhH := Hid.intro rh
    have hfin : Hid (zs = mrg xs ys) := by
     show zs = _
     have h1 := hS.out.inv
     rw [hn1H.out, hn2H.out, List.drop_length, List.drop_length, nil_mrg, List.append_nil] at h1
     exact h1
    have hl4 := hS.out.o.l4
    clear rh u0 u1
    go_wp2
    all_goals first | omega | skip
    obtain ⟨s1, s2⟩ := two_set rhH.out rfl (.slice b L d) (.int .u32 kc)
    have hb2 : Below w.heap.size w ((wr.setCell ⟨w.heap.size + 1 + 1, 0, none⟩ (.slice b L d)).setCell ⟨w.heap.size + 1 + 1, 1, none⟩ (.int .u32 kc)) := hS.out.o.bel.grown s2 hS.out.o.bel.size (fun q hq => by cases hq; omega)
    generalize ((wr.setCell ⟨w.heap.size + 1 + 1, 0, none⟩ (.slice b L d)).setCell ⟨w.heap.size + 1 + 1, 1, none⟩ (.int .u32 kc)) = w3 at s1 s2 hb2 ⊢
    obtain ⟨_, z0, z1, _, _⟩ := s1
    refine bodyPost_ret (by simp [results, Tryz.results100, go_sem, z0, z1]; try rfl) rfl ?_
    refine ⟨hb2, _, by rw [hkcH.out], ?_⟩
    have hown := own_weaken (own_low hS.out.o.own s2 (by omega)) (B := w.heap.size) (by omega)
    rw [hfin.out] at hown
    exact hown
end Go.Proofs.YtlkmegchaeokgaaGreatDoor

/- expr.Right. -/
import Derived.Test.YtebbbefknfldoaaShelf2
import Derived.Laws.AppendOwnNone
import Derived.Deep.RegionHeld3
import Derived.Deep.QuietTactic
import Derived.BigQuiet
import Derived.WalkSmall
import Derived.WalkSpells
import Derived.Test.YtebbbefknfldoaaSortT
import Derived.Laws.Cover1
/- slices.Concat of two lists of terms; expr.Add. -/
namespace Go.Proofs.Ytebbbefknfldoaa
open Go.ChangeShapes Go.WideShapes Go.ChangeAt Go.RowKit
set_option linter.unusedVariables false
set_option maxRecDepth 100000
structure Held (w : World) (a : Option Addr) (c : Nat) (ts : List Tm) : Prop where
  lies : TmLies w a ts
  nil : a = none → ts.length = 0 ∧ c = 0
theorem Held.below {w w' : World} {a : Option Addr} {c : Nat} {ts : List Tm} {B : Nat} (h : Held w a c ts) (hb : Below B w w') (hB : w.heap.size ≤ B) : Held w' a c ts := ⟨h.lies.below hb hB, h.nil⟩
theorem own_held {w : World} {B n : Nat} {a : Option Addr} {c : Nat} {ts : List Tm} (h : w.ownsRow B 49 2 (.slice a n c) ts.length (rowT ts)) : Held w a c ts := by
  have hn := own_len h
  subst hn
  refine ⟨own_tmLies h, fun ha => ?_⟩
  subst ha
  rcases h.2 with ⟨hv, h0⟩ | ⟨g, cap, cur, hv, _⟩
  · injection hv with _ _ hv
    exact ⟨h0, hv⟩
  · cases hv
theorem rowT_one (ts : List Tm) : ∀ u ∈ rowT ts, u.oneCell' = true := by
  intro u hu
  simp only [rowT, List.mem_flatMap] at hu
  obtain ⟨t, _, hu⟩ := hu
  simp [Tm.cells] at hu
  rcases hu with rfl | rfl <;> rfl
theorem lies_cells {w : World} {ad : Addr} {ts : List Tm} (h : TmLies w (some ad) ts) : ∀ j u, (rowT ts)[j]? = some u → w.cell? (ad.add j) = some u := by
  intro j u hj
  rcases h with rfl | ⟨g, o, hgo, hg, h⟩
  · simp [rowT] at hj
  · injection hgo with hgo
    subst hgo
    have hlt : j < ts.length * 2 := by
      have := (List.getElem?_eq_some_iff.1 hj).1
      rwa [rowT_length] at this
    have h1 : ts[j / 2]? = some ts[j / 2] := List.getElem?_eq_getElem (by omega)
    have h2 := rowT_get ts (j / 2) (j % 2) _ h1 (by omega)
    rw [show j / 2 * 2 + j % 2 = j by omega, hj] at h2
    obtain ⟨e1, e2⟩ := h (j / 2) _ h1
    have hadd : (⟨g, o, none⟩ : Addr).add j = ⟨g, o + j, none⟩ := by simp [Addr.add]
    rw [hadd]
    rcases Nat.mod_two_eq_zero_or_one j with hm | hm
    · rw [hm] at h2
      rw [show o + j / 2 * 2 = o + j by omega] at e1
      rw [e1, h2]
      rfl
    · rw [hm] at h2
      rw [show o + j / 2 * 2 + 1 = o + j by omega] at e2
      rw [e2, h2]
      rfl
theorem app_terms {ops : Array Oper} {rest : List Oper} {o : Oper} {a : Act} {Q : Exit → Act → World → Prop} (w : World) (hgd : o.guard = none) (s x : Operand)
    (ho : o.op = .call { callee := .builtin .append, args := #[s, x], argTypes := #[26, 26] }) (base : Nat) (v : Value) (n : Nat) (zs ts : List Tm) (hn : n = zs.length) (hs : a.eval s = v) (hown : w.ownsRow base 49 2 v n (rowT zs))
    (a3 : Option Addr) (c3 m : Nat) (hm3 : m = ts.length) (hx : a.eval x = .slice a3 m c3) (hl : Held w a3 c3 ts) (hm : n + m ≤ 9000000) (hbase : base ≤ w.heap.size)
    (h : ∀ a' c' w', w'.ownsRow base 49 2 (.slice a' (n + m) c') (n + m) (rowT (zs ++ ts)) → w.grownBy w' v.ownBlock → wpList Try.prog ops Q rest (a.put o.dst (.slice a' (n + m) c')) w') : wpList Try.prog ops Q (o :: rest) a w := by
  subst hn hm3
  obtain ⟨i0, hi, hz0, hz1, hz2⟩ := info_parts Try.info56
  cases a3 with
  | none =>
    obtain ⟨ht, rfl⟩ := hl.nil rfl
    obtain rfl := List.length_eq_zero_iff.1 ht
    refine wpList_append_own_none hgd s x 26 ho base 49 i0 2 Try.underlying26 hi v zs.length (rowT zs) hs hown hx ?_
    obtain ⟨a', c', rfl⟩ := own_slice hown
    have := h a' c' w (by simpa using hown) (World.grownBy.refl _ _)
    simpa using this
  | some ad =>
    refine wpList_append_own_wide w hgd s x 26 ho base 49 i0 (.agg #[.string ⟨#[]⟩, .int .u32 0]) 2 24 Try.underlying26 hi hz0 hz1 hz2 rfl (by decide) v zs.length (rowT zs) hs hown ad ts.length c3 (rowT ts) hx (rowT_length ts) (lies_cells hl.lies) (rowT_one ts) (by unfold maxLen; omega) (by omega) hbase ?_
    intro v' w' hown' hgrow _
    obtain ⟨a', c', rfl⟩ := own_slice hown'
    exact h a' c' w' (by rw [rowT_append]; exact hown') hgrow
theorem grow_any (n : Nat) (w : World) (hn : n ≤ 9000000) :
    Calls Try.prog 80 #[.slice none 0 0, .int .i64 (n : Int)] w fun e w' => Below w.heap.size w w' ∧ ∃ a c, e = .returned (.slice a 0 c) ∧ w'.ownsRow w.heap.size 49 2 (.slice a 0 c) 0 [] := by
  by_cases h0 : n = 0
  · subst h0
    have := Any8.slices_Grow_room Try.laysGrow none 0 0 0 w (by omega) (by omega) (by omega) (by omega)
    refine (show Calls Try.prog 80 _ _ _ from this).mono ?_
    rintro e w' ⟨rfl, rfl⟩
    exact ⟨Below.refl _ _, _, _, rfl, World.ownsRow_nil _ _ _ _⟩
  · obtain ⟨i0, hi, hz0, hz1, hz2⟩ := info_parts Try.info56
    have := Any8.slices_Grow_grow Try.laysGrow i0 (.agg #[.string ⟨#[]⟩, .int .u32 0]) hi hz0 (by omega) none 0 0 n [] w (by omega) (by omega) (by rw [hz2]; omega) (by omega) (by simp) (fun _ => rfl) (fun a h => by cases h)
    refine (show Calls Try.prog 80 _ _ _ from this).mono ?_
    rintro e w' ⟨rfl, rfl⟩
    refine ⟨?_, _, _, rfl, ?_⟩
    · exact ((Below.refl w.heap.size w).drew).alloc (Nat.le_refl _) _
    · refine World.ownsRow_made (base := w.heap.size) w.drew _ _ (Nat.le_refl _) (grownCap_le_maxLen _ _ _ _ (by unfold maxLen; omega)) ?_
      have hge := grownCap_ge w (0 + n) 0 (Try.laysGrow_ren.t 25)
      generalize grownCap w (0 + n) 0 (Try.laysGrow_ren.t 25) = G at hge ⊢
      simp [size_zeroCells, Value.cells]
      omega
set_option maxHeartbeats 2000000 in
theorem concat_any (b : Nat) (a1 a2 : Option Addr) (c1 c2 : Nat) (xs ys : List Tm) (w : World) (hb : b < w.heap.size) (h1 : w.cell? ⟨b, 0, none⟩ = some (.slice a1 xs.length c1)) (h2 : w.cell? ⟨b, 1, none⟩ = some (.slice a2 ys.length c2)) (hx : Held w a1 c1 xs) (hy : Held w a2 c2 ys) (hl1 : xs.length ≤ 4400000) (hl2 : ys.length ≤ 4400000) :
    Calls Try.prog 70 #[.slice (some ⟨b, 0, none⟩) 2 2] w fun e w' => Below w.heap.size w w' ∧ ∃ a c, e = .returned (.slice a (xs.length + ys.length) c) ∧ w'.ownsRow w.heap.size 49 2 (.slice a (xs.length + ys.length) c) (xs ++ ys).length (rowT (xs ++ ys)) := by
  rw [List.length_append]
  obtain ⟨n1, hn1⟩ : ∃ n1, n1 = xs.length := ⟨_, rfl⟩
  obtain ⟨n2, hn2⟩ : ∃ n2, n2 = ys.length := ⟨_, rfl⟩
  rw [← hn1, ← hn2]
  rw [← hn1] at h1 hl1
  rw [← hn2] at h2 hl2
  have hn1H := Hid.intro hn1
  have hn2H := Hid.intro hn2
  have hxH := Hid.intro hx
  have hyH := Hid.intro hy
  clear hn1 hn2 hx hy
  have hG := fun w => grow_any (n1 + n2) w (by omega)
  rw [Int.natCast_add] at hG
  replace hG := Hid.intro hG
  go_enter Try.func70, Try.ntmps70
  go_wp2
  go_loop [3, 11] (fun vs vi => ∃ (i s : Nat), i ≤ 2 ∧ vi = .int .i64 (i : Int) ∧ vs = .int .i64 (s : Int) ∧ s = (if i = 0 then 0 else if i = 1 then n1 else n1 + n2)) (fun _ vi => 2 - (intOf vi).toNat)
  case atStart => exact ⟨0, 0, by omega, rfl, rfl, rfl⟩
  case round =>
    obtain ⟨i, s, hi2, rfl, rfl, hs⟩ := hrel
    have hcase : i = 0 ∨ i = 1 ∨ i = 2 := by omega
    rcases hcase with rfl | rfl | rfl
    · obtain rfl : s = 0 := hs
      go_wp2
      all_goals first | omega | skip
      go_round
      case rel => exact ⟨1, n1, by omega, rfl, rfl, rfl⟩
      case measure => simp [intOf]
    · obtain rfl : s = n1 := hs
      go_wp2
      all_goals first | omega | skip
      go_round
      case rel => exact ⟨2, s + n2, by omega, rfl, by go_num, rfl⟩
      case measure => simp [intOf]
    · obtain rfl : s = n1 + n2 := hs
      go_wp2_with (go_at_call 80; with_reducible refine (hG.out _).mono ?_; rintro e w1 ⟨hb1, av, cv, rfl, hown1⟩)
      all_goals first | omega | skip
      have hown1H := Hid.intro hown1
      clear hown1
      go_loopw [6, 27] (fun v6 vi wr => ∃ (i s : Nat) (zs : List Tm) (a c : _), i ≤ 2 ∧ vi = .int .i64 (i : Int) ∧ v6 = .slice a s c ∧ s = (if i = 0 then 0 else if i = 1 then n1 else n1 + n2) ∧ zs = (if i = 0 then [] else if i = 1 then xs else xs ++ ys) ∧ wr.ownsRow w.heap.size 49 2 (.slice a s c) s (rowT zs) ∧ Below w.heap.size w wr) (fun _ vi _ => 2 - (intOf vi).toNat)
      case atStart => exact ⟨0, 0, [], av, cv, by omega, rfl, rfl, rfl, rfl, hown1H.out, hb1⟩
      case round =>
        obtain ⟨i, s, zs, a6, c6, hi2, rfl, rfl, hs, hzs, hown, hbr⟩ := hrel
        have hcase : i = 0 ∨ i = 1 ∨ i = 2 := by omega
        have g1 := Hid.intro (hxH.out.below hbr (Nat.le_refl _))
        have g2 := Hid.intro (hyH.out.below hbr (Nat.le_refl _))
        have e1 : wr.cell? ⟨b, 0, none⟩ = some (.slice a1 n1 c1) := by rw [hbr.cell hb]; exact h1
        have e2 : wr.cell? ⟨b, 1, none⟩ = some (.slice a2 n2 c2) := by rw [hbr.cell hb]; exact h2
        have hszr := hbr.size
        replace hown := Hid.intro hown
        rcases hcase with rfl | rfl | rfl
        · obtain rfl : s = 0 := hs
          obtain rfl : zs = [] := hzs
          go_wp2_with (at_builtin; go_must (refine app_terms _ rfl (.tmp 31) (.tmp 32) rfl w.heap.size _ 0 [] xs rfl rfl hown.out a1 c1 n1 hn1H.out rfl g1.out (by omega) hszr ?_; intro a7 c7 w3 hown3 hgrow3))
          all_goals first | omega | skip
          go_roundw
          case rel => exact ⟨1, n1, xs, a7, c7, by omega, rfl, rfl, rfl, rfl, by simpa using hown3, hbr.grown hgrow3 hszr (fun k hk => (hown.out.lt k hk).1)⟩
          case measure => simp [intOf]
        · obtain rfl : s = n1 := hs
          obtain rfl : zs = xs := hzs
          go_wp2_with (at_builtin; go_must (refine app_terms _ rfl (.tmp 31) (.tmp 32) rfl w.heap.size _ s zs ys hn1H.out rfl hown.out a2 c2 n2 hn2H.out rfl g2.out (by omega) hszr ?_; intro a7 c7 w3 hown3 hgrow3))
          all_goals first | omega | skip
          go_roundw
          case rel => exact ⟨2, s + n2, zs ++ ys, _, _, by omega, rfl, rfl, rfl, rfl, hown3, hbr.grown hgrow3 hszr (fun k hk => (hown.out.lt k hk).1)⟩
          case measure => simp [intOf]
        · obtain rfl : s = n1 + n2 := hs
          obtain rfl : zs = xs ++ ys := hzs
          go_wp2
          all_goals first | omega | skip
          go_ret
          exact ⟨hbr, _, _, rfl, hown.out⟩
set_option maxHeartbeats 2000000 in
theorem add_any (a1 a2 : Option Addr) (c1 c2 : Nat) (xs ys : List Tm) (k1 k2 : Int) (w : World) (hx : Held w a1 c1 xs) (hy : Held w a2 c2 ys) (hl1 : xs.length ≤ 4400000) (hl2 : ys.length ≤ 4400000) :
    Calls Try.prog 56 #[linV (.slice a1 xs.length c1) k1, linV (.slice a2 ys.length c2) k2] w fun e w' => Below w.heap.size w w' ∧ ∃ v, e = .returned (linV v ((k1 + k2) % 4294967296)) ∧ w'.ownsRow w.heap.size 49 2 v (addT xs ys).length (rowT (addT xs ys)) := by
  obtain ⟨n1, hn1⟩ : ∃ n1, n1 = xs.length := ⟨_, rfl⟩
  obtain ⟨n2, hn2⟩ : ∃ n2, n2 = ys.length := ⟨_, rfl⟩
  have hC := fun b w (hb : b < w.heap.size) h1 h2 hx hy => concat_any b a1 a2 c1 c2 xs ys w hb h1 h2 hx hy hl1 hl2
  rw [← hn1, ← hn2] at hC
  rw [← hn1, ← hn2]
  have hCH := Hid.intro hC
  have hn1H := Hid.intro hn1
  have hn2H := Hid.intro hn2
  have hxH := Hid.intro hx
  have hyH := Hid.intro hy
  clear hC hn1 hn2 hx hy
  go_enter Try.func56, Try.ntmps56
  go_wp2
  have t1 := ((two_new w 29 (.slice a1 n1 c1) (.int .u32 k1)).alloc (.cells #[.slice a2 n2 c2, .int .u32 k2] 29)).alloc (.cells #[.slice none 0 0, .int .u32 0] 29)
  have t2 := ((two_new (w.alloc (.cells #[.slice a1 n1 c1, .int .u32 k1] 29)) 29 (.slice a2 n2 c2) (.int .u32 k2))).alloc (.cells #[.slice none 0 0, .int .u32 0] 29)
  have t3 := two_new ((w.alloc (.cells #[.slice a1 n1 c1, .int .u32 k1] 29)).alloc (.cells #[.slice a2 n2 c2, .int .u32 k2] 29)) 29 (.slice none 0 0) (.int .u32 0)
  have hbel : Below w.heap.size w (((w.alloc (.cells #[.slice a1 n1 c1, .int .u32 k1] 29)).alloc (.cells #[.slice a2 n2 c2, .int .u32 k2] 29)).alloc (.cells #[.slice none 0 0, .int .u32 0] 29)) := ((below_alloc w _).alloc (by simp) _).alloc (by simp; omega) _
  have hsz0 : (((w.alloc (.cells #[.slice a1 n1 c1, .int .u32 k1] 29)).alloc (.cells #[.slice a2 n2 c2, .int .u32 k2] 29)).alloc (.cells #[.slice none 0 0, .int .u32 0] 29)).heap.size = w.heap.size + 1 + 1 + 1 := by simp
  simp only [World.size_alloc] at t2 t3
  generalize (((w.alloc (.cells #[.slice a1 n1 c1, .int .u32 k1] 29)).alloc (.cells #[.slice a2 n2 c2, .int .u32 k2] 29)).alloc (.cells #[.slice none 0 0, .int .u32 0] 29)) = w0 at *
  have hC1 : Hid (Calls Try.prog 70 #[.slice (some ⟨w.heap.size + 1 + 1 + 1, 0, none⟩) 2 2] (w0.alloc (.cells #[.slice a1 n1 c1, .slice a2 n2 c2] 26)).drew fun e w1 =>
      ∃ a c, e = .returned (.slice a (n1 + n2) c) ∧ Hid (w1.ownsRow (w.heap.size + 1 + 1 + 1) 49 2 (.slice a (n1 + n2) c) (n1 + n2) (rowT (xs ++ ys))) ∧ Hid (Below (w.heap.size + 1 + 1 + 1) w0 w1) ∧
        w1.cell? ⟨w.heap.size, 0, none⟩ = some (.slice a1 n1 c1) ∧ w1.cell? ⟨w.heap.size, 1, none⟩ = some (.int .u32 k1) ∧ w1.cell? ⟨w.heap.size + 1, 0, none⟩ = some (.slice a2 n2 c2) ∧ w1.cell? ⟨w.heap.size + 1, 1, none⟩ = some (.int .u32 k2)) := by
    have hbz : Below w0.heap.size w0 (w0.alloc (.cells #[.slice a1 n1 c1, .slice a2 n2 c2] 26)).drew := (below_alloc w0 _).drew
    have htw := two_new w0 26 (.slice a1 n1 c1) (.slice a2 n2 c2)
    rw [hsz0] at htw
    refine (hCH.out (w.heap.size + 1 + 1 + 1) (w0.alloc (.cells #[.slice a1 n1 c1, .slice a2 n2 c2] 26)).drew (by show _ < (w0.alloc _).heap.size; simp [hsz0]) htw.c0 htw.c1 ((hxH.out.below hbel (Nat.le_refl _)).below hbz (Nat.le_refl _)) ((hyH.out.below hbel (Nat.le_refl _)).below hbz (Nat.le_refl _))).mono ?_
    rintro e w1 ⟨hb1, a, c, rfl, hown⟩
    have hsz1 : (w0.alloc (.cells #[.slice a1 n1 c1, .slice a2 n2 c2] 26)).drew.heap.size = w.heap.size + 1 + 1 + 1 + 1 := by show (w0.alloc _).heap.size = _; simp [hsz0]
    rw [hsz1] at hb1 hown
    have hb2 : Below (w.heap.size + 1 + 1 + 1) w0 w1 := (hbz.mono (by omega)).trans (hb1.mono (by omega))
    rw [List.length_append, ← hn1H.out, ← hn2H.out] at hown
    exact ⟨a, c, rfl, own_weaken hown (by omega), hb2, (t1.below hb2 (by omega)).c0, (t1.below hb2 (by omega)).c1, (t2.below hb2 (by omega)).c0, (t2.below hb2 (by omega)).c1⟩
  have hG1 : Hid (∀ a c w1, Hid (w1.ownsRow (w.heap.size + 1 + 1 + 1) 49 2 (.slice a (n1 + n2) c) (n1 + n2) (rowT (xs ++ ys))) → Hid (Below (w.heap.size + 1 + 1 + 1) w0 w1) → Calls Try.prog 69 #[.slice a (n1 + n2) c, .int .u32 ((k1 + k2) % 4294967296)] w1 fun e w2 =>
      ∃ a' m c', e = .returned (linV (.slice a' m c') ((k1 + k2) % 4294967296)) ∧ Hid (w2.ownsRow (w.heap.size + 1 + 1 + 1) 49 2 (.slice a' m c') (addT xs ys).length (rowT (addT xs ys))) ∧ Hid (Below (w.heap.size + 1 + 1 + 1) w0 w2) ∧ w2.cell? ⟨w.heap.size + 1 + 1, 0, none⟩ = some (.slice none 0 0) ∧ w2.cell? ⟨w.heap.size + 1 + 1, 1, none⟩ = some (.int .u32 0) ∧ w2.frozen? ⟨w.heap.size + 1 + 1, 0, none⟩ = false ∧ w2.frozen? ⟨w.heap.size + 1 + 1, 1, none⟩ = false ∧
        w2.cell? ⟨w.heap.size, 0, none⟩ = some (.slice a1 n1 c1) ∧ w2.cell? ⟨w.heap.size, 1, none⟩ = some (.int .u32 k1) ∧ w2.cell? ⟨w.heap.size + 1, 0, none⟩ = some (.slice a2 n2 c2) ∧ w2.cell? ⟨w.heap.size + 1, 1, none⟩ = some (.int .u32 k2)) := by
    intro a c w1 ho hb
    have hb1 := hb.out.size
    rw [hsz0] at hb1
    have hlen : n1 + n2 = (xs ++ ys).length := by rw [List.length_append, ← hn1H.out, ← hn2H.out]
    refine (gather_any _ (xs ++ ys) _ (w.heap.size + 1 + 1 + 1) w1 (by rw [List.length_append]; omega) hb1 (by rw [← hlen]; exact ho.out)).mono ?_
    rintro e w2 ⟨hb2, v', rfl, hown⟩
    obtain ⟨a', c', rfl⟩ := own_slice hown
    have hb3 := hb.out.trans hb2
    have t1' := t1.below hb3 (by omega)
    have t2' := t2.below hb3 (by omega)
    have t3' := t3.below hb3 (by omega)
    exact ⟨a', _, c', rfl, own_weaken hown hb1, hb3, t3'.c0, t3'.c1, t3'.f0, t3'.f1, t1'.c0, t1'.c1, t2'.c0, t2'.c1⟩
  have t3H := Hid.intro t3
  have hne1 : ¬ w.heap.size + 1 + 1 = w.heap.size := by omega
  have hne2 : ¬ w.heap.size = w.heap.size + 1 + 1 := by omega
  have hwr : IntKind.u32.wrap (k1 + k2) = (k1 + k2) % 4294967296 := by simp [IntKind.wrap, IntKind.bits, IntKind.signed]
  obtain ⟨_, x0, x1, _, _⟩ := t1
  obtain ⟨_, y0, y1, _, _⟩ := t2
  obtain ⟨rh, r0, r1, rf0, rf1⟩ := t3
  clear rh
  go_region_held3 (fun w' => w'.cell? ⟨w.heap.size, 0, none⟩ = some (.slice a1 n1 c1) ∧ w'.cell? ⟨w.heap.size, 1, none⟩ = some (.int .u32 k1) ∧ w'.cell? ⟨w.heap.size + 1, 0, none⟩ = some (.slice a2 n2 c2) ∧ w'.cell? ⟨w.heap.size + 1, 1, none⟩ = some (.int .u32 k2)) (go_keep)
    ((first
      | (go_at_call 70; with_reducible refine (hC1.out).mono ?_; rintro e w1 ⟨av, cv, rfl, ho1, hb1, g0, g1, g2, g3⟩)
      | (go_at_call 69; with_reducible refine (hG1.out _ _ _ ho1 hb1).mono ?_; rintro e w2 ⟨a', m', c', rfl, ho2, hb2, q0, q1, q2, q3, g4, g5, g6, g7⟩)))
  go_wp2
  obtain ⟨s1, s2⟩ := two_set (t3H.out.below hb2.out (by omega)).heap rfl (.slice a' m' c') (.int .u32 ((k1 + k2) % 4294967296))
  have hb3 : Below w.heap.size w ((w2.setCell ⟨w.heap.size + 1 + 1, 0, none⟩ (.slice a' m' c')).setCell ⟨w.heap.size + 1 + 1, 1, none⟩ (.int .u32 ((k1 + k2) % 4294967296))) := (hbel.trans (hb2.out.mono (by omega))).grown s2 (by have := hb2.out.size; omega) (fun j hj => by cases hj; omega)
  generalize ((w2.setCell ⟨w.heap.size + 1 + 1, 0, none⟩ (.slice a' m' c')).setCell ⟨w.heap.size + 1 + 1, 1, none⟩ (.int .u32 ((k1 + k2) % 4294967296))) = w3 at s1 s2 hb3 ⊢
  obtain ⟨_, z0, z1, _, _⟩ := s1
  refine bodyPost_ret (by simp [results, Try.results56, go_sem, z0, z1]; try rfl) rfl ?_
  exact ⟨hb3, _, rfl, own_weaken (own_low ho2.out s2 (by omega)) (by omega)⟩
end Go.Proofs.Ytebbbefknfldoaa
/- slices.Equal at terms; expr.Same and the document's. -/
namespace Go.Proofs.Ytebbbefknfldoaa
open Go.ChangeShapes Go.WideShapes Go.ChangeAt Go.RowKit
set_option linter.unusedVariables false
set_option maxRecDepth 100000
theorem tm_ne {t u : Tm} (h : t ≠ u) : (t.name ≠ u.name) ∨ (t.name = u.name ∧ t.coef ≠ u.coef) := by
  by_cases hn : t.name = u.name
  · refine .inr ⟨hn, fun hc => h ?_⟩
    cases t; cases u; simp_all
  · exact .inl hn
theorem list_ne {α : Type} {xs ys : List α} {k : Nat} {t u : α} (h1 : xs[k]? = some t) (h2 : ys[k]? = some u) (h : t ≠ u) : xs ≠ ys := by
  intro e
  subst e
  rw [h1] at h2
  cases h2
  exact h rfl
theorem list_eq {α : Type} {xs ys : List α} (hl : xs.length = ys.length) (h : xs.take xs.length = ys.take xs.length) : xs = ys := by
  rw [List.take_length, hl, List.take_length] at h
  exact h
theorem below_drewN {B : Nat} {a w : World} (h : Below B a w) (n : Nat) : Below B a (w.drewN n) := ⟨h.os, h.tape, h.output, h.size, h.block⟩
def sameL (xs ys : List Tm) (k1 k2 : Int) : Bool := decide (k1 = k2) && decide (xs = ys)
set_option maxHeartbeats 1000000 in
theorem refSame_any (a1 a2 : Option Addr) (c1 c2 : Nat) (xs ys : List Tm) (k1 k2 : Int) (w : World) (h1 : TmLies w a1 xs) (h2 : TmLies w a2 ys) (hm : xs.length ≤ 9000000) (hm2 : ys.length ≤ 9000000) :
    Calls Try.prog 11 #[linV (.slice a1 xs.length c1) k1, linV (.slice a2 ys.length c2) k2] w fun e w' => e = .returned (.bool (sameL xs ys k1 k2)) ∧ Below w.heap.size w w' := by
  have hb0 := fun o1 o2 => ((below_alloc w o1).alloc (by simp) o2)
  obtain ⟨n0, hn0⟩ : ∃ n0, n0 = xs.length := ⟨_, rfl⟩
  obtain ⟨n1, hn1⟩ : ∃ n1, n1 = ys.length := ⟨_, rfl⟩
  obtain ⟨bv, hbv⟩ : ∃ bv, bv = sameL xs ys k1 k2 := ⟨_, rfl⟩
  rw [← hn0, ← hn1, ← hbv]
  rw [← hn0] at hm
  rw [← hn1] at hm2
  have hnH := Hid.intro hn0
  have hn1H := Hid.intro hn1
  by_cases hk : k1 = k2
  · have hk' : (k1 != k2) = false := by simp [hk]
    have hbH : Hid (bv = decide (xs = ys)) := by show bv = _; rw [hbv, sameL, hk]; simp
    clear hbv hk
    by_cases hl : n0 = n1
    · subst hl
      have t1 := (two_new w 29 (.slice a1 n0 c1) (.int .u32 k1)).alloc (.cells #[.slice a2 n0 c2, .int .u32 k2] 29)
      have t2 := two_new (w.alloc (.cells #[.slice a1 n0 c1, .int .u32 k1] 29)) 29 (.slice a2 n0 c2) (.int .u32 k2)
      have hbb := hb0 (.cells #[.slice a1 n0 c1, .int .u32 k1] 29) (.cells #[.slice a2 n0 c2, .int .u32 k2] 29)
      simp only [World.size_alloc] at t2
      clear hn0 hn1 hb0
      go_enter Try.func11, Try.ntmps11
      go_wp2
      all_goals first | omega | skip
      have h1' := Hid.intro (h1.below hbb (Nat.le_refl _))
      have h2' := Hid.intro (h2.below hbb (Nat.le_refl _))
      clear h1 h2
      generalize ((w.alloc (.cells #[.slice a1 n0 c1, .int .u32 k1] 29)).alloc (.cells #[.slice a2 n0 c2, .int .u32 k2] 29)) = w0 at *
      obtain ⟨_, x0, x1, _, _⟩ := t1
      obtain ⟨_, y0, y1, _, _⟩ := t2
      go_loopw [5] (fun i wr => ∃ k n : Nat, k ≤ n0 ∧ i = .int .i64 k ∧ wr = w0.drewN n ∧ Hid (xs.take k = ys.take k)) (fun i _ => n0 - (intOf i).toNat)
      case atStart => exact ⟨0, 0, Nat.zero_le _, rfl, rfl, rfl⟩
      case round =>
        obtain ⟨k, n, hk, rfl, rfl, heq⟩ := hrel
        have x0' : (w0.drewN n).cell? ⟨w.heap.size, 0, none⟩ = some (.slice a1 n0 c1) := x0
        have y0' : (w0.drewN n).cell? ⟨w.heap.size + 1, 0, none⟩ = some (.slice a2 n0 c2) := y0
        by_cases hlt : k < n0
        · obtain ⟨t, ht⟩ : ∃ t, xs[k]? = some t := ⟨xs[k]'(by rw [← hnH.out]; exact hlt), List.getElem?_eq_getElem _⟩
          obtain ⟨u, hu⟩ : ∃ u, ys[k]? = some u := ⟨ys[k]'(by rw [← hn1H.out]; exact hlt), List.getElem?_eq_getElem _⟩
          rcases h1'.out with hx | ⟨g1, o1, rfl, _, hc1⟩
          · rw [hx] at ht; simp at ht
          rcases h2'.out with hx | ⟨g2, o2, rfl, _, hc2⟩
          · rw [hx] at hu; simp at hu
          obtain ⟨q0, q1⟩ := hc1 k t ht
          obtain ⟨p0, p1⟩ := hc2 k u hu
          clear hc1 hc2
          by_cases htu : t = u
          · subst htu
            have hnext : Hid (xs.take (k + 1) = ys.take (k + 1)) := by
              show _ = _
              rw [take_at xs k t ht, take_at ys k t hu, heq.out]
            clear ht hu
            go_wp2
            go_quiet (fail)
            go_wp2
            all_goals first
              | omega
              | skip
            go_roundw
            case rel => exact ⟨k + 1, n + nq, by omega, by go_num, by simp, hnext⟩
            case measure => simp [intOf]; omega
          · have hf : bv = false := by rw [hbH.out]; exact decide_eq_false (list_ne ht hu htu)
            subst hf
            clear ht hu
            rcases tm_ne htu with hne | ⟨hne, hce⟩
            · have e1 : ((str t.name).toList == (str u.name).toList) = false := by rw [str_toList, str_toList]; simp [hne]
              clear htu hne
              go_wp2
              go_quiet (fail)
              go_wp2
              all_goals first
                | omega
                | skip
              go_ret
              exact ⟨rfl, below_drewN (below_drewN hbb _) _⟩
            · have e1 : ((str t.name).toList == (str u.name).toList) = true := by rw [hne]; simp
              have e2 : (t.coef == u.coef) = false := by simp [hce]
              clear htu hne hce
              go_wp2
              go_quiet (fail)
              go_wp2
              all_goals first
                | omega
                | skip
              go_ret
              exact ⟨rfl, below_drewN (below_drewN hbb _) _⟩
        · have ht : bv = true := by
            rw [hbH.out]
            have e : k = xs.length := by rw [← hnH.out]; omega
            exact decide_eq_true (list_eq (by rw [← hnH.out, hn1H.out]) (by have := heq.out; rwa [e] at this))
          subst ht
          go_wp2
          all_goals first
            | omega
            | skip
          go_ret
          exact ⟨rfl, below_drewN hbb _⟩
    · have hne : xs ≠ ys := fun e => hl (by rw [hn0, hn1, e])
      have hf : bv = false := by rw [hbH.out]; exact decide_eq_false hne
      subst hf
      have hne2 : ((n0 : Int) != (n1 : Int)) = true := by simp; omega
      clear hne hl hn0 hn1
      go_enter Try.func11, Try.ntmps11
      go_wp2
      all_goals first
        | omega
        | skip
      go_ret
      exact ⟨rfl, hb0 _ _⟩
  · have hk' : (k1 != k2) = true := by simp [hk]
    have hf : bv = false := by rw [hbv, sameL]; simp [hk]
    subst hf
    clear hbv hk hn0 hn1
    go_enter Try.func11, Try.ntmps11
    go_wp2
    go_ret
    exact ⟨rfl, hb0 _ _⟩
end Go.Proofs.Ytebbbefknfldoaa
/- A region that draws its order, whose operations only read, and whose callees leave what was there as it was: walked once. -/
namespace Go.Proofs.Ytebbbefknfldoaa
open Go.ChangeShapes Go.WideShapes Go.ChangeAt Go.RowKit
set_option linter.unusedVariables false
set_option maxRecDepth 100000
structure BelowOf (w : World) where
  wd : World
  h : Below w.heap.size w wd
instance {w : World} : Inhabited (BelowOf w) := ⟨⟨w, Below.refl _ _⟩⟩
theorem BelowOf.cell {w : World} (p : BelowOf w) {a : Addr} {v : Value} (ha : a.block < w.heap.size) (h : w.cell? a = some v) : p.wd.cell? a = some v := by rw [p.h.cell ha]; exact h
theorem wp_region_quiet_below {P : Program} {id : Nat} {Q : Exit → Act → World → Prop} {a : Act} {w : World} {l : List Oper} (hm : P.follows .mixedOrders = true) (hB : Region.lexB .any l.toArray = true)
    (h : wpQuiet P l.toArray (fun w' => ∃ p : BelowOf w, w' = p.wd) (fun a' => ∀ w', (∃ p : BelowOf w, w' = p.wd) → Q .normal a' w') l a) : (Code.region id l.toArray true).wp P Q a w :=
  wp_region_quiet (C := fun w' => ∃ p : BelowOf w, w' = p.wd) hm hB ⟨⟨w.drew, (Below.refl _ _).drew⟩, rfl⟩ (by simpa using h)
theorem wpQuiet_skip {P : Program} {ops : Array Oper} {C : World → Prop} {Q : Act → Prop} {a : Act} {o : Oper} {rest : List Oper} (h : Region.wanted o (yielded ops a.tmps) = false) (k : wpQuiet P ops C Q rest (a.put o.dst undef)) : wpQuiet P ops C Q (o :: rest) a := by
  unfold wpQuiet
  rw [if_neg (by rw [h]; decide)]
  exact k
theorem below_calls {P : Program} {f : FuncId} {args : Array Value} {w : World} {p : BelowOf w} {v : Value}
    (h : Calls P f args p.wd fun e w' => e = .returned v ∧ Below p.wd.heap.size p.wd w') : Calls P f args p.wd fun e w'' => e = .returned v ∧ ∃ p' : BelowOf w, w'' = p'.wd :=
  h.mono fun _ w' ⟨he, hb⟩ => ⟨he, ⟨w', p.h.trans (hb.mono p.h.size)⟩, rfl⟩
end Go.Proofs.Ytebbbefknfldoaa
/- The document's Legal. -/
namespace Go.Proofs.Ytebbbefknfldoaa
open Go.ChangeShapes Go.WideShapes Go.ChangeAt Go.RowKit
set_option linter.unusedVariables false
set_option maxRecDepth 100000
theorem lenW_grow (p : Int → Bool) (hp : p 0 = false) (r : List UInt8) (k : Nat) (h : k ≤ lenW p r) (hc : p (atI r k) = true) : k + 1 ≤ lenW p r := by
  apply Decidable.byContradiction
  intro hn
  have e : lenW p r = k := by omega
  have := lenW_end p hp r
  rw [e, hc] at this
  cases this
theorem lenW_here (p : Int → Bool) (hp : p 0 = false) (r : List UInt8) (k : Nat) (h : k ≤ lenW p r) (hc : p (atI r k) = false) : lenW p r = k := by
  apply Decidable.byContradiction
  intro hn
  have := lenW_in p r k (by omega)
  rw [hc] at this
  cases this
set_option maxHeartbeats 1000000 in
theorem refLegal_any (s : ByteArray) (hs : s.size ≤ 1100000) (w : World) :
    Calls Try.prog 32 #[.string s] w fun e w' => e = .returned (.bool (legB s)) ∧ w' = w := by
  have hs2 : s.size ≤ 4611686018427387904 := by omega
  by_cases h1 : s.size < 1
  · have hl : legB s = false := by
      have : nameOK (bs s) = false := by
        cases h : nameOK (bs s)
        · rfl
        · simp only [nameOK, decide_eq_true_eq] at h
          have := (lenW_more inW inW_zero (bs s) (inW_of_let _ h.1)).2
          rw [bs_length] at this
          omega
      simp [legB, this]
    rw [hl]
    clear hl
    go_enter Try.func32, Try.ntmps32
    go_wp2
    all_goals first
      | omega
      | (go_ret; exact ⟨rfl, rfl⟩)
  · by_cases h32 : 32 < s.size
    · have hl : legB s = false := by
        have : nameOK (bs s) = false := by
          simp only [nameOK, decide_eq_false_iff_not]
          rw [bs_length]
          omega
        simp [legB, this]
      rw [hl]
      clear hl
      go_enter Try.func32, Try.ntmps32
      go_wp2
      all_goals first
        | omega
        | (go_ret; exact ⟨rfl, rfl⟩)
    · have hpos : 0 < s.size := by omega
      have hg0 := atI_get s 0 hpos
      have hle1 : ¬ ((s.size : Int) < 1) := by omega
      have hle2 : ¬ ((32 : Int) < (s.size : Int)) := by omega
      cases hlet : isLet (atI (bs s) 0)
      · have hl : legB s = false := by
          have : nameOK (bs s) = false := by
            simp only [nameOK, decide_eq_false_iff_not]
            rw [hlet]
            simp
          simp [legB, this]
        rw [hl]
        clear hl
        go_enter Try.func32, Try.ntmps32
        go_wp2_with (first
          | (go_at_call 50; refine (refLetter_any _ _).mono ?_; rintro e w' ⟨rfl, rfl⟩))
        all_goals first
          | omega
          | (go_ret; exact ⟨rfl, rfl⟩)
      · have hlH := Hid.intro hlet
        go_enter Try.func32, Try.ntmps32
        go_wp2_with (first
          | (go_at_call 50; refine (refLetter_any _ _).mono ?_; rintro e w' ⟨rfl, rfl⟩))
        all_goals first
          | omega
          | skip
        go_loop [3] (fun vi => ∃ k : Nat, k ≤ s.size ∧ vi = .int .i64 k ∧ Hid (k ≤ lenW inW (bs s))) (fun vi => s.size - (intOf vi).toNat)
        case atStart => exact ⟨0, by omega, rfl, Nat.zero_le _⟩
        case round =>
          obtain ⟨k, hk, rfl, hkl⟩ := hrel
          by_cases hlt : k < s.size
          · have hg := atI_get s k hlt
            cases hl : isLet (atI (bs s) k)
            · cases hd : isDig (atI (bs s) k)
              · have hw : lenW inW (bs s) = k := lenW_here inW inW_zero _ _ hkl.out (by simp [inW, hl, hd])
                have hlg : legB s = false := by
                  have : nameOK (bs s) = false := by
                    simp only [nameOK, decide_eq_false_iff_not]
                    rw [hw, bs_length]
                    omega
                  simp [legB, this]
                have hlgH := Hid.intro hlg
                clear hlg hw
                go_wp2_with (first
                  | (go_at_call 50; refine (refLetter_any _ _).mono ?_; rintro e w' ⟨rfl, rfl⟩)
                  | (go_at_call 51; refine (refDigit_any _ _).mono ?_; rintro e w' ⟨rfl, rfl⟩))
                all_goals first
                  | omega
                  | (go_ret; exact ⟨by rw [hlgH.out]; rfl, rfl⟩)
              · have hw := Hid.intro (lenW_grow inW inW_zero _ _ hkl.out (by simp [inW, hl, hd]))
                go_wp2_with (first
                  | (go_at_call 50; refine (refLetter_any _ _).mono ?_; rintro e w' ⟨rfl, rfl⟩)
                  | (go_at_call 51; refine (refDigit_any _ _).mono ?_; rintro e w' ⟨rfl, rfl⟩))
                all_goals first
                  | omega
                  | skip
                go_round
                case rel => exact ⟨k + 1, by omega, by go_num, hw⟩
                case measure => simp [intOf]; omega
            · have hw := Hid.intro (lenW_grow inW inW_zero _ _ hkl.out (by simp [inW, hl]))
              go_wp2_with (first
                | (go_at_call 50; refine (refLetter_any _ _).mono ?_; rintro e w' ⟨rfl, rfl⟩)
                | (go_at_call 51; refine (refDigit_any _ _).mono ?_; rintro e w' ⟨rfl, rfl⟩))
              all_goals first
                | omega
                | skip
              go_round
              case rel => exact ⟨k + 1, by omega, by go_num, hw⟩
              case measure => simp [intOf]; omega
          · have e : k = s.size := by omega
            subst e
            have hw : lenW inW (bs s) = (bs s).length := by
              have := lenW_le inW (bs s)
              rw [bs_length] at this ⊢
              have := hkl.out
              omega
            have hlg : legB s = !(isR s || isZ s) := by
              have : nameOK (bs s) = true := by
                simp only [nameOK, decide_eq_true_eq]
                refine ⟨hlH.out, hw, ?_⟩
                rw [bs_length]
                omega
              simp [legB, this]
            have hlgH := Hid.intro hlg
            clear hlg hw
            go_wp2_with (first
              | (go_at_call 52; refine (refRegister_any _ hs2 _).mono ?_; rintro e w' ⟨rfl, rfl⟩))
            all_goals first
              | omega
              | (go_ret; exact ⟨by rw [hlgH.out, Bool.not_or]; rfl, rfl⟩)
end Go.Proofs.Ytebbbefknfldoaa
namespace Go.Proofs.Ytebbbefknfldoaa
open Go.ChangeShapes Go.WideShapes Go.ChangeAt Go.RowKit
set_option linter.unusedVariables false
set_option maxRecDepth 100000
def okT (prev : Option (List UInt8)) (t : Tm) : Bool := decide (t.coef ≠ 0) && (legB (str t.name) && (match prev with | none => true | some p => nlt p t.name))
def rightF (prev : Option (List UInt8)) : List Tm → Bool
  | [] => true
  | t :: r => okT prev t && rightF (some t.name) r
def prevOf (ts : List Tm) : Nat → Option (List UInt8)
  | 0 => none
  | k + 1 => (ts[k]?).map (·.name)
def rightAt (ts : List Tm) (i : Nat) : Bool := rightF (prevOf ts i) (ts.drop i)
theorem rightAt_step (ts : List Tm) (i : Nat) (t : Tm) (ht : ts[i]? = some t) : rightAt ts i = (okT (prevOf ts i) t && rightAt ts (i + 1)) := by
  unfold rightAt
  rw [drop_at ts i t ht, rightF]
  congr 1
  simp [prevOf, ht]
theorem rightAt_end (ts : List Tm) : rightAt ts ts.length = true := by
  unfold rightAt
  rw [List.drop_length]
  rfl
theorem leq_nlt (p t : List UInt8) : (Op.bytesLess t p || t == p) = !nlt p t := by
  have h0 : Op.bytesLess t p = nlt t p := rfl
  rw [h0]
  rcases nlt_tri p t with h | h | h
  · rw [h, nlt_asymm h]
    have := nlt_ne h
    simp
    exact fun e => this e.symm
  · subst h
    rw [nlt_irrefl]
    simp
  · rw [h, nlt_asymm h]
    rfl
theorem str_size (l : List UInt8) : (str l).size = l.length := by simp [str, ByteArray.size]
end Go.Proofs.Ytebbbefknfldoaa

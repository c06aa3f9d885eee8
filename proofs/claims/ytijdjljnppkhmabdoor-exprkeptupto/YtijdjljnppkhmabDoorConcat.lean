/- slices.Concat of two lists of terms; expr.Add. -/
import Derived.Test.YtijdjljnppkhmabDoorGather
import Derived.Test.YtijdjljnppkhmabDoorShelf2
import Derived.Laws.AppendOwnNone
import Derived.Deep.RegionHeld3
namespace Go.Proofs.YtijdjljnppkhmabDoor
open Go.ChangeShapes Go.WideShapes Go.ChangeAt Go.RowKit
set_option linter.unusedVariables false
set_option maxRecDepth 100000

/-- a list of terms, as a value: nil, or an address -/
structure Held (w : World) (a : Option Addr) (c : Nat) (ts : List Tm) : Prop where
  lies : TmLies w a ts
  nil : a = none → ts.length = 0 ∧ c = 0

theorem Held.below {w w' : World} {a : Option Addr} {c : Nat} {ts : List Tm} {B : Nat} (h : Held w a c ts) (hb : Below B w w') (hB : w.heap.size ≤ B) : Held w' a c ts := ⟨h.lies.below hb hB, h.nil⟩

theorem own_held {w : World} {B n : Nat} {a : Option Addr} {c : Nat} {ts : List Tm} (h : w.ownsRow B 30 2 (.slice a n c) ts.length (rowT ts)) : Held w a c ts := by
  have hn := own_len h
  subst hn
  refine ⟨own_tmLies h, fun ha => ?_⟩
  subst ha
  rcases h.2 with ⟨hv, h0⟩ | ⟨g, cap, cur, hv, _⟩
  · injection hv with _ _ hv
    exact ⟨h0, hv⟩
  · cases hv

theorem rowT_one (ts : List Tm) : ∀ u ∈ rowT ts, u.oneCell' = true := by
  intro u hu
  simp only [rowT, List.mem_flatMap] at hu
  obtain ⟨t, _, hu⟩ := hu
  simp [Tm.cells] at hu
  rcases hu with rfl | rfl <;> rfl

theorem lies_cells {w : World} {ad : Addr} {ts : List Tm} (h : TmLies w (some ad) ts) : ∀ j u, (rowT ts)[j]? = some u → w.cell? (ad.add j) = some u := by
  intro j u hj
  rcases h with rfl | ⟨g, o, hgo, hg, h⟩
  · simp [rowT] at hj
  · injection hgo with hgo
    subst hgo
    have hlt : j < ts.length * 2 := by
      have := (List.getElem?_eq_some_iff.1 hj).1
      rwa [rowT_length] at this
    have h1 : ts[j / 2]? = some ts[j / 2] := List.getElem?_eq_getElem (by omega)
    have h2 := rowT_get ts (j / 2) (j % 2) _ h1 (by omega)
    rw [show j / 2 * 2 + j % 2 = j by omega, hj] at h2
    obtain ⟨e1, e2⟩ := h (j / 2) _ h1
    have hadd : (⟨g, o, none⟩ : Addr).add j = ⟨g, o + j, none⟩ := by simp [Addr.add]
    rw [hadd]
    rcases Nat.mod_two_eq_zero_or_one j with hm | hm
    · rw [hm] at h2
      rw [show o + j / 2 * 2 = o + j by omega] at e1
      rw [e1, h2]
      rfl
    · rw [hm] at h2
      rw [show o + j / 2 * 2 + 1 = o + j by omega] at e2
      rw [e2, h2]
      rfl

/-- append(zs, ts...) -/
theorem app_terms {ops : Array Oper} {rest : List Oper} {o : Oper} {a : Act} {Q : Exit → Act → World → Prop} (w : World) (hgd : o.guard = none) (s x : Operand)
    (ho : o.op = .call { callee := .builtin .append, args := #[s, x], argTypes := #[22, 22] }) (base : Nat) (v : Value) (n : Nat) (zs ts : List Tm) (hn : n = zs.length) (hs : a.eval s = v) (hown : w.ownsRow base 30 2 v n (rowT zs))
    (a3 : Option Addr) (c3 m : Nat) (hm3 : m = ts.length) (hx : a.eval x = .slice a3 m c3) (hl : Held w a3 c3 ts) (hm : n + m ≤ 9000000) (hbase : base ≤ w.heap.size)
    (h : ∀ a' c' w', w'.ownsRow base 30 2 (.slice a' (n + m) c') (n + m) (rowT (zs ++ ts)) → w.grownBy w' v.ownBlock → wpList Tryd.prog ops Q rest (a.put o.dst (.slice a' (n + m) c')) w') : wpList Tryd.prog ops Q (o :: rest) a w := by
  subst hn hm3
  obtain ⟨i0, hi, hz0, hz1, hz2⟩ := info_parts Tryd.info30
  cases a3 with
  | none =>
    obtain ⟨ht, rfl⟩ := hl.nil rfl
    obtain rfl := List.length_eq_zero_iff.1 ht
    refine wpList_append_own_none hgd s x 22 ho base 30 i0 2 Tryd.underlying22 hi v zs.length (rowT zs) hs hown hx ?_
    obtain ⟨a', c', rfl⟩ := own_slice hown
    have := h a' c' w (by simpa using hown) (World.grownBy.refl _ _)
    simpa using this
  | some ad =>
    refine wpList_append_own_wide w hgd s x 22 ho base 30 i0 (.agg #[.string ⟨#[]⟩, .int .u32 0]) 2 24 Tryd.underlying22 hi hz0 hz1 hz2 rfl (by decide) v zs.length (rowT zs) hs hown ad ts.length c3 (rowT ts) hx (rowT_length ts) (lies_cells hl.lies) (rowT_one ts) (by unfold maxLen; omega) (by omega) hbase ?_
    intro v' w' hown' hgrow _
    obtain ⟨a', c', rfl⟩ := own_slice hown'
    exact h a' c' w' (by rw [rowT_append]; exact hown') hgrow

/-- slices.Grow of the nil list -/
theorem grow_any (n : Nat) (w : World) (hn : n ≤ 9000000) :
    Calls Tryd.prog 39 #[.slice none 0 0, .int .i64 (n : Int)] w fun e w' => Below w.heap.size w w' ∧ ∃ a c, e = .returned (.slice a 0 c) ∧ w'.ownsRow w.heap.size 30 2 (.slice a 0 c) 0 [] := by
  by_cases h0 : n = 0
  · subst h0
    have := Any8.slices_Grow_room Tryd.laysGrow none 0 0 0 w (by omega) (by omega) (by omega) (by omega)
    refine (show Calls Tryd.prog 39 _ _ _ from this).mono ?_
    rintro e w' ⟨rfl, rfl⟩
    exact ⟨Below.refl _ _, _, _, rfl, World.ownsRow_nil _ _ _ _⟩
  · obtain ⟨i0, hi, hz0, hz1, hz2⟩ := info_parts Tryd.info30
    have := Any8.slices_Grow_grow Tryd.laysGrow i0 (.agg #[.string ⟨#[]⟩, .int .u32 0]) hi hz0 (by omega) none 0 0 n [] w (by omega) (by omega) (by rw [hz2]; omega) (by omega) (by simp) (fun _ => rfl) (fun a h => by cases h)
    refine (show Calls Tryd.prog 39 _ _ _ from this).mono ?_
    rintro e w' ⟨rfl, rfl⟩
    refine ⟨?_, _, _, rfl, ?_⟩
    · exact ((Below.refl w.heap.size w).drew).alloc (Nat.le_refl _) _
    · refine World.ownsRow_made (base := w.heap.size) w.drew _ _ (Nat.le_refl _) (grownCap_le_maxLen _ _ _ _ (by unfold maxLen; omega)) ?_
      have hge := grownCap_ge w (0 + n) 0 (Tryd.laysGrow_ren.t 25)
      generalize grownCap w (0 + n) 0 (Tryd.laysGrow_ren.t 25) = G at hge ⊢
      simp [size_zeroCells, Value.cells]
      omega

set_option maxHeartbeats 2000000 in
theorem concat_any (b : Nat) (a1 a2 : Option Addr) (c1 c2 : Nat) (xs ys : List Tm) (w : World) (hb : b < w.heap.size) (h1 : w.cell? ⟨b, 0, none⟩ = some (.slice a1 xs.length c1)) (h2 : w.cell? ⟨b, 1, none⟩ = some (.slice a2 ys.length c2)) (hx : Held w a1 c1 xs) (hy : Held w a2 c2 ys) (hl1 : xs.length ≤ 4400000) (hl2 : ys.length ≤ 4400000) :
    Calls Tryd.prog 24 #[.slice (some ⟨b, 0, none⟩) 2 2] w fun e w' => Below w.heap.size w w' ∧ ∃ a c, e = .returned (.slice a (xs.length + ys.length) c) ∧ w'.ownsRow w.heap.size 30 2 (.slice a (xs.length + ys.length) c) (xs ++ ys).length (rowT (xs ++ ys)) := by
  rw [List.length_append]
  obtain ⟨n1, hn1⟩ : ∃ n1, n1 = xs.length := ⟨_, rfl⟩
  obtain ⟨n2, hn2⟩ : ∃ n2, n2 = ys.length := ⟨_, rfl⟩
  rw [← hn1, ← hn2]
  rw [← hn1] at h1 hl1
  rw [← hn2] at h2 hl2
  have hn1H := Hid.intro hn1
  have hn2H := Hid.intro hn2
  have hxH := Hid.intro hx
  have hyH := Hid.intro hy
  clear hn1 hn2 hx hy
  have hG := fun w => grow_any (n1 + n2) w (by omega)
  rw [Int.natCast_add] at hG
  replace hG := Hid.intro hG
  go_enter Tryd.func24, Tryd.ntmps24
  go_wp2
  go_loop [3, 11] (fun vs vi => ∃ (i s : Nat), i ≤ 2 ∧ vi = .int .i64 (i : Int) ∧ vs = .int .i64 (s : Int) ∧ s = (if i = 0 then 0 else if i = 1 then n1 else n1 + n2)) (fun _ vi => 2 - (intOf vi).toNat)
  case atStart => exact ⟨0, 0, by omega, rfl, rfl, rfl⟩
  case round =>
    obtain ⟨i, s, hi2, rfl, rfl, hs⟩ := hrel
    have hcase : i = 0 ∨ i = 1 ∨ i = 2 := by omega
    rcases hcase with rfl | rfl | rfl
    · obtain rfl : s = 0 := hs
      go_wp2
      all_goals first | omega | skip
      go_round
      case rel => exact ⟨1, n1, by omega, rfl, rfl, rfl⟩
      case measure => simp [intOf]
    · obtain rfl : s = n1 := hs
      go_wp2
      all_goals first | omega | skip
      go_round
      case rel => exact ⟨2, s + n2, by omega, rfl, by go_num, rfl⟩
      case measure => simp [intOf]
    · obtain rfl : s = n1 + n2 := hs
      go_wp2_with (go_at_call 39; with_reducible refine (hG.out _).mono ?_; rintro e w1 ⟨hb1, av, cv, rfl, hown1⟩)
      all_goals first | omega | skip
      have hown1H := Hid.intro hown1
      clear hown1
      go_loopw [6, 27] (fun v6 vi wr => ∃ (i s : Nat) (zs : List Tm) (a c : _), i ≤ 2 ∧ vi = .int .i64 (i : Int) ∧ v6 = .slice a s c ∧ s = (if i = 0 then 0 else if i = 1 then n1 else n1 + n2) ∧ zs = (if i = 0 then [] else if i = 1 then xs else xs ++ ys) ∧ wr.ownsRow w.heap.size 30 2 (.slice a s c) s (rowT zs) ∧ Below w.heap.size w wr) (fun _ vi _ => 2 - (intOf vi).toNat)
      case atStart => exact ⟨0, 0, [], av, cv, by omega, rfl, rfl, rfl, rfl, hown1H.out, hb1⟩
      case round =>
        obtain ⟨i, s, zs, a6, c6, hi2, rfl, rfl, hs, hzs, hown, hbr⟩ := hrel
        have hcase : i = 0 ∨ i = 1 ∨ i = 2 := by omega
        have g1 := Hid.intro (hxH.out.below hbr (Nat.le_refl _))
        have g2 := Hid.intro (hyH.out.below hbr (Nat.le_refl _))
        have e1 : wr.cell? ⟨b, 0, none⟩ = some (.slice a1 n1 c1) := by rw [hbr.cell hb]; exact h1
        have e2 : wr.cell? ⟨b, 1, none⟩ = some (.slice a2 n2 c2) := by rw [hbr.cell hb]; exact h2
        have hszr := hbr.size
        replace hown := Hid.intro hown
        rcases hcase with rfl | rfl | rfl
        · obtain rfl : s = 0 := hs
          obtain rfl : zs = [] := hzs
          go_wp2_with (at_builtin; go_must (refine app_terms _ rfl (.tmp 31) (.tmp 32) rfl w.heap.size _ 0 [] xs rfl rfl hown.out a1 c1 n1 hn1H.out rfl g1.out (by omega) hszr ?_; intro a7 c7 w3 hown3 hgrow3))
          all_goals first | omega | skip
          go_roundw
          case rel => exact ⟨1, n1, xs, a7, c7, by omega, rfl, rfl, rfl, rfl, by simpa using hown3, hbr.grown hgrow3 hszr (fun k hk => (hown.out.lt k hk).1)⟩
          case measure => simp [intOf]
        · obtain rfl : s = n1 := hs
          obtain rfl : zs = xs := hzs
          go_wp2_with (at_builtin; go_must (refine app_terms _ rfl (.tmp 31) (.tmp 32) rfl w.heap.size _ s zs ys hn1H.out rfl hown.out a2 c2 n2 hn2H.out rfl g2.out (by omega) hszr ?_; intro a7 c7 w3 hown3 hgrow3))
          all_goals first | omega | skip
          go_roundw
          case rel => exact ⟨2, s + n2, zs ++ ys, _, _, by omega, rfl, rfl, rfl, rfl, hown3, hbr.grown hgrow3 hszr (fun k hk => (hown.out.lt k hk).1)⟩
          case measure => simp [intOf]
        · obtain rfl : s = n1 + n2 := hs
          obtain rfl : zs = xs ++ ys := hzs
          go_wp2
          all_goals first | omega | skip
          go_ret
          exact ⟨hbr, _, _, rfl, hown.out⟩

set_option maxHeartbeats 2000000 in
theorem add_any (a1 a2 : Option Addr) (c1 c2 : Nat) (xs ys : List Tm) (k1 k2 : Int) (w : World) (hx : Held w a1 c1 xs) (hy : Held w a2 c2 ys) (hl1 : xs.length ≤ 4400000) (hl2 : ys.length ≤ 4400000) :
    Calls Tryd.prog 10 #[linV (.slice a1 xs.length c1) k1, linV (.slice a2 ys.length c2) k2] w fun e w' => Below w.heap.size w w' ∧ ∃ v, e = .returned (linV v ((k1 + k2) % 4294967296)) ∧ w'.ownsRow w.heap.size 30 2 v (addT xs ys).length (rowT (addT xs ys)) := by
  obtain ⟨n1, hn1⟩ : ∃ n1, n1 = xs.length := ⟨_, rfl⟩
  obtain ⟨n2, hn2⟩ : ∃ n2, n2 = ys.length := ⟨_, rfl⟩
  have hC := fun b w (hb : b < w.heap.size) h1 h2 hx hy => concat_any b a1 a2 c1 c2 xs ys w hb h1 h2 hx hy hl1 hl2
  rw [← hn1, ← hn2] at hC
  rw [← hn1, ← hn2]
  have hCH := Hid.intro hC
  have hn1H := Hid.intro hn1
  have hn2H := Hid.intro hn2
  have hxH := Hid.intro hx
  have hyH := Hid.intro hy
  clear hC hn1 hn2 hx hy
  go_enter Tryd.func10, Tryd.ntmps10
  go_wp2
  have t1 := ((two_new w 25 (.slice a1 n1 c1) (.int .u32 k1)).alloc (.cells #[.slice a2 n2 c2, .int .u32 k2] 25)).alloc (.cells #[.slice none 0 0, .int .u32 0] 25)
  have t2 := ((two_new (w.alloc (.cells #[.slice a1 n1 c1, .int .u32 k1] 25)) 25 (.slice a2 n2 c2) (.int .u32 k2))).alloc (.cells #[.slice none 0 0, .int .u32 0] 25)
  have t3 := two_new ((w.alloc (.cells #[.slice a1 n1 c1, .int .u32 k1] 25)).alloc (.cells #[.slice a2 n2 c2, .int .u32 k2] 25)) 25 (.slice none 0 0) (.int .u32 0)
  have hbel : Below w.heap.size w (((w.alloc (.cells #[.slice a1 n1 c1, .int .u32 k1] 25)).alloc (.cells #[.slice a2 n2 c2, .int .u32 k2] 25)).alloc (.cells #[.slice none 0 0, .int .u32 0] 25)) := ((below_alloc w _).alloc (by simp) _).alloc (by simp; omega) _
  have hsz0 : (((w.alloc (.cells #[.slice a1 n1 c1, .int .u32 k1] 25)).alloc (.cells #[.slice a2 n2 c2, .int .u32 k2] 25)).alloc (.cells #[.slice none 0 0, .int .u32 0] 25)).heap.size = w.heap.size + 1 + 1 + 1 := by simp
  simp only [World.size_alloc] at t2 t3
  generalize (((w.alloc (.cells #[.slice a1 n1 c1, .int .u32 k1] 25)).alloc (.cells #[.slice a2 n2 c2, .int .u32 k2] 25)).alloc (.cells #[.slice none 0 0, .int .u32 0] 25)) = w0 at *
  have hC1 : Hid (Calls Tryd.prog 24 #[.slice (some ⟨w.heap.size + 1 + 1 + 1, 0, none⟩) 2 2] (w0.alloc (.cells #[.slice a1 n1 c1, .slice a2 n2 c2] 22)).drew fun e w1 =>
      ∃ a c, e = .returned (.slice a (n1 + n2) c) ∧ Hid (w1.ownsRow (w.heap.size + 1 + 1 + 1) 30 2 (.slice a (n1 + n2) c) (n1 + n2) (rowT (xs ++ ys))) ∧ Hid (Below (w.heap.size + 1 + 1 + 1) w0 w1) ∧
        w1.cell? ⟨w.heap.size, 0, none⟩ = some (.slice a1 n1 c1) ∧ w1.cell? ⟨w.heap.size, 1, none⟩ = some (.int .u32 k1) ∧ w1.cell? ⟨w.heap.size + 1, 0, none⟩ = some (.slice a2 n2 c2) ∧ w1.cell? ⟨w.heap.size + 1, 1, none⟩ = some (.int .u32 k2)) := by
    have hbz : Below w0.heap.size w0 (w0.alloc (.cells #[.slice a1 n1 c1, .slice a2 n2 c2] 22)).drew := (below_alloc w0 _).drew
    have htw := two_new w0 22 (.slice a1 n1 c1) (.slice a2 n2 c2)
    rw [hsz0] at htw
    refine (hCH.out (w.heap.size + 1 + 1 + 1) (w0.alloc (.cells #[.slice a1 n1 c1, .slice a2 n2 c2] 22)).drew (by show _ < (w0.alloc _).heap.size; simp [hsz0]) htw.c0 htw.c1 ((hxH.out.below hbel (Nat.le_refl _)).below hbz (Nat.le_refl _)) ((hyH.out.below hbel (Nat.le_refl _)).below hbz (Nat.le_refl _))).mono ?_
    rintro e w1 ⟨hb1, a, c, rfl, hown⟩
    have hsz1 : (w0.alloc (.cells #[.slice a1 n1 c1, .slice a2 n2 c2] 22)).drew.heap.size = w.heap.size + 1 + 1 + 1 + 1 := by show (w0.alloc _).heap.size = _; simp [hsz0]
    rw [hsz1] at hb1 hown
    have hb2 : Below (w.heap.size + 1 + 1 + 1) w0 w1 := (hbz.mono (by omega)).trans (hb1.mono (by omega))
    rw [List.length_append, ← hn1H.out, ← hn2H.out] at hown
    exact ⟨a, c, rfl, own_weaken hown (by omega), hb2, (t1.below hb2 (by omega)).c0, (t1.below hb2 (by omega)).c1, (t2.below hb2 (by omega)).c0, (t2.below hb2 (by omega)).c1⟩
  have hG1 : Hid (∀ a c w1, Hid (w1.ownsRow (w.heap.size + 1 + 1 + 1) 30 2 (.slice a (n1 + n2) c) (n1 + n2) (rowT (xs ++ ys))) → Hid (Below (w.heap.size + 1 + 1 + 1) w0 w1) → Calls Tryd.prog 23 #[.slice a (n1 + n2) c, .int .u32 ((k1 + k2) % 4294967296)] w1 fun e w2 =>
      ∃ a' m c', e = .returned (linV (.slice a' m c') ((k1 + k2) % 4294967296)) ∧ Hid (w2.ownsRow (w.heap.size + 1 + 1 + 1) 30 2 (.slice a' m c') (addT xs ys).length (rowT (addT xs ys))) ∧ Hid (Below (w.heap.size + 1 + 1 + 1) w0 w2) ∧ w2.cell? ⟨w.heap.size + 1 + 1, 0, none⟩ = some (.slice none 0 0) ∧ w2.cell? ⟨w.heap.size + 1 + 1, 1, none⟩ = some (.int .u32 0) ∧ w2.frozen? ⟨w.heap.size + 1 + 1, 0, none⟩ = false ∧ w2.frozen? ⟨w.heap.size + 1 + 1, 1, none⟩ = false ∧
        w2.cell? ⟨w.heap.size, 0, none⟩ = some (.slice a1 n1 c1) ∧ w2.cell? ⟨w.heap.size, 1, none⟩ = some (.int .u32 k1) ∧ w2.cell? ⟨w.heap.size + 1, 0, none⟩ = some (.slice a2 n2 c2) ∧ w2.cell? ⟨w.heap.size + 1, 1, none⟩ = some (.int .u32 k2)) := by
    intro a c w1 ho hb
    have hb1 := hb.out.size
    rw [hsz0] at hb1
    have hlen : n1 + n2 = (xs ++ ys).length := by rw [List.length_append, ← hn1H.out, ← hn2H.out]
    refine (gather_any _ (xs ++ ys) _ (w.heap.size + 1 + 1 + 1) w1 (by rw [List.length_append]; omega) hb1 (by rw [← hlen]; exact ho.out)).mono ?_
    rintro e w2 ⟨hb2, v', rfl, hown⟩
    obtain ⟨a', c', rfl⟩ := own_slice hown
    have hb3 := hb.out.trans hb2
    have t1' := t1.below hb3 (by omega)
    have t2' := t2.below hb3 (by omega)
    have t3' := t3.below hb3 (by omega)
    exact ⟨a', _, c', rfl, own_weaken hown hb1, hb3, t3'.c0, t3'.c1, t3'.f0, t3'.f1, t1'.c0, t1'.c1, t2'.c0, t2'.c1⟩
  have t3H := Hid.intro t3
  have hne1 : ¬ w.heap.size + 1 + 1 = w.heap.size := by omega
  have hne2 : ¬ w.heap.size = w.heap.size + 1 + 1 := by omega
  have hwr : IntKind.u32.wrap (k1 + k2) = (k1 + k2) % 4294967296 := by simp [IntKind.wrap, IntKind.bits, IntKind.signed]
  obtain ⟨_, x0, x1, _, _⟩ := t1
  obtain ⟨_, y0, y1, _, _⟩ := t2
  obtain ⟨rh, r0, r1, rf0, rf1⟩ := t3
  clear rh
  go_region_held3 (fun w' => w'.cell? ⟨w.heap.size, 0, none⟩ = some (.slice a1 n1 c1) ∧ w'.cell? ⟨w.heap.size, 1, none⟩ = some (.int .u32 k1) ∧ w'.cell? ⟨w.heap.size + 1, 0, none⟩ = some (.slice a2 n2 c2) ∧ w'.cell? ⟨w.heap.size + 1, 1, none⟩ = some (.int .u32 k2)) (go_keep)
    ((first
      | (go_at_call 24; with_reducible refine (hC1.out).mono ?_; rintro e w1 ⟨av, cv, rfl, ho1, hb1, g0, g1, g2, g3⟩)
      | (go_at_call 23; with_reducible refine (hG1.out _ _ _ ho1 hb1).mono ?_; rintro e w2 ⟨a', m', c', rfl, ho2, hb2, q0, q1, q2, q3, g4, g5, g6, g7⟩)))
  go_wp2
  obtain ⟨s1, s2⟩ := two_set (t3H.out.below hb2.out (by omega)).heap rfl (.slice a' m' c') (.int .u32 ((k1 + k2) % 4294967296))
  have hb3 : Below w.heap.size w ((w2.setCell ⟨w.heap.size + 1 + 1, 0, none⟩ (.slice a' m' c')).setCell ⟨w.heap.size + 1 + 1, 1, none⟩ (.int .u32 ((k1 + k2) % 4294967296))) := (hbel.trans (hb2.out.mono (by omega))).grown s2 (by have := hb2.out.size; omega) (fun j hj => by cases hj; omega)
  generalize ((w2.setCell ⟨w.heap.size + 1 + 1, 0, none⟩ (.slice a' m' c')).setCell ⟨w.heap.size + 1 + 1, 1, none⟩ (.int .u32 ((k1 + k2) % 4294967296))) = w3 at s1 s2 hb3 ⊢
  obtain ⟨_, z0, z1, _, _⟩ := s1
  refine bodyPost_ret (by simp [results, Tryd.results10, go_sem, z0, z1]; try rfl) rfl ?_
  exact ⟨hb3, _, rfl, own_weaken (own_low ho2.out s2 (by omega)) (by omega)⟩
end Go.Proofs.YtijdjljnppkhmabDoor

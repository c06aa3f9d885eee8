/- equ.Solve's state in memory. -/
import Derived.Test.YtebbbefknfldoaaPut1
import Derived.Test.YtebbbefknfldoaaLinM
import Derived.Test.YtebbbefknfldoaaWk5
import Derived.Deep.DeepCutAuto
import Derived.BigQuiet
import Derived.Test.YtebbbefknfldoaaWk7a
import Derived.Test.YtebbbefknfldoaaMtM
/- equ.put. -/
namespace Go.Proofs.Ytebbbefknfldoaa
open Go.ChangeShapes Go.WideShapes Go.ChangeAt Go.RowKit
set_option linter.unusedVariables false
set_option linter.unusedSimpArgs false
set_option maxRecDepth 100000
theorem parts_at {w : World} {lo lo' : Nat} {a : Option Addr} {n c : Nat} {qs : List (Lin × Value)} (ho : w.ownsRow lo 29 2 (.slice a n c) n (rowP qs)) (hn : n = qs.length) (h0 : 0 < n) (hq : ∀ q ∈ qs, w.ownsRow lo' 49 2 q.2 q.1.terms.length (rowT q.1.terms)) : PartsAt w lo' a (qs.map Prod.fst) ∧ n ≤ c ∧ c ≤ 9223372036854775807 := by
  have ho' := ho
  rcases ho.2 with ⟨_, e⟩ | ⟨g, cap, cur, hv, k2, k3, k4, k5, k6, k7⟩
  · omega
  · injection hv with e1 e2 e3
    subst e1
    subst e3
    refine ⟨⟨g, 0, rfl, (Array.getElem?_eq_some_iff.1 k3).1, fun i p hi => ?_⟩, k4, k5⟩
    rw [List.getElem?_map] at hi
    cases hqi : qs[i]? with
    | none => rw [hqi] at hi; cases hi
    | some q =>
      rw [hqi] at hi
      have : q.1 = p := by simpa using hi
      subst this
      obtain ⟨h1, h2⟩ := rowP_get qs i q hqi
      have hc := fun j u hu => ho'.cells (g := g) rfl j u hu
      have hadd : ∀ j, (⟨g, 0, none⟩ : Addr).add j = ⟨g, j, none⟩ := fun j => by unfold Addr.add; split <;> simp_all
      have c1 := hc _ _ h1
      have c2 := hc _ _ h2
      rw [hadd] at c1 c2
      exact ⟨q.2, by rw [Nat.zero_add]; exact c1, by rw [Nat.zero_add]; exact c2, hq q (List.mem_of_getElem? hqi)⟩
theorem own_same {w : World} {lo : Nat} {T : TypeId} {sz : Nat} {v : Value} {n : Nat} {xs : List Value} (h : w.ownsRow lo T sz v n xs) {g j : Nat} (hg : v.ownBlock = some g) {y : Value} (hy : w.cell? ⟨g, j, none⟩ = some y) : (w.setCell ⟨g, j, none⟩ y).ownsRow lo T sz v n xs := by
  refine ⟨h.1, ?_⟩
  rcases h.2 with ⟨e, _⟩ | ⟨g', cap, cur, hv, k2, k3, k4⟩
  · rw [e] at hg; cases hg
  · have e : g' = g := by rw [hv] at hg; simpa [Value.ownBlock] using hg
    subst e
    refine .inr ⟨g', cap, cur, hv, k2, ?_, k4⟩
    rw [(row_set k3 j y).1]
    congr 2
    rw [cell_of_row w g' j cur T (0, 0) k3] at hy
    apply Array.ext_getElem?
    intro i
    rw [Array.getElem?_setIfInBounds]
    split
    · next e => subst e; split
                · exact hy.symm
                · next hh => rw [Array.getElem?_eq_none (by omega)] at hy; cases hy
    · rfl
structure QSt (w : World) (R : Lin) (a : Option Addr) (n c b : Nat) (wr : World) : Prop where
  res : Two wr (w.heap.size + 1) 29 (.slice none 0 0) (.int .u32 0)
  out : Two wr b 29 (.slice a n c) (.int .u32 R.const)
  own : wr.ownsRow (w.heap.size + 1 + 1 + 1) 49 2 (.slice a n c) n (rowT R.terms)
  ne : (Value.slice a n c).ownBlock ≠ some b
  bel : Below w.heap.size w wr
  ge : w.heap.size + 1 + 1 + 1 ≤ b
theorem QSt.below {w : World} {R : Lin} {a : Option Addr} {n c b : Nat} {wr w' : World} (h : QSt w R a n c b wr) (hb : Below wr.heap.size wr w') : QSt w R a n c b w' := by
  have h1 := (Array.getElem?_eq_some_iff.1 h.out.heap).1
  have h2 := h.ge
  exact ⟨h.res.below hb (by omega), h.out.below hb h1, own_bel h.own hb (Nat.le_refl _), h.ne, h.bel.trans (hb.mono h.bel.size), h.ge⟩
theorem QSt.set {w : World} {R : Lin} {n c b : Nat} {wr : World} {g j : Nat} (h : QSt w R (some ⟨g, 0, none⟩) n c b wr) {y : Value} (hy : wr.cell? ⟨g, j, none⟩ = some y) : QSt w R (some ⟨g, 0, none⟩) n c b (wr.setCell ⟨g, j, none⟩ y) := by
  have hge := (h.own.lt g rfl).1
  obtain ⟨cur, hc⟩ := own_type h.own (g := g) rfl
  obtain ⟨_, hg⟩ := row_set hc j y
  have hb := h.ge
  exact ⟨h.res.grown hg (by simp; omega), h.out.grown hg (fun e => h.ne (by cases e; rfl)), own_same h.own rfl hy, h.ne, h.bel.grown hg h.bel.size (fun k e => by cases e; omega), h.ge⟩
set_option maxHeartbeats 16000000 in
theorem put_any (F : List UInt8 → Option Lin) (x : Lin) (S : List (List UInt8)) (hS : S.length ≤ 4400000) (hSn : ∀ s ∈ S, s.length ≤ 140737488355328) (hx : CanL x) (hxS : ∀ t ∈ x.terms, t.name ∈ S) (hFe : ∀ s e, F s = some e → CanL e ∧ ∀ t ∈ e.terms, t.name ∈ S)
    (a : Option Addr) (c B nm : Nat) (w : World) (hT : TmLies w a x.terms) (hM : LinMap w B nm F) :
    Calls Try.prog 30 #[linV (.slice a x.terms.length c) x.const, .map (some B)] w fun e w' => Below w.heap.size w w' ∧ ∃ v, e = .returned (linV v (putN F x).const) ∧ w'.ownsRow w.heap.size 49 2 v (putN F x).terms.length (rowT (putN F x).terms) := by
  have hxl : x.terms.length ≤ 4400000 := Nat.le_trans (canon_len hx.terms hxS) hS
  have hget : Hid (∀ i, i < x.terms.length → ∃ t, x.terms[i]? = some t ∧ ∃ g o, a = some ⟨g, o, none⟩ ∧ g < w.heap.size ∧ TmAt w g (o + i * 2) t ∧ t.name.length ≤ 140737488355328) := fun i hi => by
    have hti : x.terms[i]? = some x.terms[i] := List.getElem?_eq_getElem hi
    rcases hT with e | ⟨g, o, e1, e2, e3⟩
    · rw [e] at hi; simp at hi
    · exact ⟨_, hti, g, o, e1, e2, e3 i _ hti, hSn _ (hxS _ (List.getElem_mem hi))⟩
  have hlook : Hid (∀ W, Below w.heap.size w W → ∀ t : Tm, t.name.length ≤ 140737488355328 → (F t.name = none → (Instr.lookup 69 (.map (some B)) (.string (str t.name)) true).run Try.prog W = .ok (.tuple #[.agg #[.slice none 0 0, .int .u32 0], .bool false]) W) ∧ ∀ e, F t.name = some e → ∃ ae ce, TmLies W ae e.terms ∧ (Instr.lookup 69 (.map (some B)) (.string (str t.name)) true).run Try.prog W = .ok (.tuple #[.agg #[.slice ae e.terms.length ce, .int .u32 e.const], .bool true]) W) := fun W hW t htl => by
    obtain ⟨f, h1, h2⟩ := hM.below hW
    have h3 := lnlook_run h1 t.name htl
    refine ⟨fun h => ?_, fun e h => ?_⟩
    · rw [(h2 t.name).1 h] at h3
      exact h3
    · obtain ⟨y, k1, k2, k3, k4⟩ := (h2 t.name).2 e h
      rw [k1] at h3
      refine ⟨y.addr, y.c, k4, ?_⟩
      rw [h3, ← k2, ← k3]
      rfl
  have hpl : ∀ i, (partsF F (x.terms.take i)).length ≤ 4400000 := fun i => Nat.le_trans (List.length_filterMap_le _ _) (by rw [List.length_take]; omega)
  have hrl : ∀ i, (restF F (x.terms.take i)).length ≤ 4400000 := fun i => Nat.le_trans (List.length_filter_le _ _) (by rw [List.length_take]; omega)
  have hpl := Hid.intro hpl
  have hrl := Hid.intro hrl
  have hFe2 := Hid.intro hFe
  have hFl : Hid (∀ s e, F s = some e → e.terms.length ≤ 4400000) := fun s e h => Nat.le_trans (canon_len (hFe s e h).1.terms (hFe s e h).2) hS
  obtain ⟨n0, hn0⟩ : ∃ n0, n0 = x.terms.length := ⟨_, rfl⟩
  have hH := Hid.intro hn0
  have hxH := Hid.intro hx
  have hxSH := Hid.intro hxS
  have hxSX := Hid.intro hxS
  have hFeX := Hid.intro hFe
  have hRl : Hid ((putN F x).terms.length ≤ 4400000) := by
    refine Nat.le_trans (canon_len (putN_can F x).terms (S := S) fun u hu => ?_) hS
    obtain ⟨p, hp, y, hy, e⟩ := mem_sumN hu
    rw [← e]
    rcases List.mem_append.1 hp with hp | hp
    · obtain ⟨t, ht, e2, he, rfl⟩ := partsF_mem hp
      obtain ⟨_, _, z, hz, hze⟩ := mem_timesT hy
      rw [← hze]
      exact (hFe _ _ he).2 z hz
    · rw [List.mem_singleton.1 hp] at hy
      exact hxS y (List.mem_filter.1 hy).1
  have hSH := Hid.intro hS
  have hSnH := Hid.intro hSn
  rw [← hn0] at hxl ⊢
  obtain ⟨i49, hi49, y0, y1, y2⟩ := info_parts Try.info56
  obtain ⟨i29, hi29, z0, z1, z2⟩ := info_parts info29
  clear hn0 hT hM hFe hS hSn hx hxS
  generalize hR : putN F x = R at *
  replace hR := Hid.intro hR
  go_enter Try.func30, Try.ntmps30
  go_wp2
  all_goals first | omega | skip
  go_loopw [6, 20] (fun v6 v20 wr => ∃ (i : Nat) (qs : List (Lin × Value)) (vr : Value), v20 = .int .i64 (i : Int) ∧ Hid (PSt w F x i qs v6 vr wr)) (fun _ v20 _ => n0 - (intOf v20).toNat)
  case atStart =>
    refine ⟨0, [], .slice none 0 0, by first | rfl | go_num, ?_⟩
    have t1 := ((two_new (w.alloc (.cells #[.slice a n0 c, .int .u32 x.const] 29)) 29 (.slice none 0 0) (.int .u32 0))).alloc (.cells #[.slice none 0 0, .int .u32 x.const] 29)
    have t2 := two_new ((w.alloc (.cells #[.slice a n0 c, .int .u32 x.const] 29)).alloc (.cells #[.slice none 0 0, .int .u32 0] 29)) 29 (.slice none 0 0) (.int .u32 x.const)
    simp only [World.size_alloc] at t1 t2
    exact ⟨Nat.zero_le _, t1, t2, World.ownsRow_nil _ _ _ _, rfl, World.ownsRow_nil _ _ _ _, fun q hq => (by cases hq), ((below_alloc w _).alloc (by simp) _).alloc (by simp; omega) _, by simp⟩
  case round =>
    obtain ⟨i, qs, vr, rfl, hP⟩ := hrel
    have hle := hP.out.le
    rw [← hH.out] at hle
    obtain ⟨ar, cr, hvr⟩ := own_slice hP.out.ro
    obtain ⟨nr, hnr⟩ : ∃ nr, nr = (restF F (x.terms.take i)).length := ⟨_, rfl⟩
    rw [← hnr] at hvr
    subst hvr
    obtain ⟨a6, c6, hv6⟩ := own_slice hP.out.po
    obtain ⟨n6, hn6⟩ : ∃ n6, n6 = qs.length := ⟨_, rfl⟩
    rw [← hn6] at hv6
    subst hv6
    have hnr2 : nr ≤ 4400000 := by rw [hnr]; exact hrl.out i
    have hn62 : n6 ≤ 4400000 := by
      have h1 := hpl.out i
      rw [← hP.out.ps, List.length_map] at h1
      omega
    have hnrH := Hid.intro hnr
    have hn6H := Hid.intro hn6
    have hsz := hP.out.size
    clear hnr hn6
    by_cases hin : i < n0
    · obtain ⟨t, ht, g, o, rfl, hg, hta, htl⟩ := hget.out i (by rw [← hH.out]; exact hin)
      have hta2 := hta.below hP.out.bel hg
      have q0 := hta2.name
      have q1 := hta2.coef
      have hb5 := below_alloc wr (.cells #[.string (str t.name), .int .u32 t.coef] 49)
      have hl5 := hlook.out (wr.alloc (.cells #[.string (str t.name), .int .u32 t.coef] 49)) (hP.out.bel.trans (hb5.mono hP.out.bel.size)) t htl
      have htH := Hid.intro ht
      cases hf : F t.name with
      | none =>
        have hlk := hl5.1 hf
        have hgo : Hid (∀ vr' w1 w2, Hid (Below wr.heap.size wr w1) → w2.ownsRow (w.heap.size + 1 + 1 + 1) 49 2 vr' (nr + 1) (rowT (restF F (x.terms.take i)) ++ t.cells) → w1.grownBy w2 (Value.slice ar nr cr).ownBlock → (vr'.ownBlock = (Value.slice ar nr cr).ownBlock ∨ vr'.ownBlock = some w1.heap.size) → Two w2 (w.heap.size + 1 + 1) 29 (.slice ar nr cr) (.int .u32 x.const) ∧ PSt w F x (i + 1) qs (.slice a6 n6 c6) vr' (w2.setCell ⟨w.heap.size + 1 + 1, 0, none⟩ vr')) := fun vr' w1 w2 h1 h2 h3 h4 => hP.out.stay htH.out hf h1.out (by rw [← hnrH.out]; exact h2) h3 h4
        have hro := Hid.intro hP.out.ro
        have hrs := Hid.intro hP.out.rst
        clear hta hta2 ht hf hl5 hb5
        go_upto_region 9 with fail
        all_goals first | omega | skip
        have hb6 : Below wr.heap.size wr ((wr.alloc (.cells #[.string (str t.name), .int .u32 t.coef] 49)).alloc (.cells #[.slice none 0 0, .int .u32 0] 29)) := (below_alloc wr _).alloc (by simp) _
        obtain ⟨_, u0, u1, _, _⟩ := (two_new wr 49 (.string (str t.name)) (.int .u32 t.coef)).alloc (.cells #[.slice none 0 0, .int .u32 0] 29)
        obtain ⟨_, r0, r1, _, _⟩ := hrs.out.below hb6 (by omega)
        have hro6 := Hid.intro ((own_bel hro.out hb6 (Nat.le_refl _)).alloc (.cells #[.string (str t.name), .int .u32 t.coef] 49))
        rw [← hnrH.out] at hro6
        generalize ((wr.alloc (.cells #[.string (str t.name), .int .u32 t.coef] 49)).alloc (.cells #[.slice none 0 0, .int .u32 0] 29)) = W6 at *
        have hb7 := Hid.intro (hb6.trans ((below_alloc W6 (.cells #[.string (str t.name), .int .u32 t.coef] 49)).mono hb6.size))
        have hs6 := hb6.size
        clear hb6 hro hrs hlk
        go_wp2_with (at_builtin; go_must (refine wpList_app rfl (.tmp 40) (.tmp 42) 26 rfl (w.heap.size + 1 + 1 + 1) 49 i49 _ 2 24 Try.underlying26 hi49 y0 y1 y2 rfl (by decide) (.slice ar nr cr) nr _ rfl hro6.out (.slice (some ⟨W6.heap.size, 0, none⟩) 1 1) 1 [.string (str t.name), .int .u32 t.coef] rfl (.inr ⟨_, _, rfl, cells_new W6 #[.string (str t.name), .int .u32 t.coef] 49⟩) rfl (by simp [Value.oneCell']) (by unfold maxLen; omega) (by omega) (by simp; omega) ?_; intro v5 w5 ho5 hg5 hw5; obtain ⟨a5, c5, rfl⟩ := own_slice ho5; obtain ⟨⟨_, p0, p1, pf0, pf1⟩, e2⟩ := hgo.out _ _ w5 hb7 ho5 hg5 hw5; replace e2 := Hid.intro e2; clear ho5 hg5 hw5))
        all_goals first | omega | skip
        go_roundw
        case rel => exact ⟨i + 1, qs, _, by go_num, e2⟩
        case measure => simp [intOf]; omega
      | some e =>
        obtain ⟨ae, ce, hTe, hlk⟩ := hl5.2 e hf
        have hel := hFl.out _ _ hf
        have hgo : Hid (∀ lo vn v6' w1 w', Hid (wr.heap.size ≤ lo) → Hid (Below wr.heap.size wr w1) → Hid (w1.ownsRow lo 49 2 vn (mulL e t.coef).terms.length (rowT (mulL e t.coef).terms)) → w'.ownsRow (w.heap.size + 1 + 1 + 1) 29 2 v6' (n6 + 1) (rowP qs ++ [vn, .int .u32 (e.const * t.coef % 4294967296)]) → w1.grownBy w' (Value.slice a6 n6 c6).ownBlock → PSt w F x (i + 1) (qs ++ [(mulL e t.coef, vn)]) v6' (.slice ar nr cr) w') := fun lo vn v6' w1 w' h0 h1 h2 h3 h4 => hP.out.part htH.out hf h0.out h1.out h2.out (by rw [← hn6H.out]; exact h3) h4
        have hpo := Hid.intro hP.out.po
        rw [← hn6H.out] at hpo
        clear hta hta2 ht hf hl5
        go_upto_region 8 with fail
        all_goals first | omega | skip
        have hb6 : Below wr.heap.size wr ((wr.alloc (.cells #[.string (str t.name), .int .u32 t.coef] 49)).alloc (.cells #[.slice ae e.terms.length ce, .int .u32 e.const] 29)) := hb5.alloc (by simp) _
        obtain ⟨_, u0, u1, _, _⟩ := (two_new wr 49 (.string (str t.name)) (.int .u32 t.coef)).alloc (.cells #[.slice ae e.terms.length ce, .int .u32 e.const] 29)
        obtain ⟨_, s0, s1, _, _⟩ := two_new (wr.alloc (.cells #[.string (str t.name), .int .u32 t.coef] 49)) 29 (.slice ae e.terms.length ce) (.int .u32 e.const)
        have hT6 := hTe.below ((below_alloc (wr.alloc (.cells #[.string (str t.name), .int .u32 t.coef] 49)) (.cells #[.slice ae e.terms.length ce, .int .u32 e.const] 29))) (Nat.le_refl _)
        simp only [World.size_alloc] at s0 s1
        have hpo6 := Hid.intro (own_bel hpo.out hb6 (Nat.le_refl _))
        generalize ((wr.alloc (.cells #[.string (str t.name), .int .u32 t.coef] 49)).alloc (.cells #[.slice ae e.terms.length ce, .int .u32 e.const] 29)) = W6 at *
        have h46 : Hid (Calls Try.prog 46 #[linV (.slice ae e.terms.length ce) e.const, .int .u32 t.coef] W6 fun r W7 => ∃ an nn cn, r = .returned (linV (.slice an nn cn) (e.const * t.coef % 4294967296)) ∧ Hid (W7.ownsRow W6.heap.size 49 2 (.slice an nn cn) (mulL e t.coef).terms.length (rowT (mulL e t.coef).terms)) ∧ Hid (Below W6.heap.size W6 W7)) := by
          refine (times_any ae ce e.terms e.const t.coef hel W6 hT6).mono ?_
          rintro r W7 ⟨hb, v, rfl, ho⟩
          obtain ⟨an, cn, rfl⟩ := own_slice ho
          exact ⟨an, _, cn, rfl, ho, hb⟩
        have hb6H := Hid.intro hb6
        have hs6 := hb6.size
        generalize e.terms.length = el at *
        clear hb6 hpo hlk hT6 hTe hb5
        go_wp2_with (first
          | (go_at_call 46; (with_reducible refine (h46.out).mono ?_); rintro r W7 ⟨an, nn, cn, rfl, ho7, hb7⟩; have hs7 := hb7.out.size; have hpo7 := Hid.intro ((own_bel hpo6.out hb7.out (Nat.le_refl _)).alloc (.cells #[.slice an nn cn, .int .u32 (e.const * t.coef % 4294967296)] 29)); have ho8 := Hid.intro (ho7.out.alloc (.cells #[.slice an nn cn, .int .u32 (e.const * t.coef % 4294967296)] 29)); have hb8 := Hid.intro ((hb6H.out.trans (hb7.out.mono hb6H.out.size)).trans ((below_alloc W7 (.cells #[.slice an nn cn, .int .u32 (e.const * t.coef % 4294967296)] 29)).mono (by omega))); have hlo8 : Hid (wr.heap.size ≤ W6.heap.size) := hs6)
          | (at_builtin; go_must (refine wpList_app rfl (.tmp 32) (.tmp 37) 87 rfl (w.heap.size + 1 + 1 + 1) 29 i29 _ 2 32 Try.underlying87 hi29 z0 z1 z2 rfl (by decide) (.slice a6 n6 c6) n6 _ rfl hpo7.out (.slice (some ⟨W7.heap.size, 0, none⟩) 1 1) 1 [.slice an nn cn, .int .u32 (e.const * t.coef % 4294967296)] rfl (.inr ⟨_, _, rfl, cells_new W7 #[.slice an nn cn, .int .u32 (e.const * t.coef % 4294967296)] 29⟩) rfl (by simp [Value.oneCell']) (by unfold maxLen; omega) (by omega) (by simp; omega) ?_; intro v5 w5 ho5 hg5 hw5; obtain ⟨a5, c5, rfl⟩ := own_slice ho5; have e2 := Hid.intro (hgo.out _ _ _ _ w5 hlo8 hb8 ho8 ho5 hg5); clear ho5 hg5 hw5)))
        all_goals first | omega | skip
        go_roundw
        case rel => exact ⟨i + 1, _, _, by go_num, e2⟩
        case measure => simp [intOf]; omega
    · obtain rfl : i = n0 := by omega
      have htk : x.terms.take i = x.terms := by rw [hH.out, List.take_length]
      have hPp : (qs ++ [((⟨restF F x.terms, x.const⟩ : Lin), Value.slice ar nr cr)]).map Prod.fst = partsF F x.terms ++ [⟨restF F x.terms, x.const⟩] := by
        rw [List.map_append, hP.out.ps, htk]; rfl
      have hfin : Hid (∀ v' w2, w2.ownsRow (w.heap.size + 1 + 1 + 1) 29 2 v' (n6 + 1) (rowP qs ++ [.slice ar nr cr, .int .u32 x.const]) → (wr.alloc (.cells #[.slice ar nr cr, .int .u32 x.const] 29)).grownBy w2 (Value.slice a6 n6 c6).ownBlock → ∃ a' c', v' = .slice a' (n6 + 1) c' ∧ Hid (Calls Try.prog 47 #[.slice a' (n6 + 1) c'] w2 fun e w3 => ∃ a3 n3 c3, e = .returned (linV (.slice a3 n3 c3) R.const) ∧ Hid (n3 = R.terms.length) ∧ Hid (w3.ownsRow (w.heap.size + 1 + 1 + 1) 49 2 (.slice a3 n3 c3) n3 (rowT R.terms)) ∧ Hid (Below w.heap.size w w3) ∧ Hid (Two w3 (w.heap.size + 1) 29 (.slice none 0 0) (.int .u32 0)) ∧ Hid (w.heap.size + 1 + 1 + 1 ≤ w3.heap.size))) := fun v' w2 ho hg => by
        obtain ⟨a', c', rfl⟩ := own_slice ho
        refine ⟨a', c', rfl, ?_⟩
        have hb1 := below_alloc wr (.cells #[.slice ar nr cr, .int .u32 x.const] 29)
        have hP1 := hP.out.below hb1
        generalize wr.alloc (.cells #[.slice ar nr cr, .int .u32 x.const] 29) = w1 at *
        have hk : ∀ g, (Value.slice a6 n6 c6).ownBlock = some g → w.heap.size + 1 + 1 + 1 ≤ g := fun g e => (hP1.po.lt g e).1
        have hb2 := hP1.bel.grown hg hP1.bel.size (fun g e => by have := hk g e; omega)
        have hr2 := hP1.res.grown hg (fun e => by have := hk _ e; omega)
        have hs2 : w.heap.size + 1 + 1 + 1 ≤ w2.heap.size := Nat.le_trans hP1.size hg.size
        obtain ⟨hpa, hnc, hcm⟩ := parts_at (qs := qs ++ [((⟨restF F x.terms, x.const⟩ : Lin), Value.slice ar nr cr)]) (lo' := w.heap.size + 1 + 1 + 1) (by rw [rowP_push]; exact ho) (by rw [List.length_append, ← hn6H.out]; rfl) (by omega) (fun q hq => by
          rcases List.mem_append.1 hq with hq | hq
          · exact own_ne (hP1.qo q hq).1 (own_types (hP1.qo q hq).1 hP1.po (by decide)) hg
          · rw [List.mem_singleton.1 hq]
            have := own_ne hP1.ro (own_types hP1.ro hP1.po (by decide)) hg
            rw [htk] at this
            exact this)
        rw [hPp] at hpa
        have hlen : (partsF F x.terms ++ [(⟨restF F x.terms, x.const⟩ : Lin)]).length = n6 + 1 := by rw [← hPp, List.length_map, List.length_append, ← hn6H.out]; rfl
        have hsum := sum_any S hSH.out (n6 + 1) (partsF F x.terms ++ [⟨restF F x.terms, x.const⟩]) (by omega) (by omega) (fun p hp => by
          rcases List.mem_append.1 hp with hp | hp
          · obtain ⟨t, ht, e, he, rfl⟩ := partsF_mem hp
            refine ⟨mulL_can (hFe2.out _ _ he).1 _, fun u hu => ?_⟩
            obtain ⟨_, _, y, hy, hye⟩ := mem_timesT hu
            rw [← hye]
            exact (hFe2.out _ _ he).2 y hy
          · rw [List.mem_singleton.1 hp]
            have := rest_can (F := F) hxH.out x.terms.length
            rw [List.take_length] at this
            exact ⟨this, fun u hu => hxSH.out u (List.mem_filter.1 hu).1⟩) w2 a' c' (w.heap.size + 1 + 1 + 1) (by omega) hcm hs2 hpa
        rw [hlen, show sumN (partsF F x.terms ++ [(⟨restF F x.terms, x.const⟩ : Lin)]) = R from hR.out] at hsum
        refine hsum.mono ?_
        rintro e w3 ⟨hb3, v, rfl, ho3⟩
        obtain ⟨a3, c3, rfl⟩ := own_slice ho3
        exact ⟨a3, _, c3, rfl, rfl, ho3, hb2.trans (hb3.mono hb2.size), hr2.below hb3 (by omega), Nat.le_trans hs2 hb3.size⟩
      obtain ⟨_, r0, r1, _, _⟩ := hP.out.rst
      have hpo := Hid.intro (hP.out.po.alloc (.cells #[.slice ar nr cr, .int .u32 x.const] 29))
      rw [← hn6H.out] at hpo
      clear hP hPp htk hlook hget hpl hrl hFe2 hFl hSH hxSH
      go_upto_region 13 with (first
          | (at_builtin; go_must (refine wpList_app rfl (.tmp 46) (.tmp 48) 87 rfl (w.heap.size + 1 + 1 + 1) 29 i29 _ 2 32 Try.underlying87 hi29 z0 z1 z2 rfl (by decide) (.slice a6 n6 c6) n6 _ rfl hpo.out (.slice (some ⟨wr.heap.size, 0, none⟩) 1 1) 1 [.slice ar nr cr, .int .u32 x.const] rfl (.inr ⟨_, _, rfl, cells_new wr #[.slice ar nr cr, .int .u32 x.const] 29⟩) rfl (by simp [Value.oneCell']) (by unfold maxLen; omega) (by omega) (by simp; omega) ?_; intro v5 w5 ho5 hg5 hw5; obtain ⟨a5, c5, rfl, h47⟩ := hfin.out _ w5 ho5 hg5; clear ho5 hg5 hw5))
          | (go_at_call 47; (with_reducible refine (h47.out).mono ?_); rintro r W7 ⟨a3, n3, c3, rfl, hn3, ho3, hb3, hr3, hs3⟩))
      all_goals first | omega | skip
      have hQ0 : Hid (QSt w R a3 n3 c3 W7.heap.size (W7.alloc (.cells #[.slice a3 n3 c3, .int .u32 R.const] 29))) := by
        have hs := hs3.out
        exact ⟨hr3.out.alloc _, two_new W7 29 _ _, ho3.out.alloc _, fun e => by have := (ho3.out.lt _ e).2; omega, hb3.out.trans ((below_alloc W7 _).mono hb3.out.size), hs⟩
      have hRn : Hid (∀ j, j < n3 → ∃ t, R.terms[j]? = some t ∧ t.name.length ≤ 140737488355328) := fun j hj => by
        have hj2 : j < R.terms.length := by rw [← hn3.out]; exact hj
        refine ⟨R.terms[j], List.getElem?_eq_getElem hj2, ?_⟩
        refine hSnH.out _ ?_
        have hm := List.getElem_mem hj2
        have hR2 : R.terms[j] ∈ (putN F x).terms := by rw [hR.out]; exact hm
        obtain ⟨p, hp, y, hy, e⟩ := mem_sumN hR2
        rw [← e]
        rcases List.mem_append.1 hp with hp | hp
        · obtain ⟨t, ht, e2, he, rfl⟩ := partsF_mem hp
          obtain ⟨_, _, z, hz, hze⟩ := mem_timesT hy
          rw [← hze]
          exact (hFeX.out _ _ he).2 z hz
        · rw [List.mem_singleton.1 hp] at hy
          exact hxSX.out y (List.mem_filter.1 hy).1
      have hn3b : n3 ≤ 4400000 := by
        rw [hn3.out]
        exact hRl.out
      clear hFeX hxSX hpo hfin ho3 hr3 hs3 hb3
      generalize W7.heap.size = b11 at *
      generalize W7.alloc (.cells #[.slice a3 n3 c3, .int .u32 R.const] 29) = W8 at *
      go_loopw [54] (fun v54 wr => ∃ (j : Nat), j ≤ n3 ∧ v54 = .int .i64 (j : Int) ∧ Hid (QSt w R a3 n3 c3 b11 wr)) (fun v54 _ => n3 - (intOf v54).toNat)
      case atStart => exact ⟨0, by omega, by first | rfl | go_num, hQ0⟩
      case round =>
        obtain ⟨j, hj, rfl, hQ⟩ := hrel
        clear hQ0
        by_cases hjn : j < n3
        · obtain ⟨t, htj, htl⟩ := hRn.out j hjn
          obtain ⟨g, rfl, hgc, hcell⟩ := own_addr hQ.out.own (by omega)
          have d0 := hcell (j * 2) _ ((rowT_get R.terms j 0 t htj (by omega)).trans rfl)
          have d1 := hcell (j * 2 + 1) _ ((rowT_get R.terms j 1 t htj (by omega)).trans rfl)
          have hgl := (hQ.out.own.lt g rfl).2
          have hne1 : ¬ b11 = g := fun e => hQ.out.ne (by rw [e]; rfl)
          have hne2 : ¬ g = b11 := fun e => hne1 e.symm
          have hne3 : ¬ wr.heap.size = g := by omega
          have hne4 : ¬ g = wr.heap.size := by omega
          have hQ5 := Hid.intro (hQ.out.below (below_alloc wr (.cells #[.string (str t.name), .int .u32 t.coef] 49)))
          have hn5 := Hid.intro (two_new wr 49 (.string (str t.name)) (.int .u32 t.coef))
          have htjH := Hid.intro htj
          clear hcell hQ htj
          go_upto_region 15 with fail
          all_goals first | omega | skip
          have hW5 : Below (wr.alloc (.cells #[.string (str t.name), .int .u32 t.coef] 49)).heap.size (wr.alloc (.cells #[.string (str t.name), .int .u32 t.coef] 49)) (wr.alloc (.cells #[.string (str t.name), .int .u32 t.coef] 49)).drew := (Below.refl _ _).drew
          have hlt5 : wr.heap.size < (wr.alloc (.cells #[.string (str t.name), .int .u32 t.coef] 49)).heap.size := by simp
          have hg5 : g < (wr.alloc (.cells #[.string (str t.name), .int .u32 t.coef] 49)).heap.size := (hQ5.out.own.lt g rfl).2
          have e0 := ((below_alloc wr (.cells #[.string (str t.name), .int .u32 t.coef] 49)).cell (p := ⟨g, j * 2, none⟩) hgl).trans d0
          generalize wr.alloc (.cells #[.string (str t.name), .int .u32 t.coef] 49) = W5 at *
          have hcl : Hid (Calls Try.prog 29 #[.string (str t.name)] W5.drew fun e W6 => e = .returned (.string (str t.name)) ∧ W6.cell? ⟨b11, 0, none⟩ = some (.slice (some ⟨g, 0, none⟩) n3 c3) ∧ W6.cell? ⟨wr.heap.size, 0, none⟩ = some (.string (str t.name)) ∧ W6.cell? ⟨g, j * 2, none⟩ = some (.string (str t.name)) ∧ W6.frozen? ⟨g, j * 2, none⟩ = false ∧ Hid (QSt w R (some ⟨g, 0, none⟩) n3 c3 b11 W6)) := by
            refine (clone_any (str t.name) W5.drew (by simp [str, ByteArray.size]; omega)).mono ?_
            rintro e W6 ⟨rfl, hb6⟩
            have hb7 : Below W5.heap.size W5 W6 := hW5.trans hb6
            have hQ6 := hQ5.out.below hb7
            obtain ⟨cur, hcur⟩ := own_type hQ6.own (g := g) rfl
            exact ⟨rfl, hQ6.out.c0, ((hn5.out.below hb7 hlt5).c0), (hb7.cell (p := ⟨g, j * 2, none⟩) hg5).trans e0, frozen_of_row W6 g (j * 2) _ 49 hcur, hQ6⟩
          have s0 : W5.drew.cell? ⟨b11, 0, none⟩ = some (.slice (some ⟨g, 0, none⟩) n3 c3) := hQ5.out.out.c0
          have s1 : W5.drew.cell? ⟨wr.heap.size, 0, none⟩ = some (.string (str t.name)) := hn5.out.c0
          clear hW5 hlt5 hg5 e0
          go_region_held3 (fun W => W.cell? ⟨b11, 0, none⟩ = some (.slice (some ⟨g, 0, none⟩) n3 c3) ∧ W.cell? ⟨wr.heap.size, 0, none⟩ = some (.string (str t.name))) (go_keep)
            ((first
              | (go_at_call 29; (with_reducible refine (hcl.out).mono ?_); rintro e W6 ⟨rfl, k0, k1, k2, k3, hQ6⟩)))
          have hQ7 := Hid.intro (hQ6.out.set k2)
          go_wp2_with fail
          all_goals first | omega | skip
          go_roundw
          case rel => exact ⟨j + 1, by omega, by go_num, hQ7⟩
          case measure => simp [intOf]; omega
        · obtain rfl : j = n3 := by omega
          obtain ⟨_, u0, u1, _, _⟩ := hQ.out.out
          obtain ⟨rh, r0', r1', rf0, rf1⟩ := hQ.out.res
          have rhH := Hid.intro rh
          clear rh
          go_wp2_with fail
          all_goals first | omega | skip
          obtain ⟨s1, s2⟩ := two_set rhH.out rfl (.slice a3 j c3) (.int .u32 R.const)
          have hb2 : Below w.heap.size w ((wr.setCell ⟨w.heap.size + 1, 0, none⟩ (.slice a3 j c3)).setCell ⟨w.heap.size + 1, 1, none⟩ (.int .u32 R.const)) := hQ.out.bel.grown s2 hQ.out.bel.size (fun j hj => by cases hj; omega)
          generalize ((wr.setCell ⟨w.heap.size + 1, 0, none⟩ (.slice a3 j c3)).setCell ⟨w.heap.size + 1, 1, none⟩ (.int .u32 R.const)) = w3 at s1 s2 hb2 ⊢
          obtain ⟨_, z0, z1, _, _⟩ := s1
          refine bodyPost_ret (by simp [results, Try.results30, go_sem, z0, z1]; try rfl) rfl ?_
          refine ⟨hb2, _, rfl, ?_⟩
          have ho := hQ.out.own
          rw [← hn3.out]
          exact own_weaken (own_low ho s2 (by omega)) (by omega)
end Go.Proofs.Ytebbbefknfldoaa
/- equ.Put. -/
namespace Go.Proofs.Ytebbbefknfldoaa
open Go.ChangeShapes Go.WideShapes Go.ChangeAt Go.RowKit
set_option linter.unusedVariables false
set_option linter.unusedSimpArgs false
set_option maxRecDepth 100000
structure P3 (w : World) (x : Lin) (a : Option Addr) (c : Nat) (l : List Eqv) (i : Nat) (wr : World) : Prop where
  bel : Below w.heap.size w wr
  bx : Two wr w.heap.size 29 (.slice a x.terms.length c) (.int .u32 x.const)
  res : Two wr (w.heap.size + 1) 29 (.slice none 0 0) (.int .u32 0)
  map : LinMap wr (w.heap.size + 1 + 1) i (eqF (l.take i))
theorem P3.below {w : World} {x : Lin} {a : Option Addr} {c : Nat} {l : List Eqv} {i : Nat} {wr w' : World} (h : P3 w x a c l i wr) (hb : Below wr.heap.size wr w') : P3 w x a c l i w' :=
  ⟨h.bel.trans (hb.mono h.bel.size), h.bx.below hb (Array.getElem?_eq_some_iff.1 h.bx.heap).1, h.res.below hb (Array.getElem?_eq_some_iff.1 h.res.heap).1, h.map.below hb⟩
theorem P3.put {w : World} {x : Lin} {a : Option Addr} {c : Nat} {l : List Eqv} {i : Nat} {wr w' : World} (h : P3 w x a c l i wr) {q : Eqv} (hq : l[i]? = some q) (hm : LinMap w' (w.heap.size + 1 + 1) (i + 1) (fun y => if y = q.1 then some q.2 else eqF (l.take i) y)) (hg : wr.grownBy w' (some (w.heap.size + 1 + 1))) : P3 w x a c l (i + 1) w' :=
  ⟨h.bel.grown hg h.bel.size (fun g e => by cases e; omega), h.bx.grown hg (by simp; omega), h.res.grown hg (by simp), by rw [eqF_take hq]; exact hm⟩
end Go.Proofs.Ytebbbefknfldoaa
namespace Go.Proofs.Ytebbbefknfldoaa
open Go.ChangeShapes Go.WideShapes Go.ChangeAt Go.RowKit Go.Maps
set_option linter.unusedVariables false
set_option linter.unusedSimpArgs false
set_option maxRecDepth 100000
theorem info31 : (Try.prog.info? 31).map (fun i => (i.zero, i.size, i.bytes)) = some (some (.agg #[.string ⟨#[]⟩, .slice none 0 0, .int .u32 0]), 3, 48) := by kernel_rfl
def exOf (l : List Eqv) (i : Nat) : Lin := ((l[i]?).map (·.2)).getD ⟨[], 0⟩
theorem exOf_get {l : List Eqv} {i : Nat} {q : Eqv} (h : l[i]? = some q) : exOf l i = q.2 := by unfold exOf; rw [h]; rfl
def svF (l : List Eqv) (os : List Nat) : List UInt8 → Option Lin := os.foldl (fun F i => fun s => if s = nmOf l i then some (putN F (exOf l i)) else F s) (fun _ => none)
theorem svF_snoc (l : List Eqv) (os : List Nat) (i : Nat) : svF l (os ++ [i]) = fun s => if s = nmOf l i then some (putN (svF l os) (exOf l i)) else svF l os s := by
  unfold svF
  rw [List.foldl_append]
  rfl
def nmsOf (l : List Eqv) : List (List UInt8) := l.flatMap fun q => q.2.terms.map (·.name)
theorem mem_putN {F : List UInt8 → Option Lin} {x : Lin} {t : Tm} (h : t ∈ (putN F x).terms) : (∃ u ∈ x.terms, u.name = t.name ∧ F u.name = none) ∨ ∃ s e, F s = some e ∧ ∃ u ∈ e.terms, u.name = t.name := by
  obtain ⟨p, hp, y, hy, e⟩ := mem_sumN h
  rcases List.mem_append.1 hp with hp | hp
  · obtain ⟨u, hu, e2, he, rfl⟩ := partsF_mem hp
    obtain ⟨_, _, z, hz, hze⟩ := mem_timesT hy
    exact .inr ⟨_, e2, he, z, hz, hze.trans e⟩
  · rw [List.mem_singleton.1 hp] at hy
    obtain ⟨h1, h2⟩ := List.mem_filter.1 hy
    exact .inl ⟨y, h1, e, by cases hF : F y.name with | none => rfl | some z => rw [hF] at h2; cases h2⟩
theorem snoc_ind {α : Type} {P : List α → Prop} (h0 : P []) (h1 : ∀ l a, P l → P (l ++ [a])) (l : List α) : P l := by
  have : ∀ m : List α, P m.reverse := fun m => by
    induction m with
    | nil => exact h0
    | cons a m ih => rw [List.reverse_cons]; exact h1 _ _ ih
  have := this l.reverse
  rwa [List.reverse_reverse] at this
theorem svF_can (l : List Eqv) : ∀ (os : List Nat), ∀ s e, svF l os s = some e → CanL e ∧ ∀ t ∈ e.terms, t.name ∈ nmsOf l := by
  intro os
  refine snoc_ind (P := fun os => ∀ s e, svF l os s = some e → CanL e ∧ ∀ t ∈ e.terms, t.name ∈ nmsOf l) (fun s e h => by cases h) (fun os i ih => ?_) os
  · intro s e h
    rw [svF_snoc] at h
    dsimp only at h
    split at h
    · cases h
      refine ⟨putN_can _ _, fun t ht => ?_⟩
      rcases mem_putN ht with ⟨u, hu, e, _⟩ | ⟨s', e', he, u, hu, e⟩
      · rw [← e]
        unfold exOf at hu
        cases hq : l[i]? with
        | none => rw [hq] at hu; cases hu
        | some q =>
          rw [hq] at hu
          exact List.mem_flatMap.2 ⟨q, List.mem_of_getElem? hq, List.mem_map.2 ⟨u, hu, rfl⟩⟩
      · rw [← e]
        exact (ih s' e' he).2 u hu
    · exact ih s e h
def OutIs (w : World) (g n : Nat) (p : Nat → Prop) (o : Nat → List UInt8 × Value × Int) : Prop := ∃ cur : Array Value, w.heap[g]? = some (.cells cur 31 (0, 0)) ∧ cur.size = n * 3 ∧ ∀ j, j < n → p j → cur[j * 3]? = some (.string (str (o j).1)) ∧ cur[j * 3 + 1]? = some (o j).2.1 ∧ cur[j * 3 + 2]? = some (.int .u32 (o j).2.2)
theorem OutIs.kept {w w' : World} {g n : Nat} {p : Nat → Prop} {o : Nat → List UInt8 × Value × Int} {k : Option Nat} (h : OutIs w g n p o) (hg : w.grownBy w' k) (hk : k ≠ some g) : OutIs w' g n p o := by
  obtain ⟨cur, h1, h2⟩ := h
  exact ⟨cur, (hg.block g (wblk_lt h1) (fun e => hk e.symm)).trans h1, h2⟩
theorem three_set {w : World} {g : Nat} {T : TypeId} {cur : Array Value} (h : w.heap[g]? = some (.cells cur T (0, 0))) (j : Nat) (x y z : Value) :
    (((w.setCell ⟨g, j, none⟩ x).setCell ⟨g, j + 1, none⟩ y).setCell ⟨g, j + 2, none⟩ z).heap[g]? = some (.cells (((cur.setIfInBounds j x).setIfInBounds (j + 1) y).setIfInBounds (j + 2) z) T (0, 0)) ∧ w.grownBy (((w.setCell ⟨g, j, none⟩ x).setCell ⟨g, j + 1, none⟩ y).setCell ⟨g, j + 2, none⟩ z) (some g) := by
  obtain ⟨a1, b1⟩ := row_set h j x
  obtain ⟨a2, b2⟩ := row_set a1 (j + 1) y
  obtain ⟨a3, b3⟩ := row_set a2 (j + 2) z
  refine ⟨a3, ⟨rfl, rfl, rfl, by simp, fun k hk hne => ?_⟩⟩
  have e1 := b1.block k hk hne
  have e2 := b2.block k (Nat.lt_of_lt_of_le hk b1.size) hne
  have e3 := b3.block k (Nat.lt_of_lt_of_le hk (Nat.le_trans b1.size b2.size)) hne
  exact e3.trans (e2.trans e1)
theorem OutIs.put {w : World} {g n : Nat} {p : Nat → Prop} {o : Nat → List UInt8 × Value × Int} (h : OutIs w g n p o) {i : Nat} (hi : i < n) (y : List UInt8 × Value × Int) :
    OutIs (((w.setCell ⟨g, i * 3, none⟩ (.string (str y.1))).setCell ⟨g, i * 3 + 1, none⟩ y.2.1).setCell ⟨g, i * 3 + 2, none⟩ (.int .u32 y.2.2)) g n (fun j => p j ∨ j = i) (fun j => if j = i then y else o j) ∧ w.grownBy (((w.setCell ⟨g, i * 3, none⟩ (.string (str y.1))).setCell ⟨g, i * 3 + 1, none⟩ y.2.1).setCell ⟨g, i * 3 + 2, none⟩ (.int .u32 y.2.2)) (some g) := by
  obtain ⟨cur, h1, h2, h3⟩ := h
  obtain ⟨a, b⟩ := three_set h1 (i * 3) (.string (str y.1)) y.2.1 (.int .u32 y.2.2)
  refine ⟨⟨_, a, by simp [h2], fun j hj hp => ?_⟩, b⟩
  by_cases hji : j = i
  · subst hji
    simp only [if_true, Array.getElem?_setIfInBounds]
    refine ⟨?_, ?_, ?_⟩
    · rw [if_neg (by omega), if_neg (by omega), if_pos (by omega)]
    · rw [if_neg (by omega), if_pos (by simp; omega)]
    · rw [if_pos (by simp; omega)]
  · simp only [hji, if_false, Array.getElem?_setIfInBounds]
    obtain ⟨c1, c2, c3⟩ := h3 j hj (hp.resolve_right hji)
    refine ⟨?_, ?_, ?_⟩
    · rw [if_neg (by omega), if_neg (by omega), if_neg (by omega)]; exact c1
    · rw [if_neg (by omega), if_neg (by omega), if_neg (by omega)]; exact c2
    · rw [if_neg (by omega), if_neg (by omega), if_neg (by omega)]; exact c3
structure SSt (w : World) (l : List Eqv) (os : List Nat) (ao : Option Addr) (co g B k : Nat) (v : Nat → Value) (wr : World) : Prop where
  bel : Below w.heap.size w wr
  ord : wr.ownsRow w.heap.size 3 1 (.slice ao os.length co) os.length (rowN os)
  out : OutIs wr g l.length (fun j => j ∈ os.take k) (fun j => (nmOf l j, v j, ((svF l (os.take k) (nmOf l j)).getD ⟨[], 0⟩).const))
  row : ∀ j ∈ os.take k, ∃ e, svF l (os.take k) (nmOf l j) = some e ∧ wr.ownsRow w.heap.size 49 2 (v j) e.terms.length (rowT e.terms)
  ap : ∀ i ∈ os.take k, ∀ j ∈ os.take k, i ≠ j → ∀ b, (v i).ownBlock = some b → (v j).ownBlock ≠ some b
  map : ∃ f, LnIs wr B k f ∧ ∀ s, (svF l (os.take k) s = none → f s = none) ∧ ∀ e, svF l (os.take k) s = some e → ∃ j ∈ os.take k, nmOf l j = s ∧ ∃ x : LV, f s = some x ∧ x.k = e.const ∧ v j = .slice x.a x.n x.c
  gg : w.heap.size ≤ g
  gB : w.heap.size ≤ B
section
variable {w : World} {l : List Eqv} {os : List Nat} {ao : Option Addr} {co g B k : Nat} {v : Nat → Value} {wr w' : World}
theorem SSt.below (h : SSt w l os ao co g B k v wr) (hb : Below wr.heap.size wr w') : SSt w l os ao co g B k v w' := by
  have hg : wr.grownBy w' none := ⟨hb.os, hb.tape, hb.output, hb.size, fun k hk _ => hb.block k hk⟩
  exact ⟨h.bel.trans (hb.mono h.bel.size), own_bel h.ord hb (Nat.le_refl _), h.out.kept hg (by simp), fun j hj => by obtain ⟨e, h1, h2⟩ := h.row j hj; exact ⟨e, h1, own_bel h2 hb (Nat.le_refl _)⟩, h.ap, by obtain ⟨f, h1, h2⟩ := h.map; exact ⟨f, h1.kept hg (by simp), h2⟩, h.gg, h.gB⟩
theorem SSt.lin (h : SSt w l os ao co g B k v wr) : LinMap wr B k (svF l (os.take k)) := by
  obtain ⟨f, h1, h2⟩ := h.map
  refine ⟨f, h1, fun s => ⟨(h2 s).1, fun e he => ?_⟩⟩
  obtain ⟨j, hj, hs, x, k1, k2, k3⟩ := (h2 s).2 e he
  obtain ⟨e', k4, k5⟩ := h.row j hj
  rw [hs, he] at k4
  cases k4
  rw [k3] at k5
  have hn := own_len k5
  refine ⟨x, k1, hn, k2, ?_⟩
  rw [hn] at k5
  exact own_tmLies k5
theorem out_type {w : World} {g n : Nat} {p : Nat → Prop} {o : Nat → List UInt8 × Value × Int} (h : OutIs w g n p o) {lo : Nat} {T : TypeId} {sz : Nat} {u : Value} {m : Nat} {xs : List Value} (ho : w.ownsRow lo T sz u m xs) (hT : T ≠ 31) : ∀ b, u.ownBlock = some b → some g ≠ some b := fun b e e' => by
  obtain ⟨cur, h1, _⟩ := h
  obtain ⟨cur2, h2⟩ := own_type ho e
  cases e'
  rw [h1] at h2
  injection h2 with h2
  injection h2 with _ h2
  exact hT h2.symm
theorem map_block {w : World} {b n : Nat} {f : List UInt8 → Option LV} (h : LnIs w b n f) {lo : Nat} {T : TypeId} {sz : Nat} {u : Value} {m : Nat} {xs : List Value} (ho : w.ownsRow lo T sz u m xs) : ∀ g, u.ownBlock = some g → some b ≠ some g := fun g e e' => by
  obtain ⟨es, clock, h1⟩ := h.isMap
  obtain ⟨cur2, h2⟩ := own_type ho e
  cases e'
  rw [h1] at h2
  cases h2
abbrev set3 (w : World) (g i : Nat) (y : List UInt8 × Value × Int) : World := ((w.setCell ⟨g, i * 3, none⟩ (.string (str y.1))).setCell ⟨g, i * 3 + 1, none⟩ y.2.1).setCell ⟨g, i * 3 + 2, none⟩ (.int .u32 y.2.2)
theorem SSt.mid (h : SSt w l os ao co g B k v wr) {i : Nat} (hi : i < l.length) {w3 : World} {lo : Nat} {vn : Value} {e : Lin} (hb : Below wr.heap.size wr w3) (hlo : wr.heap.size ≤ lo) (ho : w3.ownsRow lo 49 2 vn e.terms.length (rowT e.terms)) :
    ∃ f, LnIs (set3 w3 g i (nmOf l i, vn, e.const)) B k f ∧ (∀ s, (svF l (os.take k) s = none → f s = none) ∧ ∀ e, svF l (os.take k) s = some e → ∃ j ∈ os.take k, nmOf l j = s ∧ ∃ x : LV, f s = some x ∧ x.k = e.const ∧ v j = .slice x.a x.n x.c) ∧ (set3 w3 g i (nmOf l i, vn, e.const)).cell? ⟨g, i * 3 + 1, none⟩ = some vn ∧ (set3 w3 g i (nmOf l i, vn, e.const)).cell? ⟨g, i * 3 + 2, none⟩ = some (.int .u32 e.const) ∧
    (∀ j, j < 3 → w3.frozen? ⟨g, i * 3 + j, none⟩ = false ∧ ∃ u, w3.cell? ⟨g, i * 3 + j, none⟩ = some u) := by
  have h3 := h.below hb
  obtain ⟨f, m1, m2⟩ := h3.map
  obtain ⟨o1, hg⟩ := h3.out.put hi (nmOf l i, vn, e.const)
  obtain ⟨cur, c1, c2, _⟩ := h3.out
  have hne : some B ≠ some g := fun e => by
    obtain ⟨es, clock, hm⟩ := m1.isMap
    cases e
    rw [hm] at c1; cases c1
  obtain ⟨cur', d1, d2, d3⟩ := o1
  obtain ⟨_, d5, d6⟩ := d3 i hi (.inr rfl)
  simp only [if_true] at d5 d6
  refine ⟨f, m1.kept hg hne, m2, ?_, ?_, fun j hj => ⟨frozen_of_row w3 g _ cur 31 c1, ?_⟩⟩
  · rw [cell_of_row _ g _ cur' 31 (0, 0) d1]; exact d5
  · rw [cell_of_row _ g _ cur' 31 (0, 0) d1]; exact d6
  · rw [cell_of_row _ g _ cur 31 (0, 0) c1]
    exact ⟨_, Array.getElem?_eq_getElem (by omega)⟩
theorem SSt.step (h : SSt w l os ao co g B k v wr) (hnd : (l.map (·.1)).Nodup) (hin : ∀ j ∈ os, j < l.length) {i : Nat} (hk : os[k]? = some i) (hni : i ∉ os.take k) {w3 w5 : World} {lo : Nat} {x : LV} {e : Lin} (he : e = putN (svF l (os.take k)) (exOf l i)) (hb : Below wr.heap.size wr w3) (hlo : wr.heap.size ≤ lo) (hx : x.k = e.const) (ho : w3.ownsRow lo 49 2 (.slice x.a x.n x.c) e.terms.length (rowT e.terms)) {f : List UInt8 → Option LV}
    (hf : ∀ s, (svF l (os.take k) s = none → f s = none) ∧ ∀ e, svF l (os.take k) s = some e → ∃ j ∈ os.take k, nmOf l j = s ∧ ∃ x : LV, f s = some x ∧ x.k = e.const ∧ v j = .slice x.a x.n x.c) (hm : LnIs w5 B (k + 1) (fun s => if s = nmOf l i then some x else f s)) (hg5 : (set3 w3 g i (nmOf l i, .slice x.a x.n x.c, e.const)).grownBy w5 (some B)) : SSt w l os ao co g B (k + 1) (fun j => if j = i then .slice x.a x.n x.c else v j) w5 := by
  have hii : i < l.length := hin i (List.mem_of_getElem? hk)
  have htk : os.take (k + 1) = os.take k ++ [i] := by rw [List.take_add_one, hk]; rfl
  have hmem : ∀ j, j ∈ os.take (k + 1) ↔ (j ∈ os.take k ∨ j = i) := fun j => by rw [htk]; simp
  have h3 := h.below hb
  obtain ⟨f0, m1, _⟩ := h3.map
  obtain ⟨o1, hg4⟩ := h3.out.put hii (nmOf l i, .slice x.a x.n x.c, e.const)
  have hsz : w3.heap.size ≤ (set3 w3 g i (nmOf l i, .slice x.a x.n x.c, e.const)).heap.size := hg4.size
  have hsv : svF l (os.take (k + 1)) = fun s => if s = nmOf l i then some e else svF l (os.take k) s := by rw [htk, svF_snoc, he]
  have hnn : ∀ j ∈ os.take k, nmOf l j ≠ nmOf l i := fun j hj e => hni (by rw [← nm_inj hnd (hin j (List.mem_of_mem_take hj)) hii e]; exact hj)
  have hmB : ∀ {T sz u m xs lo}, w3.ownsRow lo T sz u m xs → T ≠ 31 → w5.ownsRow lo T sz u m xs := fun {T sz u m xs lo} hu hT => by
    have h4 := own_row hu (out_type h3.out hu hT) hg4
    exact own_row h4 (fun g' e' e'' => map_block m1 hu g' e' e'') hg5
  have hgB : some B ≠ some g := fun e => by
    obtain ⟨es, clock, hm⟩ := m1.isMap
    obtain ⟨cur, c1, _⟩ := h3.out
    cases e
    rw [hm] at c1; cases c1
  refine ⟨(h3.bel.grown hg4 h3.bel.size (fun j hj => by cases hj; exact h.gg)).grown hg5 (Nat.le_trans h3.bel.size hsz) (fun j hj => by cases hj; exact h.gB), hmB h3.ord (by decide), ?_, fun j hj => ?_, ?_, ?_, h.gg, h.gB⟩
  · have o2 := o1.kept hg5 hgB
    obtain ⟨cur, c1, c2, c3⟩ := o2
    refine ⟨cur, c1, c2, fun j hj hp => ?_⟩
    have := c3 j hj ((hmem j).1 hp)
    rw [hsv]
    by_cases hji : j = i
    · subst hji
      simp only [if_true] at this ⊢
      exact this
    · have hjt : j ∈ os.take k := ((hmem j).1 hp).resolve_right hji
      simp only [hji, if_false, hnn j hjt] at this ⊢
      exact this
  · by_cases hji : j = i
    · subst hji
      refine ⟨e, by rw [hsv]; simp, ?_⟩
      simp only [if_true]
      exact own_weaken (hmB ho (by decide)) (Nat.le_trans h.bel.size hlo)
    · have hjt : j ∈ os.take k := ((hmem j).1 hj).resolve_right hji
      obtain ⟨e', k1, k2⟩ := h3.row j hjt
      refine ⟨e', by rw [hsv]; simp only [hnn j hjt, if_false]; exact k1, ?_⟩
      simp only [hji, if_false]
      exact hmB k2 (by decide)
  · have hold : ∀ j ∈ os.take k, ∀ b, (v j).ownBlock = some b → b < wr.heap.size := fun j hj b e => by
      obtain ⟨e', _, k2⟩ := h.row j hj
      exact (k2.lt b e).2
    intro a ha c hc hac b hab hcb
    by_cases hai : a = i
    · by_cases hci : c = i
      · exact hac (hai.trans hci.symm)
      · simp only [hai, if_true] at hab
        simp only [hci, if_false] at hcb
        have h1 := (ho.lt b hab).1
        have h2 := hold c (((hmem c).1 hc).resolve_right hci) b hcb
        omega
    · simp only [hai, if_false] at hab
      have h2 := hold a (((hmem a).1 ha).resolve_right hai) b hab
      by_cases hci : c = i
      · simp only [hci, if_true] at hcb
        have h1 := (ho.lt b hcb).1
        omega
      · simp only [hci, if_false] at hcb
        exact h.ap a (((hmem a).1 ha).resolve_right hai) c (((hmem c).1 hc).resolve_right hci) hac b hab hcb
  · refine ⟨_, hm, fun s => ?_⟩
    rw [hsv]
    by_cases hs : s = nmOf l i
    · simp only [hs, if_true]
      exact ⟨fun h => (by cases h), fun e' he' => (by cases he'; exact ⟨i, (hmem i).2 (.inr rfl), rfl, x, rfl, hx, by simp⟩)⟩
    · simp only [hs, if_false]
      refine ⟨(hf s).1, fun e' he' => ?_⟩
      obtain ⟨j, hj, k1, y, k2, k3, k4⟩ := (hf s).2 e' he'
      have hji : j ≠ i := fun e => hs (by rw [← k1, e])
      exact ⟨j, (hmem j).2 (.inl hj), k1, y, k2, k3, by simp only [hji, if_false]; exact k4⟩
end
end Go.Proofs.Ytebbbefknfldoaa
